/- The walk of the document's Same of notes. -/
import Derived.Test.YtfbcmcckgjfdhaaVals
set_option linter.unusedVariables false
set_option linter.unusedSimpArgs false
namespace Go.Proofs.Ytfbcmcckgjfdhaa
open Go.RowKit

set_option maxHeartbeats 2000000 in
set_option maxRecDepth 100000 in
theorem dsame_any (A B : Option Addr) (c d : Nat) (xs ys : List Nt) (w : World) (ha : Nts w w.heap.size A xs) (hb : Nts w w.heap.size B ys) (hla : xs.length ≤ maxLen) :
    Calls Try.prog 35 #[.slice A xs.length c, .slice B ys.length d] w fun e w' => e = .returned (.bool (decide (xs = ys))) ∧ Below w.heap.size w w' := by
  unfold maxLen at hla
  by_cases hl : xs.length = ys.length
  · generalize hn : xs.length = n at *
    have Hl := Lib.hid hl.symm
    have Hn := Lib.hid hn
    have hne : ((n : Int) != (n : Int)) = false := by simp
    rw [← hl]
    have Ha := Lib.hid ha
    have Hb := Lib.hid hb
    clear hl hn ha hb
    go_enter Try.func35, Try.ntmps35
    go_wp2
    go_loopw [5] (fun i wr => ∃ (k : Nat), i = .int .i64 k ∧ k ≤ n ∧ Hid (xs.take k = ys.take k) ∧ Below w.heap.size w wr) (fun i _ => (n - intOf i).toNat)
    case atStart => exact ⟨0, rfl, by omega, by show _ = _; simp, Below.refl _ _⟩
    case round =>
      obtain ⟨k, rfl, hk, HT, hbr⟩ := hrel
      by_cases hlt : k < n
      · obtain ⟨a1, rfl, hab, hca⟩ := (Ha.out.below hbr).seeN (by rw [Hn.out]; omega)
        obtain ⟨b1, rfl, hbb, hcb⟩ := (Hb.out.below hbr).seeN (by rw [Hl.out]; omega)
        obtain ⟨c1, c2, c3, c4⟩ := hca k (by rw [Hn.out]; omega)
        obtain ⟨d1, d2, d3, d4⟩ := hcb k (by rw [Hl.out]; omega)
        obtain ⟨x, hx⟩ : ∃ x, x = xs[k]'(by rw [Hn.out]; omega) := ⟨_, rfl⟩
        obtain ⟨y, hy⟩ : ∃ y, y = ys[k]'(by rw [Hl.out]; omega) := ⟨_, rfl⟩
        rw [← hx] at c1 c2 c3 c4
        rw [← hy] at d1 d2 d3 d4
        have HX := Lib.hid hx
        have HY := Lib.hid hy
        clear hx hy hca hcb
        obtain ⟨xk, xe, xv, xn⟩ := x
        obtain ⟨yk, ye, yv, yn⟩ := y
        simp only at c1 c2 c3 c4 d1 d2 d3 d4
        by_cases hxy : (⟨xk, xe, xv, xn⟩ : Nt) = ⟨yk, ye, yv, yn⟩
        · injection hxy with h1 h2 h3 h4
          subst h1 h2 h3 h4
          go_wp2
          go_quiet (fail)
          go_wp2
          go_roundw
          case rel => exact ⟨k + 1, by go_num, by omega, by show _ = _; rw [List.take_succ_eq_append_getElem (by rw [Hn.out]; omega), List.take_succ_eq_append_getElem (by rw [Hl.out]; omega), HT.out, ← HX.out, ← HY.out], below_drewN hbr _⟩
          case measure => simp [intOf]; omega
        · have HE := Lib.hid (decide_eq_false (show xs ≠ ys from fun h => hxy (by rw [HX.out, HY.out]; simp [h])))
          by_cases h1 : xk = yk
          · subst h1
            by_cases h2 : xe = ye
            · subst h2
              by_cases h3 : xv = yv
              · subst h3
                have h4 : xn ≠ yn := fun h => hxy (by rw [h])
                have hz : ((xn.toNat : Int) == (yn.toNat : Int)) = false := by
                  rw [beq_eq_false_iff_ne]
                  intro h
                  exact h4 (UInt64.toNat_inj.1 (by exact_mod_cast h))
                clear hxy h4
                go_wp2
                go_quiet (fail)
                go_wp2
                go_ret
                rw [HE.out]
                exact ⟨rfl, below_drewN hbr _⟩
              · have hz := str_ne h3
                clear hxy h3
                go_wp2
                go_quiet (fail)
                go_wp2
                go_ret
                rw [HE.out]
                exact ⟨rfl, below_drewN hbr _⟩
            · have hz := str_ne h2
              clear hxy h2
              go_wp2
              go_quiet (fail)
              go_wp2
              go_ret
              rw [HE.out]
              exact ⟨rfl, below_drewN hbr _⟩
          · have hz : (xk == yk) = false := by simpa using h1
            clear hxy h1
            go_wp2
            go_quiet (fail)
            go_wp2
            go_ret
            rw [HE.out]
            exact ⟨rfl, below_drewN hbr _⟩
      · have hkn : k = n := by omega
        have Hk := Lib.hid hkn
        clear hkn
        go_wp2
        go_ret
        have e : xs = ys := by
          have h := HT.out
          rwa [Hk.out, List.take_of_length_le (by rw [Hn.out]; omega), List.take_of_length_le (by rw [Hl.out]; omega)] at h
        rw [decide_eq_true e]
        exact ⟨rfl, hbr⟩
  · have e : xs ≠ ys := fun h => hl (by rw [h])
    have HE := Lib.hid (decide_eq_false e)
    have hne : ((xs.length : Int) != (ys.length : Int)) = true := by simp; omega
    clear e hl ha hb
    go_enter Try.func35, Try.ntmps35
    go_wp2
    go_ret
    rw [HE.out]
    exact ⟨rfl, Below.refl _ _⟩
theorem dsame_v {v u : Value} {l m : List Nt} {w : World} (h : NV w v l) (g : NV w u m) (hn : l.length ≤ maxLen) :
    Calls Try.prog 35 #[v, u] w fun e w' => e = .returned (.bool (decide (l = m))) ∧ Below w.heap.size w w' := by
  obtain ⟨A, c, rfl, h1, h2, h3⟩ := h
  obtain ⟨B, d, rfl, g1, g2, g3⟩ := g
  exact dsame_any A B c d l m w h1 g1 hn

end Go.Proofs.Ytfbcmcckgjfdhaa
