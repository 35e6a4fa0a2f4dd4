/- The walk of the document's Same of changes. -/
import Derived.Test.YtnlmdgbkfoofoaaCv
set_option linter.unusedVariables false
set_option linter.unusedSimpArgs false
namespace Go.Proofs.Ytnlmdgbkfoofoaa
open Go.RowKit

set_option maxHeartbeats 2000000 in
set_option maxRecDepth 100000 in
theorem dsame_any (A B : Option Addr) (c d : Nat) (xs ys : List Ch) (w : World) (ha : Chs w w.heap.size A xs) (hb : Chs w w.heap.size B ys) (hla : xs.length ≤ maxLen) :
    Calls Try.prog 16 #[.slice A xs.length c, .slice B ys.length d] w fun e w' => e = .returned (.bool (decide (xs = ys))) ∧ Below w.heap.size w w' := by
  unfold maxLen at hla
  by_cases hl : xs.length = ys.length
  · generalize hn : xs.length = n at *
    have Hl := Lib.hid hl.symm
    have Hn := Lib.hid hn
    have hne : ((n : Int) != (n : Int)) = false := by simp
    rw [← hl]
    have Ha := Lib.hid ha
    have Hb := Lib.hid hb
    clear hl hn ha hb
    go_enter Try.func16, Try.ntmps16
    go_wp2
    go_loopw [5] (fun i wr => ∃ (k : Nat), i = .int .i64 k ∧ k ≤ n ∧ Hid (xs.take k = ys.take k) ∧ Below w.heap.size w wr) (fun i _ => (n - intOf i).toNat)
    case atStart => exact ⟨0, rfl, by omega, by show _ = _; simp, Below.refl _ _⟩
    case round =>
      obtain ⟨k, rfl, hk, HT, hbr⟩ := hrel
      by_cases hlt : k < n
      · obtain ⟨a1, rfl, hab, hca⟩ := (Ha.out.below hbr).seeC (by rw [Hn.out]; omega)
        obtain ⟨b1, rfl, hbb, hcb⟩ := (Hb.out.below hbr).seeC (by rw [Hl.out]; omega)
        obtain ⟨c0, c1, c2, c3, c4, c5⟩ := hca k (by rw [Hn.out]; omega)
        obtain ⟨d0, d1, d2, d3, d4, d5⟩ := hcb k (by rw [Hl.out]; omega)
        obtain ⟨x, hx⟩ : ∃ x, x = xs[k]'(by rw [Hn.out]; omega) := ⟨_, rfl⟩
        obtain ⟨y, hy⟩ : ∃ y, y = ys[k]'(by rw [Hl.out]; omega) := ⟨_, rfl⟩
        rw [← hx] at c0 c1 c2 c3 c4 c5
        rw [← hy] at d0 d1 d2 d3 d4 d5
        have HX := Lib.hid hx
        have HY := Lib.hid hy
        clear hx hy hca hcb
        obtain ⟨ps, pk, ph, pb, pg, pa⟩ := x
        obtain ⟨qs, qk, qh, qb, qg, qa⟩ := y
        simp only at c0 c1 c2 c3 c4 c5 d0 d1 d2 d3 d4 d5
        by_cases hxy : (⟨ps, pk, ph, pb, pg, pa⟩ : Ch) = ⟨qs, qk, qh, qb, qg, qa⟩
        · injection hxy with h1 h2 h3 h4 h5 h6
          subst h1 h2 h3 h4 h5 h6
          go_wp2
          go_quiet (fail)
          go_wp2
          go_roundw
          case rel => exact ⟨k + 1, by go_num, by omega, by show _ = _; rw [List.take_succ_eq_append_getElem (by rw [Hn.out]; omega), List.take_succ_eq_append_getElem (by rw [Hl.out]; omega), HT.out, ← HX.out, ← HY.out], below_drewN hbr _⟩
          case measure => simp [intOf]; omega
        · have HE := Lib.hid (decide_eq_false (show xs ≠ ys from fun h => hxy (by rw [HX.out, HY.out]; simp [h])))
          by_cases h0 : ps = qs
          · subst h0
            by_cases h1 : pk = qk
            · subst h1
              by_cases h2 : ph = qh
              · subst h2
                by_cases h3 : pb = qb
                · subst h3
                  by_cases h4 : pg = qg
                  · subst h4
                    have h5 : pa ≠ qa := fun h => hxy (by rw [h])
                    have hz := str_ne h5
                    clear hxy h5
                    go_wp2
                    go_quiet (fail)
                    go_wp2
                    go_ret
                    rw [HE.out]
                    exact ⟨rfl, below_drewN hbr _⟩
                  · have hz : (pg == qg) = false := by simpa using h4
                    clear hxy h4
                    go_wp2
                    go_quiet (fail)
                    go_wp2
                    go_ret
                    rw [HE.out]
                    exact ⟨rfl, below_drewN hbr _⟩
                · have hz := str_ne h3
                  clear hxy h3
                  go_wp2
                  go_quiet (fail)
                  go_wp2
                  go_ret
                  rw [HE.out]
                  exact ⟨rfl, below_drewN hbr _⟩
              · have hz : (ph == qh) = false := by simpa using h2
                clear hxy h2
                go_wp2
                go_quiet (fail)
                go_wp2
                go_ret
                rw [HE.out]
                exact ⟨rfl, below_drewN hbr _⟩
            · have hz := str_ne h1
              clear hxy h1
              go_wp2
              go_quiet (fail)
              go_wp2
              go_ret
              rw [HE.out]
              exact ⟨rfl, below_drewN hbr _⟩
          · have hz : (ps == qs) = false := by simpa using h0
            clear hxy h0
            go_wp2
            go_quiet (fail)
            go_wp2
            go_ret
            rw [HE.out]
            exact ⟨rfl, below_drewN hbr _⟩
      · have hkn : k = n := by omega
        have Hk := Lib.hid hkn
        clear hkn
        go_wp2
        go_ret
        have e : xs = ys := by
          have h := HT.out
          rwa [Hk.out, List.take_of_length_le (by rw [Hn.out]; omega), List.take_of_length_le (by rw [Hl.out]; omega)] at h
        rw [decide_eq_true e]
        exact ⟨rfl, hbr⟩
  · have e : xs ≠ ys := fun h => hl (by rw [h])
    have HE := Lib.hid (decide_eq_false e)
    have hne : ((xs.length : Int) != (ys.length : Int)) = true := by simp; omega
    clear e hl ha hb
    go_enter Try.func16, Try.ntmps16
    go_wp2
    go_ret
    rw [HE.out]
    exact ⟨rfl, Below.refl _ _⟩
theorem dsame_v {v u : Value} {l m : List Ch} {w : World} (h : CV w v l) (g : CV w u m) (hn : l.length ≤ maxLen) :
    Calls Try.prog 16 #[v, u] w fun e w' => e = .returned (.bool (decide (l = m))) ∧ Below w.heap.size w w' := by
  obtain ⟨A, c, rfl, h1, h2, h3⟩ := h
  obtain ⟨B, d, rfl, g1, g2, g3⟩ := g
  exact dsame_any A B c d l m w h1 g1 hn

end Go.Proofs.Ytnlmdgbkfoofoaa
