/- The walks of the document's Right and All of notes. -/
import Derived.Test.YtfbcmcckgjfdhaaWRightN
import Derived.Test.YtfbcmcckgjfdhaaVals
import Derived.Test.YtfbcmcckgjfdhaaPhase
set_option linter.unusedVariables false
set_option linter.unusedSimpArgs false
namespace Go.Proofs.Ytfbcmcckgjfdhaa
open Go.RowKit

set_option maxRecDepth 100000 in
set_option maxHeartbeats 2000000 in
theorem dright_any (xk : Int) (xkey xval : ByteArray) (xn : UInt64) (w : World) :
    Calls Try.prog 64 #[.agg #[.int .i64 xk, .string xkey, .string xval, .int .u64 (xn.toNat : Int)]] w fun e w' => e = .returned (.bool (rightN ⟨xk, xkey, xval, xn⟩)) ∧ Below w.heap.size w w' := by
  obtain ⟨R, hR⟩ : ∃ R, R = rightN ⟨xk, xkey, xval, xn⟩ := ⟨_, rfl⟩
  rw [← hR]
  unfold rightN at hR
  simp only at hR
  by_cases h16 : xkey.size ≤ 16
  · have hd : decide (16 < (xkey.size : Int)) = false := by simp; omega
    rw [decide_eq_true h16, Bool.true_and] at hR
    by_cases h1 : xk = 1
    · subst h1
      rw [if_pos rfl] at hR
      by_cases h32 : xval.size ≤ 32
      · have hd2 : decide ((xval.size : Int) ≤ 32) = true := by simp; omega
        rw [decide_eq_true h32, Bool.true_and, ← u64_zero] at hR
        have HR := Lib.hid hR
        clear hR
        go_enter Try.func64, Try.ntmps64
        go_wp2
        go_ret
        rw [HR.out]
        exact ⟨rfl, (Below.refl _ _).alloc (Nat.le_refl _) _⟩
      · have hd2 : decide ((xval.size : Int) ≤ 32) = false := by simp; omega
        rw [decide_eq_false h32, Bool.false_and] at hR
        subst hR
        go_enter Try.func64, Try.ntmps64
        go_wp2
        go_ret
        exact ⟨rfl, (Below.refl _ _).alloc (Nat.le_refl _) _⟩
    · rw [if_neg h1] at hR
      by_cases h2 : xk = 2
      · subst h2
        rw [if_pos rfl, ← str_empty, ← u64_zero] at hR
        clear h1
        cases hb : xval.toList.isEmpty with
        | true =>
          rw [hb, Bool.true_and] at hR
          have HR := Lib.hid hR
          clear hR
          go_enter Try.func64, Try.ntmps64
          go_wp2
          go_ret
          rw [HR.out]
          exact ⟨rfl, (Below.refl _ _).alloc (Nat.le_refl _) _⟩
        | false =>
          rw [hb, Bool.false_and] at hR
          subst hR
          go_enter Try.func64, Try.ntmps64
          go_wp2
          go_ret
          exact ⟨rfl, (Below.refl _ _).alloc (Nat.le_refl _) _⟩
      · rw [if_neg h2, ← str_empty] at hR
        by_cases h3 : xk = 3
        · subst h3
          rw [decide_eq_true rfl, Bool.true_and] at hR
          clear h1 h2
          have HR := Lib.hid hR
          clear hR
          go_enter Try.func64, Try.ntmps64
          go_wp2
          go_ret
          rw [HR.out]
          exact ⟨rfl, (Below.refl _ _).alloc (Nat.le_refl _) _⟩
        · rw [decide_eq_false h3, Bool.false_and] at hR
          subst hR
          go_enter Try.func64, Try.ntmps64
          go_wp2
          go_ret
          exact ⟨rfl, (Below.refl _ _).alloc (Nat.le_refl _) _⟩
  · have hd : decide (16 < (xkey.size : Int)) = true := by simp; omega
    rw [decide_eq_false h16, Bool.false_and] at hR
    subst hR
    go_enter Try.func64, Try.ntmps64
    go_wp2
    go_ret
    exact ⟨rfl, (Below.refl _ _).alloc (Nat.le_refl _) _⟩

set_option maxRecDepth 100000 in
set_option maxHeartbeats 2000000 in
theorem dall_any (A : Option Addr) (c : Nat) (l : List Nt) (w : World) (hA : Nts w w.heap.size A l) (hn : l.length ≤ maxLen) :
    Calls Try.prog 50 #[.slice A l.length c] w fun e w' => e = .returned (.bool (l.all rightN)) ∧ Below w.heap.size w w' := by
  unfold maxLen at hn
  obtain ⟨R, hR⟩ : ∃ R, R = l.all rightN := ⟨_, rfl⟩
  rw [← hR]
  have HY := Lib.hid (show (∀ i (h : i < l.length), rightN l[i] = true) → R = true from fun h => by
    rw [hR, List.all_eq_true]
    intro x hx
    obtain ⟨i, hi, rfl⟩ := List.getElem_of_mem hx
    exact h i hi)
  have HNo := Lib.hid (show ∀ i (h : i < l.length), rightN l[i] = false → R = false from fun i h h1 => by
    rw [hR, List.all_eq_false]
    exact ⟨l[i], List.getElem_mem _, by rw [h1]; simp⟩)
  clear hR
  obtain ⟨n, hl⟩ : ∃ n, l.length = n := ⟨_, rfl⟩
  rw [hl] at hn ⊢
  have HL := Lib.hid hl
  have HA := Lib.hid hA
  clear hl hA
  go_enter Try.func50, Try.ntmps50
  go_wp2
  go_loopw [3] (fun i wr => ∃ (k : Nat), i = .int .i64 k ∧ k ≤ n ∧ Hid (∀ i (h : i < l.length), i < k → rightN l[i] = true) ∧ Below w.heap.size w wr) (fun i _ => (n - intOf i).toNat)
  case atStart => exact ⟨0, rfl, by omega, fun i h h0 => by omega, Below.refl _ _⟩
  case round =>
    obtain ⟨k, rfl, hk, HG, hbr⟩ := hrel
    by_cases hlt : k < n
    · obtain ⟨ad, rfl, hab, hca⟩ := (HA.out.below hbr).seeN (by rw [HL.out]; omega)
      have hkl : k < l.length := by rw [HL.out]; exact hlt
      obtain ⟨c1, c2, c3, c4⟩ := hca k hkl
      obtain ⟨x, hx⟩ : ∃ x, x = l[k]'hkl := ⟨_, rfl⟩
      rw [← hx] at c1 c2 c3 c4
      have HX := Lib.hid hx
      clear hx hca
      obtain ⟨xk, xkey, xval, xn⟩ := x
      simp only at c1 c2 c3 c4
      have hlt3 : (ad.add (k * 4)).block < w.heap.size := by rw [block_of_add]; exact hab
      have hbs := hbr.size
      go_wp2_with fail
      refine (dright_any xk xkey xval xn _).mono ?_
      rintro e w1 ⟨rfl, hb1⟩
      have hbr1 : Below w.heap.size w w1 := hbr.trans (hb1.mono hbs)
      clear hb1 c1 c2 c3 c4
      cases hf : rightN ⟨xk, xkey, xval, xn⟩ with
      | false =>
        have HE := Lib.hid (HNo.out k hkl (by rw [← HX.out]; exact hf))
        clear hf
        go_wp2
        go_ret
        rw [HE.out]
        exact ⟨rfl, hbr1⟩
      | true =>
        have HG2 := Lib.hid (show ∀ i (h : i < l.length), i < k + 1 → rightN l[i] = true from fun i h h1 => by
          by_cases hi : i < k
          · exact HG.out i h hi
          · have : i = k := by omega
            subst this
            rw [← HX.out]; exact hf)
        clear hf HG
        go_wp2
        go_roundw
        case rel => exact ⟨k + 1, by go_num, by omega, HG2, hbr1⟩
        case measure => simp [intOf]; omega
    · have HE := Lib.hid (HY.out fun i h => HG.out i h (by rw [HL.out] at h; omega))
      go_wp2
      go_ret
      rw [HE.out]
      exact ⟨rfl, hbr⟩

end Go.Proofs.Ytfbcmcckgjfdhaa
