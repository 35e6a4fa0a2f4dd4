/- The walk of Right. -/
import Derived.Test.YtgpjbajfkagdbaaWNote
set_option linter.unusedVariables false
set_option linter.unusedSimpArgs false
namespace Go.Proofs.Ytgpjbajfkagdbaa
open Go.RowKit

theorem u64_zero (n : UInt64) : ((n.toNat : Int) == 0) = decide (n = 0) := by
  rw [Bool.eq_iff_iff, beq_iff_eq, decide_eq_true_eq]
  constructor
  · intro h
    exact UInt64.toNat_inj.1 (by rw [show n.toNat = 0 by omega]; rfl)
  · rintro rfl
    rfl
theorem str_empty (x : ByteArray) : x.toList.isEmpty = decide (x = noB) := by
  by_cases h : x = noB
  · rw [h, decide_eq_true rfl, ByteArray.toList_eq]; rfl
  · rw [decide_eq_false h, str_some h]

set_option maxRecDepth 100000 in
set_option maxHeartbeats 2000000 in
theorem right_any (xk : Int) (xkey xval : ByteArray) (xn : UInt64) (w : World) :
    Calls Try.prog 55 #[.agg #[.int .i64 xk, .string xkey, .string xval, .int .u64 (xn.toNat : Int)]] w fun e w' => e = .returned (.bool (rightN ⟨xk, xkey, xval, xn⟩)) ∧ Below w.heap.size w w' := by
  obtain ⟨R, hR⟩ : ∃ R, R = rightN ⟨xk, xkey, xval, xn⟩ := ⟨_, rfl⟩
  rw [← hR]
  unfold rightN at hR
  simp only at hR
  by_cases h16 : xkey.size ≤ 16
  · have hd : decide (16 < (xkey.size : Int)) = false := by simp; omega
    rw [decide_eq_true h16, Bool.true_and] at hR
    by_cases h1 : xk = 1
    · subst h1
      rw [if_pos rfl] at hR
      by_cases h32 : xval.size ≤ 32
      · have hd2 : decide ((xval.size : Int) ≤ 32) = true := by simp; omega
        rw [decide_eq_true h32, Bool.true_and, ← u64_zero] at hR
        have HR := Lib.hid hR
        clear hR
        go_enter Try.func55, Try.ntmps55
        go_wp2
        go_ret
        rw [HR.out]
        exact ⟨rfl, (Below.refl _ _).alloc (Nat.le_refl _) _⟩
      · have hd2 : decide ((xval.size : Int) ≤ 32) = false := by simp; omega
        rw [decide_eq_false h32, Bool.false_and] at hR
        subst hR
        go_enter Try.func55, Try.ntmps55
        go_wp2
        go_ret
        exact ⟨rfl, (Below.refl _ _).alloc (Nat.le_refl _) _⟩
    · rw [if_neg h1] at hR
      by_cases h2 : xk = 2
      · subst h2
        rw [if_pos rfl, ← str_empty, ← u64_zero] at hR
        clear h1
        cases hb : xval.toList.isEmpty with
        | true =>
          rw [hb, Bool.true_and] at hR
          have HR := Lib.hid hR
          clear hR
          go_enter Try.func55, Try.ntmps55
          go_wp2
          go_ret
          rw [HR.out]
          exact ⟨rfl, (Below.refl _ _).alloc (Nat.le_refl _) _⟩
        | false =>
          rw [hb, Bool.false_and] at hR
          subst hR
          go_enter Try.func55, Try.ntmps55
          go_wp2
          go_ret
          exact ⟨rfl, (Below.refl _ _).alloc (Nat.le_refl _) _⟩
      · rw [if_neg h2, ← str_empty] at hR
        by_cases h3 : xk = 3
        · subst h3
          rw [decide_eq_true rfl, Bool.true_and] at hR
          clear h1 h2
          have HR := Lib.hid hR
          clear hR
          go_enter Try.func55, Try.ntmps55
          go_wp2
          go_ret
          rw [HR.out]
          exact ⟨rfl, (Below.refl _ _).alloc (Nat.le_refl _) _⟩
        · rw [decide_eq_false h3, Bool.false_and] at hR
          subst hR
          go_enter Try.func55, Try.ntmps55
          go_wp2
          go_ret
          exact ⟨rfl, (Below.refl _ _).alloc (Nat.le_refl _) _⟩
  · have hd : decide (16 < (xkey.size : Int)) = true := by simp; omega
    rw [decide_eq_false h16, Bool.false_and] at hR
    subst hR
    go_enter Try.func55, Try.ntmps55
    go_wp2
    go_ret
    exact ⟨rfl, (Below.refl _ _).alloc (Nat.le_refl _) _⟩


end Go.Proofs.Ytgpjbajfkagdbaa
