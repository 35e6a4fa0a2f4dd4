/- The walk of the law PackOrder, out of the contracts: it returns true, whatever the numbers and the size; nothing that was there changes. -/
import Derived.Test.YtngiadcbmfbonaaAwake
namespace Go.Proofs.Ytngiadcbmfbonaa
open Go.RowKit

theorem num_fit {n : Nat} {k : Int} (h : fits n k = true) : numS n k = be k.toNat n ∧ numE n k = 0 := by simp [numS, numE, h]
theorem num_unfit {n : Nat} {k : Int} (h : fits n k = false) : numS n k = [] ∧ numE n k = 1 := by simp [numS, numE, h]

theorem be_less (k n m : Nat) : Op.bytesLess (be k n) (be k m) = decide (n % 256 ^ k < m % 256 ^ k) := by
  induction k with
  | zero => simp [be, Op.bytesLess, Nat.mod_one]
  | succ k ih =>
    have hp : 0 < 256 ^ k := Nat.pow_pos (by decide)
    have hn : n % 256 ^ (k + 1) = (n / 256 ^ k % 256) * 256 ^ k + n % 256 ^ k := by
      rw [Nat.pow_succ, Nat.mod_mul, Nat.mul_comm (256 ^ k), Nat.add_comm]
    have hm : m % 256 ^ (k + 1) = (m / 256 ^ k % 256) * 256 ^ k + m % 256 ^ k := by
      rw [Nat.pow_succ, Nat.mod_mul, Nat.mul_comm (256 ^ k), Nat.add_comm]
    have ln : n % 256 ^ k < 256 ^ k := Nat.mod_lt _ hp
    have lm : m % 256 ^ k < 256 ^ k := Nat.mod_lt _ hp
    have bn := byte_toNat (n / 256 ^ k)
    have bm := byte_toNat (m / 256 ^ k)
    simp only [be]
    generalize UInt8.ofNat (n / 256 ^ k) = x at *
    generalize UInt8.ofNat (m / 256 ^ k) = y at *
    rw [hn, hm, ← bn, ← bm]
    generalize n % 256 ^ k = a at *
    generalize m % 256 ^ k = b at *
    generalize 256 ^ k = q at *
    simp only [Op.bytesLess, ih]
    rcases Nat.lt_trichotomy x.toNat y.toNat with h | h | h
    · have h1 : x < y := UInt8.lt_iff_toNat_lt.2 h
      have h2 : (x.toNat + 1) * q ≤ y.toNat * q := Nat.mul_le_mul_right _ h
      rw [Nat.add_mul, Nat.one_mul] at h2
      have h3 : x.toNat * q + a < y.toNat * q + b := by omega
      simp [h1, h3]
    · have h1 : x = y := UInt8.toNat_inj.1 h
      subst h1
      have h3 : (x.toNat * q + a < x.toNat * q + b) ↔ a < b := by omega
      simp [h3]
    · have h1 : ¬ x < y := fun e => by have := UInt8.lt_iff_toNat_lt.1 e; omega
      have h0 : x ≠ y := fun e => by subst e; omega
      have h2 : (y.toNat + 1) * q ≤ x.toNat * q := Nat.mul_le_mul_right _ h
      rw [Nat.add_mul, Nat.one_mul] at h2
      have h3 : ¬ x.toNat * q + a < y.toNat * q + b := by omega
      simp only [h1, h3, decide_false, Bool.false_or]
      rw [beq_eq_false_iff_ne.2 h0, Bool.false_and]

theorem be_eq (k n m : Nat) (hn : n < 256 ^ k) (hm : m < 256 ^ k) : (be k n == be k m) = ((n : Int) == (m : Int)) := by
  by_cases h : n = m
  · subst h; simp
  · have h1 : be k n ≠ be k m := fun e => h (be_inj k n m hn hm e)
    have h2 : (n : Int) ≠ (m : Int) := by omega
    rw [beq_eq_false_iff_ne.2 h1, beq_eq_false_iff_ne.2 h2]

set_option maxHeartbeats 400000 in
set_option maxRecDepth 100000 in
theorem order_walk (n m : Nat) (k : Int) (w : World) (hn : n < 2 ^ 64) (hm : m < 2 ^ 64) :
    Calls Try.prog 6 #[.int .u64 n, .int .u64 m, .int .i64 k] w fun e w' => e = .returned (.bool true) ∧ Below w.heap.size w w' := by
  have HN := Lib.hid hn
  have HM := Lib.hid hm
  clear hn hm
  go_enter Try.func6, Try.ntmps6
  go_wp2_with fail
  refine (num_any n k _ HN.out).mono ?_
  rintro e w1 ⟨rfl, hb1⟩
  go_wp2_with fail
  refine (num_any m k _ HM.out).mono ?_
  rintro e w2 ⟨rfl, hb2⟩
  have hb02 : Below w.heap.size w w2 := hb1.trans (hb2.mono hb1.size)
  by_cases f1 : fits n k = true
  · obtain ⟨s1, e1⟩ := num_fit f1
    by_cases f2 : fits m k = true
    · obtain ⟨s2, e2⟩ := num_fit f2
      rw [s1, e1, s2, e2]
      clear s1 s2 e1 e2
      simp only [fits, Bool.and_eq_true, decide_eq_true_eq] at f1 f2
      have l1 := be_less k.toNat n m
      rw [Nat.mod_eq_of_lt f1.2, Nat.mod_eq_of_lt f2.2] at l1
      have l2 := be_eq k.toNat n m f1.2 f2.2
      clear f1 f2
      go_wp2_with fail
      refine (awake_true _).mono ?_
      rintro e w5 ⟨rfl, hb5⟩
      go_wp2
      go_ret
      exact ⟨rfl, hb02.trans (hb5.mono hb02.size)⟩
    · obtain ⟨s2, e2⟩ := num_unfit (by simpa using f2)
      rw [s1, e1, s2, e2]
      clear s1 s2 e1 e2 f1 f2
      go_wp2_with fail
      refine (awake_true _).mono ?_
      rintro e w5 ⟨rfl, hb5⟩
      go_wp2
      go_ret
      exact ⟨rfl, hb02.trans (hb5.mono hb02.size)⟩
  · obtain ⟨s1, e1⟩ := num_unfit (by simpa using f1)
    by_cases f2 : fits m k = true
    · obtain ⟨s2, e2⟩ := num_fit f2
      rw [s1, e1, s2, e2]
      clear s1 s2 e1 e2 f1 f2
      go_wp2_with fail
      refine (awake_true _).mono ?_
      rintro e w5 ⟨rfl, hb5⟩
      go_wp2
      go_ret
      exact ⟨rfl, hb02.trans (hb5.mono hb02.size)⟩
    · obtain ⟨s2, e2⟩ := num_unfit (by simpa using f2)
      rw [s1, e1, s2, e2]
      clear s1 s2 e1 e2 f1 f2
      go_wp2_with fail
      refine (awake_true _).mono ?_
      rintro e w5 ⟨rfl, hb5⟩
      go_wp2
      go_ret
      exact ⟨rfl, hb02.trans (hb5.mono hb02.size)⟩

end Go.Proofs.Ytngiadcbmfbonaa
