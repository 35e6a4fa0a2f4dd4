/- Plain facts on bits that are changed in bytes, one by one, within 24 that follow one another. Nothing of the program. -/
import Derived.Test.YteobphighbdjaaaCrc
namespace Go.Proofs.Yteobphighbdjaaa

/-- The byte that has just the bit k, from the highest on. -/
def oneBit (k : Nat) : UInt8 := UInt8.ofNat (128 / 2 ^ k)

theorem oneBit_bit (k i : Nat) (hk : k < 8) (hi : i < 8) : bitOf (oneBit k) i = decide (i = k) := by
  have H : ∀ (k i : Fin 8), bitOf (oneBit k.val) i.val = decide (i.val = k.val) := by decide
  exact H ⟨k, hk⟩ ⟨i, hi⟩

theorem bitOf_xor (a b : UInt8) (i : Nat) : bitOf (a ^^^ b) i = (bitOf a i ^^ bitOf b i) := by
  unfold bitOf; rw [UInt8.toNat_xor, Nat.testBit_xor]

/-- One bit of bytes changed. -/
def flipB (l : List UInt8) (k : Nat) : List UInt8 := l.set (k / 8) (l.getD (k / 8) 0 ^^^ oneBit (k % 8))

theorem flipB_length (l : List UInt8) (k : Nat) : (flipB l k).length = l.length := by simp [flipB]

theorem flipB_bits (l : List UInt8) (k i : Nat) (hk : k < 8 * l.length) : bitsOf (flipB l k) i = (bitsOf l i ^^ decide (i = k)) := by
  unfold bitsOf flipB
  have hk8 : k / 8 < l.length := by omega
  by_cases h : i / 8 = k / 8
  · rw [h]
    have e : (l.set (k / 8) (l.getD (k / 8) 0 ^^^ oneBit (k % 8))).getD (k / 8) 0 = l.getD (k / 8) 0 ^^^ oneBit (k % 8) := by simp [hk8]
    rw [e, bitOf_xor, oneBit_bit _ _ (by omega) (by omega)]
    congr 1
    rw [decide_eq_decide]
    omega
  · have e : (l.set (k / 8) (l.getD (k / 8) 0 ^^^ oneBit (k % 8))).getD (i / 8) 0 = l.getD (i / 8) 0 := by
      simp [Ne.symm h]
    rw [e]
    have : i ≠ k := fun e => h (by rw [e])
    simp [this]

/-- Those of the first j bits of m changed, from the place a on. -/
def burstL (l : List UInt8) (m a : Nat) : Nat → List UInt8
  | 0 => l
  | j + 1 => if m.testBit j then flipB (burstL l m a j) (a + j) else burstL l m a j

theorem burstL_length (l : List UInt8) (m a j : Nat) : (burstL l m a j).length = l.length := by
  induction j with
  | zero => rfl
  | succ j ih => unfold burstL; split; rw [flipB_length, ih]; exact ih

theorem burstL_bits (l : List UInt8) (m a j i : Nat) (h : a + j ≤ 8 * l.length) : bitsOf (burstL l m a j) i = (bitsOf l i ^^ (decide (a ≤ i ∧ i < a + j) && m.testBit (i - a))) := by
  induction j with
  | zero =>
    have : ¬(a ≤ i ∧ i < a + 0) := by omega
    rw [decide_eq_false this]; simp [burstL]
  | succ j ih =>
    unfold burstL
    by_cases hm : m.testBit j = true
    · rw [if_pos hm, flipB_bits _ _ _ (by rw [burstL_length]; omega), ih (by omega)]
      by_cases hi : i = a + j
      · subst hi; simp [hm]
      · have e : decide (a ≤ i ∧ i < a + (j + 1)) = decide (a ≤ i ∧ i < a + j) := by rw [decide_eq_decide]; omega
        rw [e]; simp [hi]
    · rw [if_neg hm, ih (by omega)]
      by_cases hi : i = a + j
      · subst hi; simp [hm]
      · have e : decide (a ≤ i ∧ i < a + (j + 1)) = decide (a ≤ i ∧ i < a + j) := by rw [decide_eq_decide]; omega
        rw [e]

theorem bits_zip (a b : List UInt8) (h : a.length = b.length) (i : Nat) : bitsOf (List.zipWith (· ^^^ ·) a b) i = (bitsOf a i ^^ bitsOf b i) := by
  unfold bitsOf
  rw [← bitOf_xor]
  congr 1
  simp only [List.getD_eq_getElem?_getD, List.getElem?_zipWith]
  by_cases hi : i / 8 < a.length
  · rw [List.getElem?_eq_getElem hi, List.getElem?_eq_getElem (by omega)]; rfl
  · rw [List.getElem?_eq_none (by omega), List.getElem?_eq_none (by omega)]; rfl

theorem some_bit (m : Nat) (h0 : m ≠ 0) (h : m < 16777216) : ∃ i, i < 24 ∧ m.testBit i = true := by
  obtain ⟨i, hi⟩ := Nat.exists_testBit_of_ne_zero h0
  refine ⟨i, ?_, hi⟩
  rcases Nat.lt_or_ge i 24 with h1 | h1
  · exact h1
  · rw [Nat.testBit_lt_two_pow (Nat.lt_of_lt_of_le h (Nat.pow_le_pow_right (by omega) h1 : 2 ^ 24 ≤ 2 ^ i))] at hi
    cases hi

/-- WHAT IS CHANGED WITHIN 24 BITS CHANGES THE SUM. -/
theorem burst_ne (l : List UInt8) (x : BitVec 24) (m a : Nat) (h0 : m ≠ 0) (hm : m < 16777216) (ha : a + 24 ≤ 8 * l.length) : moreB x (burstL l m a 24) ≠ moreB x l := by
  intro h
  have h1 := moreB_xor (burstL l m a 24) l x x (burstL_length _ _ _ _)
  rw [h, BitVec.xor_self, BitVec.xor_self, moreB_feed] at h1
  refine feed_burst _ a _ ?_ ?_ ?_ h1
  · rw [List.length_zipWith, burstL_length]; omega
  · intro i _ hf
    rw [bits_zip _ _ (burstL_length _ _ _ _), burstL_bits _ _ _ _ _ ha] at hf
    have e : ∀ p q : Bool, ((p ^^ q) ^^ p) = q := by decide
    rw [e] at hf
    simp only [Bool.and_eq_true, decide_eq_true_eq] at hf
    exact hf.1
  · obtain ⟨i, hi, hb⟩ := some_bit m h0 hm
    refine ⟨i, hi, ?_⟩
    rw [bits_zip _ _ (burstL_length _ _ _ _), burstL_bits _ _ _ _ _ ha]
    have e : ∀ p q : Bool, ((p ^^ q) ^^ p) = q := by decide
    rw [e]
    simp [hb, hi]

theorem burst_sum (s : ByteArray) (n m a : Nat) (h0 : m ≠ 0) (hm : m < 16777216) (ha : a + 24 ≤ 8 * s.size) : moreN n ⟨(burstL s.data.toList m a 24).toArray⟩ ≠ moreN n s := by
  unfold moreN
  intro h
  refine burst_ne s.data.toList (BitVec.ofNat 24 n) m a h0 hm (by simpa using ha) ?_
  exact BitVec.eq_of_toNat_eq h

end Go.Proofs.Yteobphighbdjaaa
