/- Plain facts on the sum of 24 bits: it goes with exclusive or, and no step of it loses anything. Nothing of the program. -/
namespace Go.Proofs.YtdgjnjhmjgdhnaaDoor

/-- One turn to the left, changed by what went out. -/
def trn (x : BitVec 24) : BitVec 24 := (x <<< 1) ^^^ (if x.msb then 0x864cfb#24 else 0#24)

/-- Many turns. -/
def trnN : Nat → BitVec 24 → BitVec 24
  | 0, x => x
  | k + 1, x => trn (trnN k x)

/-- The sum behind one byte. -/
def addB (x : BitVec 24) (b : UInt8) : BitVec 24 := trnN 8 (x ^^^ BitVec.ofNat 24 (b.toNat * 65536))

/-- The sum behind bytes. -/
def moreB (x : BitVec 24) (l : List UInt8) : BitVec 24 := l.foldl addB x

theorem trn_xor (x y : BitVec 24) : trn (x ^^^ y) = trn x ^^^ trn y := by
  unfold trn
  rw [BitVec.shiftLeft_xor_distrib, BitVec.msb_xor]
  generalize x <<< 1 = a
  generalize y <<< 1 = b
  cases x.msb <;> cases y.msb <;> simp
  · rw [BitVec.xor_assoc]
  · rw [BitVec.xor_assoc, BitVec.xor_assoc, BitVec.xor_comm b]
  · rw [BitVec.xor_assoc, BitVec.xor_comm _ (b ^^^ _), BitVec.xor_assoc b, BitVec.xor_self, BitVec.xor_zero]

theorem trn_zero : trn 0#24 = 0#24 := by decide

theorem trn_ne (x : BitVec 24) (h : trn x = 0#24) : x = 0#24 := by
  have hm : x.msb = false := by
    cases hx : x.msb
    · rfl
    · exfalso
      have h0 := congrArg (fun z : BitVec 24 => z.getLsbD 0) h
      simp only [trn, hx, if_true, BitVec.getLsbD_xor, BitVec.getLsbD_shiftLeft] at h0
      revert h0; simp
  have h1 : x <<< 1 = 0#24 := by simpa [trn, hm] using h
  apply BitVec.eq_of_getLsbD_eq
  intro i hi
  rcases Nat.lt_or_ge i 23 with h2 | h2
  · have h3 := congrArg (fun z : BitVec 24 => z.getLsbD (i + 1)) h1
    simp only [BitVec.getLsbD_shiftLeft, BitVec.getLsbD_zero] at h3
    rw [BitVec.getLsbD_zero]
    simpa [show i + 1 < 24 by omega] using h3
  · have : i = 23 := by omega
    subst this
    rw [BitVec.msb_eq_getLsbD_last] at hm
    simpa using hm

theorem trnN_xor (k : Nat) (x y : BitVec 24) : trnN k (x ^^^ y) = trnN k x ^^^ trnN k y := by
  induction k with
  | zero => rfl
  | succ k ih => show trn _ = trn _ ^^^ trn _; rw [ih, trn_xor]

theorem trnN_zero (k : Nat) : trnN k 0#24 = 0#24 := by
  induction k with
  | zero => rfl
  | succ k ih => show trn _ = _; rw [ih, trn_zero]

theorem trnN_ne (k : Nat) (x : BitVec 24) (h : trnN k x = 0#24) : x = 0#24 := by
  induction k with
  | zero => exact h
  | succ k ih => exact ih (trn_ne _ h)

theorem trnN_add (j k : Nat) (x : BitVec 24) : trnN (j + k) x = trnN j (trnN k x) := by
  induction j with
  | zero => rw [Nat.zero_add]; rfl
  | succ j ih => rw [Nat.succ_add]; show trn _ = trn _; rw [ih]

theorem addB_xor (x y : BitVec 24) (a b : UInt8) : addB (x ^^^ y) (a ^^^ b) = addB x a ^^^ addB y b := by
  unfold addB
  rw [← trnN_xor]
  congr 1
  have e : BitVec.ofNat 24 ((a ^^^ b).toNat * 65536) = BitVec.ofNat 24 (a.toNat * 65536) ^^^ BitVec.ofNat 24 (b.toNat * 65536) := by
    rw [← BitVec.ofNat_xor]
    congr 1
    rw [UInt8.toNat_xor, show (65536 : Nat) = 2 ^ 16 from rfl, ← Nat.shiftLeft_eq, ← Nat.shiftLeft_eq, ← Nat.shiftLeft_eq, Nat.shiftLeft_xor_distrib]
  rw [e, BitVec.xor_assoc, BitVec.xor_assoc]
  congr 1
  rw [← BitVec.xor_assoc, BitVec.xor_comm y, BitVec.xor_assoc]

theorem moreB_append (x : BitVec 24) (a b : List UInt8) : moreB x (a ++ b) = moreB (moreB x a) b := by simp [moreB]
theorem moreB_cons (x : BitVec 24) (a : UInt8) (l : List UInt8) : moreB x (a :: l) = moreB (addB x a) l := rfl

theorem moreB_xor : ∀ (a b : List UInt8) (x y : BitVec 24), a.length = b.length → moreB (x ^^^ y) (List.zipWith (· ^^^ ·) a b) = moreB x a ^^^ moreB y b
  | [], [], _, _, _ => rfl
  | c :: a, d :: b, x, y, h => by
    rw [List.zipWith_cons_cons, moreB_cons, moreB_cons, moreB_cons, addB_xor]
    exact moreB_xor a b _ _ (by simpa using h)

/-- Unlike sums stay unlike. -/
theorem moreB_inj (l : List UInt8) (x y : BitVec 24) : moreB x l = moreB y l ↔ x = y := by
  constructor
  · induction l generalizing x y with
    | nil => exact id
    | cons c l ih =>
      intro h
      have h1 := ih _ _ h
      have h2 := addB_xor x y c c
      rw [h1, BitVec.xor_self] at h2
      have h3 := trnN_ne 8 _ h2
      rw [UInt8.xor_self] at h3
      have h4 : x ^^^ y = 0#24 := by simpa using h3
      exact BitVec.xor_eq_zero_iff.1 h4
  · rintro rfl; rfl

theorem addB_zero : addB 0#24 0 = 0#24 := by decide

theorem moreB_zeros (k : Nat) : moreB 0#24 (List.replicate k 0) = 0#24 := by
  induction k with
  | zero => rfl
  | succ k ih => rw [List.replicate_succ, moreB_cons, addB_zero, ih]

theorem moreB_zeros_iff (k : Nat) (x : BitVec 24) : moreB x (List.replicate k 0) = 0#24 ↔ x = 0#24 := by
  conv => lhs; rw [← moreB_zeros k]
  exact moreB_inj _ _ _

/-! Bit by bit. -/

/-- The sum behind the first bits of f. -/
def feed (x : BitVec 24) (f : Nat → Bool) : Nat → BitVec 24
  | 0 => x
  | k + 1 => trn (feed x f k ^^^ (if f k then 0x800000#24 else 0#24))

/-- The first bits of f at their places, from the highest on. -/
def plc (f : Nat → Bool) : Nat → BitVec 24
  | 0 => 0#24
  | k + 1 => plc f k ^^^ (if f k then BitVec.twoPow 24 (23 - k) else 0#24)

theorem trnN_two (k : Nat) (h : k ≤ 23) : trnN k (BitVec.twoPow 24 (23 - k)) = 0x800000#24 := by
  have H : ∀ k : Fin 24, trnN k.val (BitVec.twoPow 24 (23 - k.val)) = 0x800000#24 := by decide
  exact H ⟨k, by omega⟩

theorem feed_plc (x : BitVec 24) (f : Nat → Bool) (k : Nat) (h : k ≤ 24) : feed x f k = trnN k (x ^^^ plc f k) := by
  induction k with
  | zero => simp [feed, plc, trnN]
  | succ k ih =>
    show trn _ = trn (trnN k _)
    rw [ih (by omega)]
    congr 1
    show _ = trnN k (x ^^^ (plc f k ^^^ _))
    rw [← BitVec.xor_assoc, trnN_xor k (x ^^^ plc f k)]
    congr 1
    by_cases hf : f k = true
    · rw [if_pos hf, if_pos hf, trnN_two k (by omega)]
    · rw [if_neg hf, if_neg hf, trnN_zero]

theorem feed_add (x : BitVec 24) (f : Nat → Bool) (j k : Nat) : feed x f (j + k) = feed (feed x f j) (fun i => f (j + i)) k := by
  induction k with
  | zero => rfl
  | succ k ih => rw [← Nat.add_assoc]; show trn (feed x f (j + k) ^^^ _) = trn _; rw [ih]

theorem feed_congr (x : BitVec 24) (f g : Nat → Bool) (k : Nat) (h : ∀ i, i < k → f i = g i) : feed x f k = feed x g k := by
  induction k with
  | zero => rfl
  | succ k ih => show trn _ = trn _; rw [ih fun i hi => h i (by omega), h k (by omega)]

theorem feed_none (x : BitVec 24) (f : Nat → Bool) (k : Nat) (h : ∀ i, i < k → f i = false) : feed x f k = trnN k x := by
  induction k with
  | zero => rfl
  | succ k ih => show trn _ = trn _; rw [ih fun i hi => h i (by omega), h k (by omega)]; simp

theorem plc_bit (f : Nat → Bool) (k i : Nat) (hk : k ≤ 24) (hi : i < 24) : (plc f k).getLsbD (23 - i) = (decide (i < k) && f i) := by
  induction k with
  | zero => simp [plc]
  | succ k ih =>
    show (plc f k ^^^ _).getLsbD _ = _
    rw [BitVec.getLsbD_xor, ih (by omega)]
    by_cases hik : i = k
    · subst hik
      by_cases hf : f i = true
      · simp [hf, BitVec.getLsbD_twoPow]; omega
      · simp [hf]
    · have h2 : (if f k = true then BitVec.twoPow 24 (23 - k) else 0#24).getLsbD (23 - i) = false := by
        by_cases hf : f k = true
        · rw [if_pos hf, BitVec.getLsbD_twoPow]; simp; omega
        · rw [if_neg hf]; simp
      rw [h2, Bool.xor_false]
      congr 1
      simp; omega

/-- What is changed within 24 bits is told. -/
theorem feed_burst (f : Nat → Bool) (a n : Nat) (ha : a + 24 ≤ n) (h1 : ∀ i, i < n → f i = true → a ≤ i ∧ i < a + 24) (h2 : ∃ i, i < 24 ∧ f (a + i) = true) : feed 0#24 f n ≠ 0#24 := by
  intro h
  obtain ⟨r, rfl⟩ : ∃ r, n = a + (24 + r) := ⟨n - a - 24, by omega⟩
  rw [feed_add, feed_add] at h
  rw [feed_none 0#24 f a (fun i hi => by cases hf : f i with | false => rfl | true => have := h1 i (by omega) hf; omega), trnN_zero] at h
  rw [feed_none _ _ r (fun i hi => by cases hf : f (a + (24 + i)) with | false => rfl | true => have := h1 _ (by omega) hf; omega)] at h
  have h3 := trnN_ne _ _ h
  rw [feed_plc _ _ 24 (Nat.le_refl _)] at h3
  have h4 := trnN_ne _ _ h3
  rw [BitVec.zero_xor] at h4
  obtain ⟨i, hi, hf⟩ := h2
  have h5 := plc_bit (fun i => f (a + i)) 24 i (Nat.le_refl _) hi
  rw [h4] at h5
  simp [hi, hf] at h5

/-- The bits of a byte, the highest first. -/
def bitOf (b : UInt8) (i : Nat) : Bool := b.toNat.testBit (7 - i)
/-- The bits of bytes. -/
def bitsOf (l : List UInt8) (i : Nat) : Bool := bitOf (l.getD (i / 8) 0) (i % 8)

theorem plc_byte (b : UInt8) : plc (bitOf b) 8 = BitVec.ofNat 24 (b.toNat * 65536) := by
  apply BitVec.eq_of_getLsbD_eq
  intro j hj
  have h := plc_bit (bitOf b) 8 (23 - j) (by omega) (by omega)
  rw [show 23 - (23 - j) = j by omega] at h
  rw [h, BitVec.getLsbD_ofNat, show (65536 : Nat) = 2 ^ 16 from rfl, Nat.testBit_mul_two_pow]
  have hb : b.toNat < 2 ^ 8 := b.toNat_lt
  by_cases h1 : 16 ≤ j
  · have e : 7 - (23 - j) = j - 16 := by omega
    simp [bitOf, e, h1, hj]; omega
  · simp [h1]; omega

theorem addB_feed (x : BitVec 24) (b : UInt8) : addB x b = feed x (bitOf b) 8 := by
  rw [feed_plc _ _ 8 (by omega), plc_byte]; rfl

theorem moreB_feed (l : List UInt8) (x : BitVec 24) : moreB x l = feed x (bitsOf l) (8 * l.length) := by
  induction l generalizing x with
  | nil => rfl
  | cons c l ih =>
    rw [moreB_cons, ih, List.length_cons, show 8 * (l.length + 1) = 8 + 8 * l.length by omega, feed_add, addB_feed]
    have e1 : feed x (bitsOf (c :: l)) 8 = feed x (bitOf c) 8 := feed_congr _ _ _ 8 fun i hi => by simp [bitsOf, Nat.div_eq_of_lt hi, Nat.mod_eq_of_lt hi]
    have e2 : (fun i => bitsOf (c :: l) (8 + i)) = bitsOf l := by
      funext i
      simp [bitsOf, Nat.add_div_left i (show 0 < 8 by omega), Nat.add_mod_left]
    rw [e1, e2]

/-- The sum of a text, from a number's lowest 24 bits on. -/
def moreN (n : Nat) (s : ByteArray) : Nat := (moreB (BitVec.ofNat 24 n) s.data.toList).toNat

theorem moreN_lt (n : Nat) (s : ByteArray) : moreN n s < 16777216 := (moreB _ _).isLt

end Go.Proofs.YtdgjnjhmjgdhnaaDoor
