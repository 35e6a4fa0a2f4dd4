/- Plain facts on numbers and lists of bytes: the bytes of a number, the highest first, and the number of bytes. Nothing of the program. -/
import Derived.Lib.BitFns
set_option linter.unusedVariables false
set_option linter.unusedSimpArgs false
namespace Go.Proofs.Ytgpjbajfkagdbaa

/-- The last k bytes of n, the highest first. -/
def be : Nat → Nat → List UInt8
  | 0, _ => []
  | k + 1, n => UInt8.ofNat (n / 256 ^ k) :: be k n

/-- The number that bytes are, the highest first, behind a number. -/
def valFrom (n : Nat) (l : List UInt8) : Nat := l.foldl (fun n c => n * 256 + c.toNat) n
def val (l : List UInt8) : Nat := valFrom 0 l

theorem be_length (k n : Nat) : (be k n).length = k := by
  induction k with
  | zero => rfl
  | succ k ih => simp [be, ih]

theorem valFrom_append (n : Nat) (a b : List UInt8) : valFrom n (a ++ b) = valFrom (valFrom n a) b := by simp [valFrom]
theorem valFrom_cons (n : Nat) (c : UInt8) (l : List UInt8) : valFrom n (c :: l) = valFrom (n * 256 + c.toNat) l := rfl

theorem valFrom_eq (n : Nat) (l : List UInt8) : valFrom n l = n * 256 ^ l.length + val l := by
  unfold val
  induction l generalizing n with
  | nil => simp [valFrom]
  | cons c l ih =>
    rw [valFrom_cons, valFrom_cons, ih, ih (0 * 256 + c.toNat)]
    simp only [List.length_cons, Nat.pow_succ, Nat.zero_mul, Nat.zero_add, Nat.add_mul]
    rw [Nat.add_assoc, Nat.mul_assoc, Nat.mul_comm 256]

theorem val_snoc (l : List UInt8) (c : UInt8) : val (l ++ [c]) = val l * 256 + c.toNat := by
  unfold val; rw [valFrom_append]; rfl

theorem val_lt (l : List UInt8) : val l < 256 ^ l.length := by
  induction l with
  | nil => simp [val, valFrom]
  | cons c l ih =>
    have h := valFrom_eq c.toNat l
    have e : val (c :: l) = valFrom c.toNat l := by unfold val; rw [valFrom_cons]; simp
    rw [e, h, List.length_cons, Nat.pow_succ]
    have hc : c.toNat < 256 := c.toNat_lt
    calc c.toNat * 256 ^ l.length + val l < c.toNat * 256 ^ l.length + 256 ^ l.length := by omega
      _ = (c.toNat + 1) * 256 ^ l.length := by rw [Nat.add_mul, Nat.one_mul]
      _ ≤ 256 * 256 ^ l.length := Nat.mul_le_mul_right _ hc
      _ = 256 ^ l.length * 256 := Nat.mul_comm _ _

theorem byte_toNat (n : Nat) : (UInt8.ofNat n).toNat = n % 256 := by simp

theorem val_be (k n : Nat) : val (be k n) = n % 256 ^ k := by
  induction k with
  | zero => simp [be, val, valFrom, Nat.mod_one]
  | succ k ih =>
    have e : val (be (k + 1) n) = valFrom (UInt8.ofNat (n / 256 ^ k)).toNat (be k n) := by
      show valFrom 0 (_ :: _) = _
      rw [valFrom_cons]; simp
    rw [e, valFrom_eq, be_length, ih, byte_toNat, Nat.pow_succ, Nat.mod_mul, Nat.mul_comm (256 ^ k), Nat.add_comm]

theorem be_mod (k n : Nat) : be k (n % 256 ^ k) = be k n := by
  have h : ∀ j, j ≤ k → be j (n % 256 ^ k) = be j n := by
    intro j
    induction j with
    | zero => intro _; rfl
    | succ j ih =>
      intro hj
      show _ :: _ = _ :: _
      rw [ih (by omega)]
      congr 1
      apply UInt8.toNat_inj.1
      rw [byte_toNat, byte_toNat]
      have hk : 256 ^ k = 256 ^ j * 256 * 256 ^ (k - j - 1) := by
        rw [← Nat.pow_succ, ← Nat.pow_add]; congr 1; omega
      rw [hk, Nat.mul_assoc, Nat.mod_mul_right_div_self, Nat.mod_mul_right_mod]
  exact h k (Nat.le_refl _)

theorem be_val (l : List UInt8) : be l.length (val l) = l := by
  induction l with
  | nil => rfl
  | cons c l ih =>
    have e : val (c :: l) = c.toNat * 256 ^ l.length + val l := by
      have h := valFrom_eq c.toNat l
      show valFrom 0 (_ :: _) = _
      rw [valFrom_cons]; simpa using h
    have hl := val_lt l
    have hp : 0 < 256 ^ l.length := Nat.pow_pos (by decide)
    show UInt8.ofNat (val (c :: l) / 256 ^ l.length) :: be l.length (val (c :: l)) = c :: l
    have e1 : val (c :: l) / 256 ^ l.length = c.toNat := by
      rw [e, Nat.add_comm, Nat.add_mul_div_right _ _ hp, Nat.div_eq_of_lt hl, Nat.zero_add]
    have e2 : val (c :: l) % 256 ^ l.length = val l := by
      rw [e, Nat.add_comm, Nat.add_mul_mod_self_right, Nat.mod_eq_of_lt hl]
    rw [e1, ← be_mod, e2, ih]
    simp

theorem be_inj (k n m : Nat) (hn : n < 256 ^ k) (hm : m < 256 ^ k) (h : be k n = be k m) : n = m := by
  have := congrArg val h
  rwa [val_be, val_be, Nat.mod_eq_of_lt hn, Nat.mod_eq_of_lt hm] at this

/-- The bits that a number needs. -/
theorem bitLen_le_iff (x k : Nat) (hk : k ≤ 64) (hx : x < 2 ^ 64) : Lib.bitLen x ≤ k ↔ x < 2 ^ k := by
  constructor
  · intro h
    rcases Nat.lt_or_ge x (2 ^ k) with h1 | h1
    · exact h1
    · have h2 := Lib.bitLen_shift k x h1 hx
      have hp : 0 < 2 ^ k := Nat.pow_pos (by decide)
      have h3 : 1 ≤ x / 2 ^ k := (Nat.le_div_iff_mul_le hp).2 (by simpa using h1)
      have h4 : x / 2 ^ k < 2 ^ 64 := Nat.lt_of_le_of_lt (Nat.div_le_self _ _) hx
      have h5 := Lib.bitLen_half (x / 2 ^ k) (by omega) h4
      omega
  · intro h; exact Lib.bitLen_le x k hk h

end Go.Proofs.Ytgpjbajfkagdbaa
