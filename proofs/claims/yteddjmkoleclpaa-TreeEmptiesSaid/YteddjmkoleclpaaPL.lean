/- Plain facts on numbers and lists of bytes: the bytes of a number, the highest first, and the number of bytes. Nothing of the program. -/
import Derived.Lib.BitFns
import Derived.Lib.MinMaxS
import Derived.Lib.Strings
set_option linter.unusedVariables false
set_option linter.unusedSimpArgs false
namespace Go.Proofs.Yteddjmkoleclpaa

/-- The last k bytes of n, the highest first. -/
def be : Nat → Nat → List UInt8
  | 0, _ => []
  | k + 1, n => UInt8.ofNat (n / 256 ^ k) :: be k n

/-- The number that bytes are, the highest first, behind a number. -/
def valFrom (n : Nat) (l : List UInt8) : Nat := l.foldl (fun n c => n * 256 + c.toNat) n
def val (l : List UInt8) : Nat := valFrom 0 l

theorem be_length (k n : Nat) : (be k n).length = k := by
  induction k with
  | zero => rfl
  | succ k ih => simp [be, ih]

theorem valFrom_append (n : Nat) (a b : List UInt8) : valFrom n (a ++ b) = valFrom (valFrom n a) b := by simp [valFrom]
theorem valFrom_cons (n : Nat) (c : UInt8) (l : List UInt8) : valFrom n (c :: l) = valFrom (n * 256 + c.toNat) l := rfl

theorem valFrom_eq (n : Nat) (l : List UInt8) : valFrom n l = n * 256 ^ l.length + val l := by
  unfold val
  induction l generalizing n with
  | nil => simp [valFrom]
  | cons c l ih =>
    rw [valFrom_cons, valFrom_cons, ih, ih (0 * 256 + c.toNat)]
    simp only [List.length_cons, Nat.pow_succ, Nat.zero_mul, Nat.zero_add, Nat.add_mul]
    rw [Nat.add_assoc, Nat.mul_assoc, Nat.mul_comm 256]

theorem val_snoc (l : List UInt8) (c : UInt8) : val (l ++ [c]) = val l * 256 + c.toNat := by
  unfold val; rw [valFrom_append]; rfl

theorem val_lt (l : List UInt8) : val l < 256 ^ l.length := by
  induction l with
  | nil => simp [val, valFrom]
  | cons c l ih =>
    have h := valFrom_eq c.toNat l
    have e : val (c :: l) = valFrom c.toNat l := by unfold val; rw [valFrom_cons]; simp
    rw [e, h, List.length_cons, Nat.pow_succ]
    have hc : c.toNat < 256 := c.toNat_lt
    calc c.toNat * 256 ^ l.length + val l < c.toNat * 256 ^ l.length + 256 ^ l.length := by omega
      _ = (c.toNat + 1) * 256 ^ l.length := by rw [Nat.add_mul, Nat.one_mul]
      _ ≤ 256 * 256 ^ l.length := Nat.mul_le_mul_right _ hc
      _ = 256 ^ l.length * 256 := Nat.mul_comm _ _

theorem byte_toNat (n : Nat) : (UInt8.ofNat n).toNat = n % 256 := by simp

theorem val_be (k n : Nat) : val (be k n) = n % 256 ^ k := by
  induction k with
  | zero => simp [be, val, valFrom, Nat.mod_one]
  | succ k ih =>
    have e : val (be (k + 1) n) = valFrom (UInt8.ofNat (n / 256 ^ k)).toNat (be k n) := by
      show valFrom 0 (_ :: _) = _
      rw [valFrom_cons]; simp
    rw [e, valFrom_eq, be_length, ih, byte_toNat, Nat.pow_succ, Nat.mod_mul, Nat.mul_comm (256 ^ k), Nat.add_comm]

theorem be_mod (k n : Nat) : be k (n % 256 ^ k) = be k n := by
  have h : ∀ j, j ≤ k → be j (n % 256 ^ k) = be j n := by
    intro j
    induction j with
    | zero => intro _; rfl
    | succ j ih =>
      intro hj
      show _ :: _ = _ :: _
      rw [ih (by omega)]
      congr 1
      apply UInt8.toNat_inj.1
      rw [byte_toNat, byte_toNat]
      have hk : 256 ^ k = 256 ^ j * 256 * 256 ^ (k - j - 1) := by
        rw [← Nat.pow_succ, ← Nat.pow_add]; congr 1; omega
      rw [hk, Nat.mul_assoc, Nat.mod_mul_right_div_self, Nat.mod_mul_right_mod]
  exact h k (Nat.le_refl _)

theorem be_val (l : List UInt8) : be l.length (val l) = l := by
  induction l with
  | nil => rfl
  | cons c l ih =>
    have e : val (c :: l) = c.toNat * 256 ^ l.length + val l := by
      have h := valFrom_eq c.toNat l
      show valFrom 0 (_ :: _) = _
      rw [valFrom_cons]; simpa using h
    have hl := val_lt l
    have hp : 0 < 256 ^ l.length := Nat.pow_pos (by decide)
    show UInt8.ofNat (val (c :: l) / 256 ^ l.length) :: be l.length (val (c :: l)) = c :: l
    have e1 : val (c :: l) / 256 ^ l.length = c.toNat := by
      rw [e, Nat.add_comm, Nat.add_mul_div_right _ _ hp, Nat.div_eq_of_lt hl, Nat.zero_add]
    have e2 : val (c :: l) % 256 ^ l.length = val l := by
      rw [e, Nat.add_comm, Nat.add_mul_mod_self_right, Nat.mod_eq_of_lt hl]
    rw [e1, ← be_mod, e2, ih]
    simp

theorem be_inj (k n m : Nat) (hn : n < 256 ^ k) (hm : m < 256 ^ k) (h : be k n = be k m) : n = m := by
  have := congrArg val h
  rwa [val_be, val_be, Nat.mod_eq_of_lt hn, Nat.mod_eq_of_lt hm] at this

/-- The bits that a number needs. -/
theorem bitLen_le_iff (x k : Nat) (hk : k ≤ 64) (hx : x < 2 ^ 64) : Lib.bitLen x ≤ k ↔ x < 2 ^ k := by
  constructor
  · intro h
    rcases Nat.lt_or_ge x (2 ^ k) with h1 | h1
    · exact h1
    · have h2 := Lib.bitLen_shift k x h1 hx
      have hp : 0 < 2 ^ k := Nat.pow_pos (by decide)
      have h3 : 1 ≤ x / 2 ^ k := (Nat.le_div_iff_mul_le hp).2 (by simpa using h1)
      have h4 : x / 2 ^ k < 2 ^ 64 := Nat.lt_of_le_of_lt (Nat.div_le_self _ _) hx
      have h5 := Lib.bitLen_half (x / 2 ^ k) (by omega) h4
      omega
  · intro h; exact Lib.bitLen_le x k hk h

end Go.Proofs.Yteddjmkoleclpaa

namespace Go.Proofs.Yteddjmkoleclpaa

abbrev noB : ByteArray := ⟨#[]⟩
/-- Eight bytes, the highest first; the number of a value. -/
def be8 (n : UInt64) : ByteArray := ⟨(be 8 n.toNat).toArray⟩
def numB (s : ByteArray) : UInt64 := if s.size = 8 then UInt64.ofNat (val s.data.toList) else 0

theorem be8_size (n : UInt64) : (be8 n).size = 8 := by
  show (be 8 n.toNat).toArray.size = 8
  simp [be_length]
theorem num_be8 (n : UInt64) : numB (be8 n) = n := by
  unfold numB
  rw [if_pos (be8_size n)]
  unfold be8
  simp only [List.toList_toArray, val_be]
  have := n.toNat_lt
  rw [Nat.mod_eq_of_lt (by omega)]
  simp
theorem be8_num (s : ByteArray) (h : s.size = 8) : be8 (numB s) = s := by
  unfold be8 numB
  rw [if_pos h]
  have hl : s.data.toList.length = 8 := by simpa using h
  have h1 := val_lt s.data.toList
  rw [hl] at h1
  rw [UInt64.toNat_ofNat_of_lt' (by simpa using h1)]
  have h2 := be_val s.data.toList
  rw [hl] at h2
  apply ByteArray.ext
  rw [h2]
theorem num_none : numB noB = 0 := rfl

/-- A note. -/
structure Nt where
  kind : Int
  key : ByteArray
  value : ByteArray
  n : UInt64
deriving DecidableEq

/-- What there is: a value, and whether it is there. -/
abbrev Has := ByteArray × Bool
def start (v : ByteArray) (has : Bool) : Has := (if has then v else noB, has)
def step (s : Has) (x : Nt) : Has :=
  if x.kind = 1 then (x.value, true) else if x.kind = 2 then (noB, false) else if x.kind = 3 then (be8 (numB s.1 + x.n), true) else s
def doneL (v : ByteArray) (has : Bool) (l : List Nt) : Has := l.foldl step (start v has)
theorem done_take (v : ByteArray) (has : Bool) (l : List Nt) (k : Nat) (h : k < l.length) : doneL v has (l.take (k + 1)) = step (doneL v has (l.take k)) l[k] := by
  unfold doneL
  rw [List.take_succ_eq_append_getElem h, List.foldl_append]
  rfl
theorem step1 (s : Has) (x : Nt) (h : x.kind = 1) : step s x = (x.value, true) := by unfold step; rw [if_pos h]
theorem step2 (s : Has) (x : Nt) (h : x.kind = 2) : step s x = (noB, false) := by unfold step; rw [if_neg (by omega), if_pos h]
theorem step3 (s : Has) (x : Nt) (h : x.kind = 3) : step s x = (be8 (numB s.1 + x.n), true) := by unfold step; rw [if_neg (by omega), if_neg (by omega), if_pos h]
theorem step0 (s : Has) (x : Nt) (h1 : x.kind ≠ 1) (h2 : x.kind ≠ 2) (h3 : x.kind ≠ 3) : step s x = s := by unfold step; rw [if_neg h1, if_neg h2, if_neg h3]

/-- Is it a note? -/
def rightN (x : Nt) : Bool :=
  decide (x.key.size ≤ 16) && (if x.kind = 1 then decide (x.value.size ≤ 32) && decide (x.n = 0) else if x.kind = 2 then decide (x.value = noB) && decide (x.n = 0) else decide (x.kind = 3) && decide (x.value = noB))

/-- Two as one. -/
def addedN (a b : Nt) : Nt :=
  if a.kind = 1 ∨ a.kind = 2 then ⟨1, noB, (doneL noB false [a, b]).1, 0⟩ else if a.kind = 3 then ⟨b.kind, b.key, b.value, b.n + a.n⟩ else b
def bothN (a b : Nt) : Nt :=
  let c := if b.kind = 1 ∨ b.kind = 2 then b else if b.kind = 3 then addedN a b else a
  ⟨c.kind, b.key, c.value, c.n⟩

theorem both_key (a b : Nt) : (bothN a b).key = b.key := rfl

/-- Two as one do what both do, one behind the other. -/
theorem both_step (s : Has) (a b : Nt) : step s (bothN a b) = step (step s a) b := by
  unfold bothN
  by_cases h12 : b.kind = 1 ∨ b.kind = 2
  · rw [if_pos h12]
    rcases h12 with h | h
    · rw [step1 _ b h, step1 _ _ h]
    · rw [step2 _ b h, step2 _ _ h]
  · rw [if_neg h12]
    have hb1 : b.kind ≠ 1 := fun h => h12 (.inl h)
    have hb2 : b.kind ≠ 2 := fun h => h12 (.inr h)
    by_cases h3 : b.kind = 3
    · rw [if_pos h3, step3 _ b h3]
      unfold addedN
      by_cases ha : a.kind = 1 ∨ a.kind = 2
      · rw [if_pos ha, step1 _ _ rfl]
        have e : doneL noB false [a, b] = step (step (noB, false) a) b := rfl
        simp only [e]
        rw [step3 _ b h3]
        rcases ha with h | h
        · rw [step1 _ a h, step1 _ a h]
        · rw [step2 _ a h, step2 _ a h]
      · rw [if_neg ha]
        by_cases ha3 : a.kind = 3
        · rw [if_pos ha3, step3 _ a ha3]
          show step s ⟨b.kind, b.key, b.value, b.n + a.n⟩ = _
          rw [step3 s ⟨b.kind, b.key, b.value, b.n + a.n⟩ h3]
          simp only [num_be8]
          rw [UInt64.add_assoc, UInt64.add_comm a.n]
        · rw [if_neg ha3, step0 s a (fun h => ha (.inl h)) (fun h => ha (.inr h)) ha3, step3 _ _ h3]
    · rw [if_neg h3, step0 _ b hb1 hb2 h3]
      unfold step
      rfl

theorem done_one (v : ByteArray) (has : Bool) (a : Nt) : doneL v has [a] = step (start v has) a := rfl
theorem done_two (v : ByteArray) (has : Bool) (a b : Nt) : doneL v has [a, b] = doneL v has [bothN a b] := (both_step _ a b).symm
theorem done_three (v : ByteArray) (has : Bool) (a b c : Nt) : doneL v has [bothN (bothN a b) c] = doneL v has [bothN a (bothN b c)] := by
  simp only [done_one, both_step]

theorem rightN_iff (x : Nt) : rightN x = true ↔ x.key.size ≤ 16 ∧ ((x.kind = 1 ∧ x.value.size ≤ 32 ∧ x.n = 0) ∨ (x.kind = 2 ∧ x.value = noB ∧ x.n = 0) ∨ (x.kind = 3 ∧ x.value = noB)) := by
  unfold rightN
  by_cases h1 : x.kind = 1
  · simp [h1]
  · by_cases h2 : x.kind = 2
    · simp [h2]
    · simp [h1, h2]

theorem both_right (a b : Nt) (ha : rightN a = true) (hb : rightN b = true) : rightN (bothN a b) = true := by
  rw [rightN_iff] at ha hb ⊢
  obtain ⟨_, ha⟩ := ha
  obtain ⟨hk, hb⟩ := hb
  refine ⟨hk, ?_⟩
  unfold bothN
  by_cases h12 : b.kind = 1 ∨ b.kind = 2
  · rw [if_pos h12]
    exact hb
  · rw [if_neg h12]
    have hb3 : b.kind = 3 ∧ b.value = noB := by
      rcases hb with h | h | h
      · exact absurd (.inl h.1) h12
      · exact absurd (.inr h.1) h12
      · exact h
    rw [if_pos hb3.1]
    unfold addedN
    by_cases h : a.kind = 1 ∨ a.kind = 2
    · rw [if_pos h]
      refine .inl ⟨rfl, ?_, rfl⟩
      show (step (step (start noB false) a) b).1.size ≤ 32
      rw [step3 _ b hb3.1, be8_size]
      decide
    · rw [if_neg h]
      have ha3 : a.kind = 3 := by
        rcases ha with h1 | h1 | h1
        · exact absurd (.inl h1.1) h
        · exact absurd (.inr h1.1) h
        · exact h1.1
      rw [if_pos ha3]
      exact .inr (.inr hb3)

/-- Notes put together, one by one. -/
theorem chain_step (s : Has) (l : List Nt) (a : Nt) : step s (l.foldl bothN a) = l.foldl step (step s a) := by
  induction l generalizing a with
  | nil => rfl
  | cons b l ih => rw [List.foldl_cons, ih, both_step, List.foldl_cons]
theorem chain_done (v : ByteArray) (has : Bool) (a : Nt) (l : List Nt) : doneL v has (a :: l) = doneL v has [l.foldl bothN a] := by
  show l.foldl step (step (start v has) a) = step (start v has) (l.foldl bothN a)
  rw [chain_step]
theorem chain_key (a : Nt) (l : List Nt) : (l.foldl bothN a).key = ((a :: l).getLast (by simp)).key := by
  induction l generalizing a with
  | nil => rfl
  | cons b l ih =>
    rw [List.foldl_cons, ih]
    cases l with
    | nil => rfl
    | cons c l => simp
theorem chain_take (a : Nt) (l : List Nt) (k : Nat) (h : k < l.length) : (l.take (k + 1)).foldl bothN a = bothN ((l.take k).foldl bothN a) l[k] := by
  rw [List.take_succ_eq_append_getElem h, List.foldl_append]
  rfl

/-- Behind a Put, or a Del, nothing that came ahead matters. -/
theorem last_done (v u : ByteArray) (has is : Bool) (l m : List Nt) (n : Nt) (h : n.kind = 1 ∨ n.kind = 2) : doneL v has (l ++ n :: m) = doneL u is (n :: m) := by
  unfold doneL
  rw [List.foldl_append, List.foldl_cons, List.foldl_cons]
  rcases h with h | h
  · rw [step1 _ n h, step1 _ n h]
  · rw [step2 _ n h, step2 _ n h]

/-! Numbers that are added. -/
def addN (n : UInt64) : Nt := ⟨3, noB, noB, n⟩
def sumU (l : List UInt64) : UInt64 := l.foldl (· + ·) 0
theorem sumU_snoc (l : List UInt64) (n : UInt64) : sumU (l ++ [n]) = sumU l + n := by unfold sumU; rw [List.foldl_append]; rfl
theorem sumU_take (l : List UInt64) (k : Nat) (h : k < l.length) : sumU (l.take (k + 1)) = sumU (l.take k) + l[k] := by
  rw [List.take_succ_eq_append_getElem h, sumU_snoc]
theorem adds_fold (s : Has) (l : List UInt64) : ((l.map addN).foldl step s = if l = [] then s else (be8 (numB s.1 + sumU l), true)) := by
  have H : ∀ (l : List UInt64), numB ((l.map addN).foldl step s).1 = numB s.1 + sumU l ∧ (l ≠ [] → (l.map addN).foldl step s = (be8 (numB s.1 + sumU l), true)) := by
    intro l
    induction hn : l.length generalizing l with
    | zero =>
      rw [List.length_eq_zero_iff] at hn
      subst hn
      exact ⟨by simp [sumU], fun h => absurd rfl h⟩
    | succ n ih =>
      have hne : l ≠ [] := by intro h; rw [h] at hn; simp at hn
      have e : l = l.dropLast ++ [l.getLast hne] := (List.dropLast_concat_getLast hne).symm
      have h1 := (ih l.dropLast (by simp [hn])).1
      have h2 : (l.map addN).foldl step s = (be8 (numB s.1 + sumU l), true) := by
        rw [e, List.map_append, List.foldl_append]
        show step _ (addN (l.getLast hne)) = _
        rw [step3 _ _ rfl, h1, sumU_snoc, ← UInt64.add_assoc]
        rfl
      exact ⟨by rw [h2]; exact num_be8 _, fun _ => h2⟩
  by_cases h : l = []
  · rw [if_pos h, h]; rfl
  · rw [if_neg h]; exact (H l).2 h
theorem adds_done (v : ByteArray) (has : Bool) (l : List UInt64) (h : l ≠ []) : doneL v has (l.map addN) = (be8 ((if has then numB v else 0) + sumU l), true) := by
  unfold doneL
  rw [adds_fold, if_neg h]
  cases has <;> rfl

/-- The same numbers, from another place on and backwards. -/
def turned (l : List UInt64) (c : Nat) : List UInt64 := (List.range l.length).map fun i => l.getD ((l.length - i + c) % l.length) 0
theorem getD_at (l : List UInt64) (k : Nat) (h : k < l.length) : l.getD k 0 = l[k] := by simp [List.getD, h]
theorem turned_length (l : List UInt64) (c : Nat) : (turned l c).length = l.length := by simp [turned]
theorem turned_at (l : List UInt64) (c i : Nat) (h : i < l.length) : (turned l c)[i]'(by rw [turned_length]; exact h) = l.getD ((l.length - i + c) % l.length) 0 := by simp [turned]
theorem turned_sum (l : List UInt64) (c : Nat) : sumU (turned l c) = sumU l := by
  rcases Nat.eq_zero_or_pos l.length with h0 | hpos
  · rw [List.length_eq_zero_iff] at h0; subst h0; rfl
  have hc : c % l.length < l.length := Nat.mod_lt _ hpos
  have hmod : ∀ i, i < l.length → (l.length - i + c) % l.length = if i ≤ c % l.length then c % l.length - i else l.length + c % l.length - i := by
    intro i hi
    have e : l.length - i + c = (l.length - i + c % l.length) + l.length * (c / l.length) := by have := Nat.mod_add_div c l.length; omega
    rw [e, Nat.add_mul_mod_self_left]
    by_cases h : i ≤ c % l.length
    · rw [if_pos h, show l.length - i + c % l.length = (c % l.length - i) + l.length by omega, Nat.add_mod_right, Nat.mod_eq_of_lt (by omega)]
    · rw [if_neg h, Nat.mod_eq_of_lt (by omega)]; omega
  generalize c % l.length = d at hc hmod
  have H : ∀ k, k ≤ l.length → (k ≤ d + 1 → sumU ((turned l c).take k) + sumU (l.take (d + 1 - k)) = sumU (l.take (d + 1))) ∧
      (d + 1 ≤ k → sumU ((turned l c).take k) + sumU (l.take (l.length + d + 1 - k)) = sumU (l.take (d + 1)) + sumU l) := by
    intro k
    induction k with
    | zero => intro _; exact ⟨fun _ => by simp [sumU], fun h => by omega⟩
    | succ k ih =>
      intro hk
      obtain ⟨i1, i2⟩ := ih (by omega)
      have ht : sumU ((turned l c).take (k + 1)) = sumU ((turned l c).take k) + l.getD ((l.length - k + c) % l.length) 0 := by
        rw [sumU_take _ k (by rw [turned_length]; omega), turned_at l c k (by omega)]
      have up : k + 1 ≤ d + 1 → sumU ((turned l c).take (k + 1)) + sumU (l.take (d + 1 - (k + 1))) = sumU (l.take (d + 1)) := by
        intro h
        rw [ht, hmod k (by omega), if_pos (by omega), ← i1 (by omega), show d + 1 - k = (d - k) + 1 by omega, sumU_take l (d - k) (by omega), getD_at l (d - k) (by omega), show d + 1 - (k + 1) = d - k by omega]
        rw [UInt64.add_assoc, UInt64.add_comm (l[d - k])]
      refine ⟨up, fun h => ?_⟩
      by_cases hd : d + 1 = k + 1
      · rw [show l.length + d + 1 - (k + 1) = l.length by omega, List.take_length, ← up (by omega), show d + 1 - (k + 1) = 0 by omega, List.take_zero]
        show _ = _ + sumU [] + _
        rw [show sumU [] = 0 from rfl, UInt64.add_zero]
      · rw [ht, hmod k (by omega), if_neg (by omega), ← i2 (by omega), show l.length + d + 1 - k = (l.length + d - k) + 1 by omega, sumU_take l (l.length + d - k) (by omega), getD_at l (l.length + d - k) (by omega), show l.length + d + 1 - (k + 1) = l.length + d - k by omega]
        rw [UInt64.add_assoc, UInt64.add_comm (l[l.length + d - k])]
  have hl := (H l.length (Nat.le_refl _)).2 (by omega)
  rw [← turned_length l c, List.take_length, turned_length, show l.length + d + 1 - l.length = d + 1 by omega, UInt64.add_comm] at hl
  have cancel : ∀ p x y : UInt64, p + x = p + y → x = y := fun p x y h => by
    have h2 := congrArg (fun z => z - p) h
    rwa [UInt64.add_comm p x, UInt64.add_comm p y, UInt64.add_sub_cancel, UInt64.add_sub_cancel] at h2
  exact cancel _ _ _ hl

end Go.Proofs.Yteddjmkoleclpaa

namespace Go.Proofs.Yteddjmkoleclpaa

/-- Go's '<' and '<=' on strings. -/
def ltS (a b : ByteArray) : Bool := Op.bytesLess a.toList b.toList
def leS (a b : ByteArray) : Bool := Op.bytesLess a.toList b.toList || a.toList == b.toList

theorem bl_irrefl : ∀ l : List UInt8, Op.bytesLess l l = false
  | [] => rfl
  | a :: l => by simp [Op.bytesLess, bl_irrefl l]
theorem bl_trans : ∀ x y z : List UInt8, Op.bytesLess x y = true → Op.bytesLess y z = true → Op.bytesLess x z = true
  | [], [], _, h, _ => by simp [Op.bytesLess] at h
  | [], _ :: _, [], _, h => by simp [Op.bytesLess] at h
  | [], _ :: _, _ :: _, _, _ => by simp [Op.bytesLess]
  | _ :: _, [], _, h, _ => by simp [Op.bytesLess] at h
  | _ :: _, _ :: _, [], _, h => by simp [Op.bytesLess] at h
  | a :: x, b :: y, c :: z, h, g => by
    simp only [Op.bytesLess, Bool.or_eq_true, decide_eq_true_eq, Bool.and_eq_true, beq_iff_eq] at h g ⊢
    rcases h with h | ⟨rfl, h⟩
    · rcases g with g | ⟨rfl, g⟩
      · exact .inl (UInt8.lt_trans h g)
      · exact .inl h
    · rcases g with g | ⟨rfl, g⟩
      · exact .inl g
      · exact .inr ⟨rfl, bl_trans x y z h g⟩
theorem bl_tri : ∀ x y : List UInt8, Op.bytesLess x y = false → Op.bytesLess y x = false → x = y
  | [], [], _, _ => rfl
  | [], _ :: _, h, _ => by simp [Op.bytesLess] at h
  | _ :: _, [], _, h => by simp [Op.bytesLess] at h
  | a :: x, b :: y, h, g => by
    simp only [Op.bytesLess, Bool.or_eq_false_iff, decide_eq_false_iff_not, Bool.and_eq_false_iff, beq_eq_false_iff_ne] at h g
    have e : a = b := UInt8.le_antisymm (UInt8.not_lt.1 g.1) (UInt8.not_lt.1 h.1)
    subst e
    rw [bl_tri x y (by simpa using h.2) (by simpa using g.2)]

theorem tl_inj {a b : ByteArray} (h : a.toList = b.toList) : a = b := by
  rw [ByteArray.toList_eq, ByteArray.toList_eq] at h
  exact ByteArray.ext (Array.toList_inj.1 h)

instance : LE ByteArray := ⟨fun a b => ltS b a = false⟩
instance : LT ByteArray := ⟨fun a b => ltS a b = true⟩
instance (a b : ByteArray) : Decidable (a ≤ b) := inferInstanceAs (Decidable (ltS b a = false))
instance (a b : ByteArray) : Decidable (a < b) := inferInstanceAs (Decidable (ltS a b = true))
theorem le_iff {a b : ByteArray} : a ≤ b ↔ ltS b a = false := Iff.rfl
theorem lt_iff {a b : ByteArray} : a < b ↔ ltS a b = true := Iff.rfl
theorem lt_asym {a b : ByteArray} (h : a < b) : ltS b a = false := by
  cases e : ltS b a with
  | false => rfl
  | true =>
    have := bl_trans _ _ _ h e
    rw [bl_irrefl] at this
    cases this
instance : Std.IsLinearOrder ByteArray where
  le_refl a := bl_irrefl _
  le_trans a b c h1 h2 := by
    show ltS c a = false
    cases e : ltS c a with
    | false => rfl
    | true =>
      exfalso
      have h3 : ltS b a = false := h1
      have h4 : ltS c b = false := h2
      cases e2 : ltS a b with
      | true =>
        have := bl_trans _ _ _ e e2
        unfold ltS at h4
        rw [this] at h4; cases h4
      | false =>
        have := tl_inj (bl_tri _ _ e2 h3)
        subst this
        rw [e] at h4; cases h4
  le_antisymm a b h1 h2 := tl_inj (bl_tri _ _ h2 h1)
  le_total a b := by
    show ltS b a = false ∨ ltS a b = false
    cases e : ltS b a with
    | false => exact .inl rfl
    | true => exact .inr (lt_asym e)
instance : Std.LawfulOrderLT ByteArray where
  lt_iff a b := by
    constructor
    · intro h
      exact ⟨lt_asym h, fun h2 => by have h3 : ltS a b = false := h2; have h4 : ltS a b = true := h; rw [h3] at h4; cases h4⟩
    · rintro ⟨_, h2⟩
      show ltS a b = true
      cases e : ltS a b with
      | true => rfl
      | false => exact absurd e h2

theorem ltS_eq (a b : ByteArray) : ltS a b = decide (a < b) := by
  cases e : ltS a b with
  | true => exact (decide_eq_true (lt_iff.2 e)).symm
  | false => exact (decide_eq_false (fun h => by rw [lt_iff.1 h] at e; cases e)).symm
theorem leS_eq (a b : ByteArray) : leS a b = decide (a ≤ b) := by
  have h1 : leS a b = (ltS a b || a.toList == b.toList) := rfl
  by_cases h : a ≤ b
  · rw [decide_eq_true h, h1, ltS_eq]
    by_cases e : a < b
    · rw [decide_eq_true e]; rfl
    · have : a = b := by grind
      subst this; simp
  · rw [decide_eq_false h, h1, ltS_eq]
    have h2 : ¬ a < b := by grind
    have h3 : a.toList ≠ b.toList := fun e => h (by have := tl_inj e; subst this; grind)
    rw [decide_eq_false h2, beq_eq_false_iff_ne.2 h3]; rfl

theorem maxS_eq (a b : ByteArray) : Lib.maxS a b = if a < b then b else a := by
  unfold Lib.maxS
  have : (a.data.toList < b.data.toList) ↔ a < b := by
    rw [lt_iff]; unfold ltS; rw [Proofs.bytesLess_eq, Lib.toList_data, Lib.toList_data]; simp
  simp only [this]
theorem minS_eq (a b : ByteArray) : Lib.minS a b = if a ≤ b then a else b := by
  unfold Lib.minS
  have h1 : (a.data.toList < b.data.toList) ↔ a < b := by
    rw [lt_iff]; unfold ltS; rw [Proofs.bytesLess_eq, Lib.toList_data, Lib.toList_data]; simp
  have h2 : (a.data.toList = b.data.toList) ↔ a = b := ⟨fun h => ByteArray.ext (Array.toList_inj.1 h), fun h => by rw [h]⟩
  have h3 : (a < b ∨ a = b) ↔ a ≤ b := by grind
  simp only [h1, h2, h3]

/-- The empty text. -/
def noS : ByteArray := ⟨#[]⟩
theorem noS_le (a : ByteArray) : noS ≤ a := by
  rw [le_iff]; unfold ltS noS
  have : (ByteArray.mk #[]).toList = [] := by rw [ByteArray.toList_eq]
  rw [this]
  cases a.toList <;> rfl

/-- The least key that is greater. -/
def nextS (k : ByteArray) : ByteArray := k ++ ⟨#[0]⟩
theorem bl_next : ∀ (k o : List UInt8), Op.bytesLess o (k ++ [0]) = !Op.bytesLess k o
  | [], [] => rfl
  | [], a :: o => by
    have h : ¬ a < 0 := by rw [UInt8.lt_iff_toNat_lt]; exact Nat.not_lt_zero _
    simp only [List.nil_append, Op.bytesLess, decide_eq_false h, Bool.false_or]
    cases o <;> simp [Op.bytesLess]
  | a :: k, [] => rfl
  | a :: k, b :: o => by
    simp only [List.cons_append, Op.bytesLess, bl_next k o]
    by_cases h : a = b
    · subst h; simp
    · have h1 : (a == b) = false := beq_eq_false_iff_ne.2 h
      have h2 : (b == a) = false := beq_eq_false_iff_ne.2 (Ne.symm h)
      rw [h1, h2]
      by_cases h3 : a < b
      · have : ¬ b < a := UInt8.not_lt.2 (UInt8.le_of_lt h3)
        simp [h3, this]
      · have : b < a := by
          rcases UInt8.lt_or_lt_of_ne h with h4 | h4
          · exact absurd h4 h3
          · exact h4
        simp [h3, this]
theorem next_le (k o : ByteArray) : nextS k ≤ o ↔ k < o := by
  rw [le_iff, lt_iff]
  unfold ltS nextS
  have : (k ++ ⟨#[0]⟩ : ByteArray).toList = k.toList ++ [0] := by rw [ByteArray.toList_eq, ByteArray.toList_eq]; simp
  rw [this, bl_next]
  simp

/-- A range. -/
structure Rng where
  lo : ByteArray
  hi : ByteArray
  op : Bool
deriving DecidableEq

def Rng.v (r : Rng) : Value := .agg #[.string r.lo, .string r.hi, .bool r.op]

def inB (r : Rng) (k : ByteArray) : Bool := leS r.lo k && (r.op || ltS k r.hi)
def emptyB (r : Rng) : Bool := !inB r r.lo
def endsB (r o : Rng) : Bool := o.op || (!r.op && leS r.hi o.hi)
def withinB (r o : Rng) : Bool := emptyB r || (leS o.lo r.lo && endsB r o)
def smallB (r : Rng) : Bool := decide (r.lo.size ≤ 300) && decide (r.hi.size ≤ 300)
def rightB (r : Rng) : Bool := !(r.op && (r.hi.toList != [])) && (decide (r.lo.size ≤ 16) && decide (r.hi.size ≤ 17))
def meet2 (a b : Rng) : Rng := ⟨Lib.maxS a.lo b.lo, if a.op then (if b.op then noS else b.hi) else (if b.op then a.hi else Lib.minS a.hi b.hi), a.op && b.op⟩
def allR : Rng := ⟨noS, noS, true⟩
def meetL (l : List Rng) : Rng := l.foldl meet2 allR
def behindR (r : Rng) (k : ByteArray) : Rng := ⟨Lib.maxS r.lo (nextS k), r.hi, r.op⟩

theorem inB_iff (r : Rng) (k : ByteArray) : inB r k = true ↔ r.lo ≤ k ∧ (r.op = true ∨ k < r.hi) := by
  unfold inB; rw [leS_eq, ltS_eq]; simp
theorem emptyB_iff (r : Rng) : emptyB r = true ↔ r.op = false ∧ r.hi ≤ r.lo := by
  unfold emptyB
  rw [Bool.not_eq_true']
  rw [← Bool.not_eq_true, inB_iff]
  cases r.op <;> simp <;> grind
theorem endsB_iff (r o : Rng) : endsB r o = true ↔ o.op = true ∨ (r.op = false ∧ r.hi ≤ o.hi) := by
  unfold endsB; rw [leS_eq]; simp
theorem withinB_iff (r o : Rng) : withinB r o = true ↔ (r.op = false ∧ r.hi ≤ r.lo) ∨ (o.lo ≤ r.lo ∧ (o.op = true ∨ (r.op = false ∧ r.hi ≤ o.hi))) := by
  unfold withinB; rw [Bool.or_eq_true, Bool.and_eq_true, emptyB_iff, endsB_iff, leS_eq]; simp

theorem in_meet2 (a b : Rng) (k : ByteArray) : inB (meet2 a b) k = (inB a k && inB b k) := by
  rw [Bool.eq_iff_iff, Bool.and_eq_true, inB_iff, inB_iff, inB_iff]
  unfold meet2
  simp only [maxS_eq, minS_eq]
  cases a.op <;> cases b.op <;> simp <;> grind
theorem in_all (k : ByteArray) : inB allR k = true := by rw [inB_iff]; exact ⟨noS_le k, .inl rfl⟩
theorem in_foldl (l : List Rng) (m : Rng) (k : ByteArray) : inB (l.foldl meet2 m) k = (inB m k && l.all (inB · k)) := by
  induction l generalizing m with
  | nil => simp
  | cons r l ih => rw [List.foldl_cons, ih, in_meet2, List.all_cons, Bool.and_assoc]
theorem in_meetL (l : List Rng) (k : ByteArray) : inB (meetL l) k = l.all (inB · k) := by
  unfold meetL; rw [in_foldl, in_all, Bool.true_and]

theorem within_trans {a b c : Rng} (h : withinB a b = true) (g : withinB b c = true) : withinB a c = true := by
  rw [withinB_iff] at *; grind
theorem within_in {a b : Rng} {k : ByteArray} (h : withinB a b = true) (g : inB a k = true) : inB b k = true := by
  rw [withinB_iff] at h; rw [inB_iff] at *; grind
theorem empty_in {a : Rng} (k : ByteArray) (h : emptyB a = true) : inB a k = false := by
  rw [emptyB_iff] at h
  rw [← Bool.not_eq_true, inB_iff]
  obtain ⟨h1, h2⟩ := h
  rw [h1]; grind
theorem empty_within {a b : Rng} (h : emptyB a = true) : withinB a b = true := by unfold withinB; rw [h]; rfl
theorem in_behind (a : Rng) (k o : ByteArray) : inB (behindR a k) o = (inB a o && !leS o k) := by
  rw [Bool.eq_iff_iff, Bool.and_eq_true, inB_iff, inB_iff, leS_eq]
  unfold behindR
  simp only [maxS_eq]
  have := next_le k o
  have := next_le k a.lo
  simp only [Bool.not_eq_true', decide_eq_false_iff_not]
  grind

/-! Order: what ranges have in common hangs on which ranges there are, and on nothing else. -/
def Norm (r : Rng) : Prop := r.op = true → r.hi = noS
def leR (a b : Rng) : Prop := b.lo ≤ a.lo ∧ (b.op = true ∨ (a.op = false ∧ a.hi ≤ b.hi))
theorem leR_antisymm {a b : Rng} (ha : Norm a) (hb : Norm b) (h : leR a b) (g : leR b a) : a = b := by
  obtain ⟨al, ah, ao⟩ := a
  obtain ⟨bl, bh, bo⟩ := b
  unfold leR at h g
  unfold Norm at ha hb
  simp only at *
  have e1 : al = bl := by grind
  have e2 : ao = bo := by cases ao <;> cases bo <;> simp_all
  subst e1 e2
  have e3 : ah = bh := by
    cases ao
    · simp at h g; grind
    · rw [ha rfl, hb rfl]
  subst e3; rfl
theorem leR_trans {a b c : Rng} (h : leR a b) (g : leR b c) : leR a c := by unfold leR at *; grind
theorem meet2_l (a b : Rng) : leR (meet2 a b) a := by
  unfold leR meet2; simp only [maxS_eq, minS_eq]; cases a.op <;> cases b.op <;> simp <;> grind
theorem meet2_r (a b : Rng) : leR (meet2 a b) b := by
  unfold leR meet2; simp only [maxS_eq, minS_eq]; cases a.op <;> cases b.op <;> simp <;> grind
theorem meet2_g {a b m : Rng} (h : leR m a) (g : leR m b) : leR m (meet2 a b) := by
  unfold leR meet2 at *; simp only [maxS_eq, minS_eq]; cases ha : a.op <;> cases hb : b.op <;> simp_all <;> grind
theorem meet2_norm (a b : Rng) : Norm (meet2 a b) := by
  unfold Norm meet2; cases a.op <;> cases b.op <;> simp
theorem foldl_norm (l : List Rng) {m : Rng} (h : Norm m) : Norm (l.foldl meet2 m) := by
  induction l generalizing m with
  | nil => exact h
  | cons r l ih => exact ih (meet2_norm m r)
theorem meetL_norm (l : List Rng) : Norm (meetL l) := foldl_norm l (fun _ => rfl)
theorem leR_refl (a : Rng) : leR a a := by unfold leR; cases a.op <;> simp <;> grind
theorem foldl_le (l : List Rng) (m : Rng) : leR (l.foldl meet2 m) m ∧ ∀ r ∈ l, leR (l.foldl meet2 m) r := by
  induction l generalizing m with
  | nil => exact ⟨leR_refl m, by simp⟩
  | cons r l ih =>
    obtain ⟨h1, h2⟩ := ih (meet2 m r)
    refine ⟨leR_trans h1 (meet2_l m r), fun x hx => ?_⟩
    rcases List.mem_cons.1 hx with rfl | hx
    · exact leR_trans h1 (meet2_r m x)
    · exact h2 x hx
theorem foldl_g (l : List Rng) {m q : Rng} (h : leR q m) (g : ∀ r ∈ l, leR q r) : leR q (l.foldl meet2 m) := by
  induction l generalizing m with
  | nil => exact h
  | cons r l ih => exact ih (meet2_g h (g r (by simp))) (fun x hx => g x (by simp [hx]))
theorem leR_all (a : Rng) : leR a allR := ⟨noS_le _, .inl rfl⟩
theorem meetL_same {l k : List Rng} (h : ∀ r, r ∈ l ↔ r ∈ k) : meetL l = meetL k :=
  leR_antisymm (meetL_norm l) (meetL_norm k) (foldl_g k (leR_all _) fun r hr => (foldl_le l allR).2 r ((h r).2 hr)) (foldl_g l (leR_all _) fun r hr => (foldl_le k allR).2 r ((h r).1 hr))
theorem meetL_twice {m : Rng} (h : Norm m) : meetL [m, m] = m :=
  leR_antisymm (meetL_norm _) h ((foldl_le [m, m] allR).2 m (by simp)) (foldl_g _ (leR_all _) fun r hr => by
    have : r = m := by simpa using hr
    subst this; exact leR_refl _)

theorem leR_within {a b : Rng} (h : leR a b) : withinB a b = true := (withinB_iff _ _).2 (.inr h)
theorem meet_within (a b : Rng) : withinB (meetL [a, b]) a = true ∧ withinB (meetL [a, b]) b = true :=
  ⟨leR_within ((foldl_le [a, b] allR).2 a (by simp)), leR_within ((foldl_le [a, b] allR).2 b (by simp))⟩

/-! The document's Meet, a round. -/
def refStep (m r : Rng) : Rng :=
  ⟨if m.lo < r.lo then r.lo else m.lo, if r.op = false ∧ (m.op = true ∨ r.hi < m.hi) then r.hi else m.hi, if r.op = false ∧ (m.op = true ∨ r.hi < m.hi) then false else m.op⟩
theorem refStep_eq {m : Rng} (r : Rng) (h : Norm m) : refStep m r = meet2 m r := by
  unfold refStep meet2
  simp only [maxS_eq, minS_eq]
  unfold Norm at h
  cases hm : m.op <;> cases hr : r.op <;> simp_all <;> grind

/-! The last law's halves. -/
theorem halves (r : Rng) (key : ByteArray) : emptyB (meetL [⟨r.lo, key, false⟩, ⟨key, r.hi, r.op⟩]) = true := by
  have h := in_meetL [⟨r.lo, key, false⟩, ⟨key, r.hi, r.op⟩] (meetL [⟨r.lo, key, false⟩, ⟨key, r.hi, r.op⟩]).lo
  unfold emptyB
  rw [h, Bool.not_eq_true', ← Bool.not_eq_true]
  simp only [List.all_cons, List.all_nil, Bool.and_true, Bool.and_eq_true, inB_iff]
  generalize (meetL _).lo = x
  intro ⟨h1, h2⟩
  have : x < key := by simpa using h1.2
  have : key ≤ x := h2.1
  grind
theorem halves_in (r : Rng) (key x : ByteArray) (h : inB r x = true) (g : ltS key r.lo = false) (k : inB r key = true) : inB ⟨r.lo, key, false⟩ x ≠ inB ⟨key, r.hi, r.op⟩ x := by
  rw [inB_iff] at h k
  intro e
  rw [Bool.eq_iff_iff, inB_iff, inB_iff] at e
  simp only at e
  grind

end Go.Proofs.Yteddjmkoleclpaa

namespace Go.Proofs.Yteddjmkoleclpaa

/-- A pair. -/
structure Pr where
  k : ByteArray
  v : ByteArray
deriving DecidableEq

def fitsP (p : Pr) : Bool := decide (p.k.size ≤ 16) && decide (p.v.size ≤ 32)
theorem fitsP_iff (p : Pr) : fitsP p = true ↔ p.k.size ≤ 16 ∧ p.v.size ≤ 32 := by unfold fitsP; simp
/-- Do they stand well? -/
def wellL (l : List Pr) : Bool := decide (∀ i (h : i < l.length), fitsP l[i] = true ∧ (0 < i → l[i - 1].k < l[i].k))
theorem wellL_iff (l : List Pr) : wellL l = true ↔ ∀ i (h : i < l.length), fitsP l[i] = true ∧ (0 < i → l[i - 1].k < l[i].k) := by unfold wellL; exact decide_eq_true_iff
theorem wellL_no {l : List Pr} (i : Nat) (h : i < l.length) (hn : ¬ (fitsP l[i] = true ∧ (0 < i → l[i - 1].k < l[i].k))) : wellL l = false := by
  cases e : wellL l with
  | false => rfl
  | true => exact absurd ((wellL_iff l).1 e i h) hn

abbrev Sorted (l : List Pr) : Prop := l.Pairwise fun a b => a.k < b.k
theorem sorted_cons {p : Pr} {l : List Pr} : Sorted (p :: l) ↔ (∀ q ∈ l, p.k < q.k) ∧ Sorted l := List.pairwise_cons
theorem sorted_get {l : List Pr} : Sorted l ↔ ∀ (i j : Nat) (hi : i < l.length) (hj : j < l.length), i < j → l[i].k < l[j].k := List.pairwise_iff_getElem
theorem well_sorted {l : List Pr} (h : wellL l = true) : Sorted l := by
  rw [wellL_iff] at h
  rw [sorted_get]
  intro i j hi hj hij
  obtain ⟨d, rfl⟩ : ∃ d, j = i + d + 1 := ⟨j - i - 1, by omega⟩
  induction d with
  | zero => exact (h (i + 0 + 1) hj).2 (by omega)
  | succ d ih =>
    have h1 := ih (by omega) (by omega)
    have h2 := (h (i + (d + 1) + 1) hj).2 (by omega)
    have e : l[i + (d + 1) + 1 - 1] = l[i + d + 1]'(by omega) := by congr 1
    rw [e] at h2
    grind
theorem well_fits {l : List Pr} (h : wellL l = true) : ∀ p ∈ l, fitsP p = true := by
  intro p hp
  obtain ⟨i, hi, rfl⟩ := List.getElem_of_mem hp
  exact ((wellL_iff l).1 h i hi).1
theorem well_of {l : List Pr} (hs : Sorted l) (hf : ∀ p ∈ l, fitsP p = true) : wellL l = true := by
  rw [wellL_iff]
  intro i hi
  refine ⟨hf _ (List.getElem_mem hi), fun h0 => ?_⟩
  exact (List.pairwise_iff_getElem.1 hs) (i - 1) i (by omega) hi (by omega)

/-- The value of a key. -/
def getL (l : List Pr) (k : ByteArray) : Option ByteArray := (l.find? fun p => decide (p.k = k)).map Pr.v
theorem getL_nil (k : ByteArray) : getL [] k = none := rfl
theorem getL_cons (p : Pr) (l : List Pr) (k : ByteArray) : getL (p :: l) k = if p.k = k then some p.v else getL l k := by
  unfold getL
  rw [List.find?_cons]
  by_cases h : p.k = k <;> simp [h]
theorem getL_none {l : List Pr} {k : ByteArray} (h : ∀ p ∈ l, p.k ≠ k) : getL l k = none := by
  induction l with
  | nil => rfl
  | cons p l ih =>
    rw [getL_cons, if_neg (h p (by simp))]
    exact ih fun q hq => h q (by simp [hq])
theorem getL_append (a b : List Pr) (k : ByteArray) : getL (a ++ b) k = (getL a k).or (getL b k) := by
  induction a with
  | nil => simp [getL_nil]
  | cons p a ih =>
    rw [List.cons_append, getL_cons, getL_cons, ih]
    by_cases h : p.k = k <;> simp [h]
theorem getL_filter (f : ByteArray → Bool) (l : List Pr) (k : ByteArray) : getL (l.filter fun p => f p.k) k = if f k then getL l k else none := by
  induction l with
  | nil => simp [getL_nil]
  | cons p l ih =>
    rw [List.filter_cons, getL_cons]
    by_cases h : p.k = k
    · subst h
      by_cases h2 : f p.k = true
      · rw [if_pos h2, getL_cons]; simp [h2]
      · rw [if_neg h2, ih]; simp [h2]
    · by_cases h2 : f p.k = true
      · rw [if_pos h2, getL_cons, if_neg h, if_neg h, ih]
      · rw [if_neg h2, if_neg h, ih]
theorem getL_some {l : List Pr} {k v : ByteArray} (h : getL l k = some v) : ∃ i, ∃ hi : i < l.length, l[i] = ⟨k, v⟩ := by
  induction l with
  | nil => cases h
  | cons p l ih =>
    rw [getL_cons] at h
    by_cases e : p.k = k
    · rw [if_pos e] at h
      injection h with h
      exact ⟨0, by simp, by cases p; simp_all⟩
    · rw [if_neg e] at h
      obtain ⟨i, hi, he⟩ := ih h
      exact ⟨i + 1, by simpa using hi, by simpa using he⟩
theorem getL_mem {l : List Pr} (hs : Sorted l) (i : Nat) (hi : i < l.length) : getL l l[i].k = some l[i].v := by
  induction l generalizing i with
  | nil => simp at hi
  | cons p l ih =>
    rw [sorted_cons] at hs
    cases i with
    | zero => rw [getL_cons]; simp
    | succ i =>
      have hi2 : i < l.length := by simpa using hi
      rw [getL_cons]
      simp only [List.getElem_cons_succ]
      have h1 := hs.1 (l[i]'hi2) (List.getElem_mem _)
      rw [if_neg (by grind)]
      exact ih hs.2 i (by simpa using hi)

theorem sorted_ext {a b : List Pr} (ha : Sorted a) (hb : Sorted b) (h : ∀ k, getL a k = getL b k) : a = b := by
  induction a generalizing b with
  | nil =>
    cases b with
    | nil => rfl
    | cons y b => have := h y.k; rw [getL_cons] at this; simp [getL_nil] at this
  | cons x a ih =>
    cases b with
    | nil => have := h x.k; rw [getL_cons] at this; simp [getL_nil] at this
    | cons y b =>
      rw [sorted_cons] at ha hb
      have key : x.k = y.k := by
        by_cases h1 : x.k < y.k
        · have h2 := h x.k
          rw [getL_cons, if_pos rfl, getL_none (l := y :: b) (by
            intro p hp
            rw [List.mem_cons] at hp
            rcases hp with rfl | hp
            · grind
            · have := hb.1 p hp; grind)] at h2
          cases h2
        · by_cases h3 : y.k < x.k
          · have h2 := h y.k
            rw [getL_cons y, if_pos rfl, getL_none (l := x :: a) (by
              intro p hp
              rw [List.mem_cons] at hp
              rcases hp with rfl | hp
              · grind
              · have := ha.1 p hp; grind)] at h2
            cases h2
          · grind
      have hv : x.v = y.v := by
        have h2 := h x.k
        rw [getL_cons, if_pos rfl, getL_cons, if_pos key.symm] at h2
        injection h2
      have e : x = y := by cases x; cases y; simp_all
      subst e
      rw [ih ha.2 hb.2 ?_]
      intro k
      by_cases hk : x.k = k
      · subst hk
        rw [getL_none (l := a) (fun p hp => by have := ha.1 p hp; grind), getL_none (l := b) (fun p hp => by have := hb.1 p hp; grind)]
      · have h2 := h k
        rwa [getL_cons, if_neg hk, getL_cons, if_neg hk] at h2

/-! How many keys are less. -/
def lessL (l : List Pr) (k : ByteArray) : Nat := l.countP fun p => decide (p.k < k)
theorem lessL_le (l : List Pr) (k : ByteArray) : lessL l k ≤ l.length := List.countP_le_length
theorem all_less {l : List Pr} {p : Pr} (h : ∀ q ∈ l, p.k < q.k) {k : ByteArray} (hk : ¬ p.k < k) : lessL l k = 0 ∧ (l.filter fun q => decide (q.k < k)) = [] ∧ (l.filter fun q => decide (k ≤ q.k)) = l := by
  refine ⟨?_, ?_, ?_⟩
  · unfold lessL
    rw [List.countP_eq_zero]
    intro q hq
    have := h q hq
    simp only [decide_eq_true_eq]
    grind
  · rw [List.filter_eq_nil_iff]
    intro q hq
    have := h q hq
    simp only [decide_eq_true_eq]
    grind
  · rw [List.filter_eq_self]
    intro q hq
    have := h q hq
    simp only [decide_eq_true_eq]
    grind
theorem take_less {l : List Pr} (hs : Sorted l) (k : ByteArray) : l.take (lessL l k) = l.filter fun p => decide (p.k < k) := by
  induction l with
  | nil => rfl
  | cons p l ih =>
    rw [sorted_cons] at hs
    by_cases h : p.k < k
    · have e : lessL (p :: l) k = lessL l k + 1 := by unfold lessL; rw [List.countP_cons, if_pos (by simpa using h)]
      rw [e, List.take_succ_cons, ih hs.2, List.filter_cons, if_pos (by simpa using h)]
    · have e : lessL (p :: l) k = lessL l k := by unfold lessL; rw [List.countP_cons, if_neg (by simpa using h)]; rfl
      obtain ⟨h1, h2, _⟩ := all_less hs.1 h
      rw [e, h1, List.take_zero, List.filter_cons, if_neg (by simpa using h), h2]
theorem drop_less {l : List Pr} (hs : Sorted l) (k : ByteArray) : l.drop (lessL l k) = l.filter fun p => decide (k ≤ p.k) := by
  induction l with
  | nil => rfl
  | cons p l ih =>
    rw [sorted_cons] at hs
    by_cases h : p.k < k
    · have e : lessL (p :: l) k = lessL l k + 1 := by unfold lessL; rw [List.countP_cons, if_pos (by simpa using h)]
      have h2 : ¬ k ≤ p.k := by grind
      rw [e, List.drop_succ_cons, ih hs.2, List.filter_cons, if_neg (by simpa using h2)]
    · have e : lessL (p :: l) k = lessL l k := by unfold lessL; rw [List.countP_cons, if_neg (by simpa using h)]; rfl
      have h2 : k ≤ p.k := by grind
      obtain ⟨h1, _, h3⟩ := all_less hs.1 h
      rw [e, h1, List.drop_zero, List.filter_cons, if_pos (by simpa using h2), h3]
/-- Where a key belongs: it is there, or not. -/
theorem less_there {l : List Pr} (hs : Sorted l) (k v : ByteArray) (h : getL l k = some v) : ∃ hl : lessL l k < l.length, l[lessL l k] = ⟨k, v⟩ ∧ l.drop (lessL l k + 1) = l.filter fun p => decide (k < p.k) := by
  induction l with
  | nil => cases h
  | cons p l ih =>
    rw [sorted_cons] at hs
    rw [getL_cons] at h
    by_cases hp : p.k < k
    · rw [if_neg (by grind)] at h
      obtain ⟨hl, h1, h2⟩ := ih hs.2 h
      have e : lessL (p :: l) k = lessL l k + 1 := by unfold lessL; rw [List.countP_cons, if_pos (by simpa using hp)]
      have h3 : ¬ k < p.k := by grind
      refine ⟨by rw [e]; simpa using hl, by simp only [e, List.getElem_cons_succ]; exact h1, ?_⟩
      rw [e, List.drop_succ_cons, h2, List.filter_cons, if_neg (by simpa using h3)]
    · have e : lessL (p :: l) k = lessL l k := by unfold lessL; rw [List.countP_cons, if_neg (by simpa using hp)]; rfl
      obtain ⟨h1, _, _⟩ := all_less hs.1 hp
      by_cases e2 : p.k = k
      · rw [if_pos e2] at h
        injection h with h
        refine ⟨by rw [e, h1]; simp, by simp only [e, h1, List.getElem_cons_zero]; cases p; simp_all, ?_⟩
        rw [e, h1, List.drop_succ_cons, List.drop_zero, List.filter_cons, if_neg (by simp; grind)]
        rw [eq_comm, List.filter_eq_self]
        intro q hq
        have := hs.1 q hq
        simp only [decide_eq_true_eq]
        grind
      · rw [if_neg e2] at h
        obtain ⟨i, hi, he⟩ := getL_some h
        have h2 := hs.1 l[i] (List.getElem_mem _)
        rw [he] at h2
        simp only at h2
        exact absurd h2 hp
theorem less_none {l : List Pr} (k : ByteArray) (h : getL l k = none) : (l.filter fun p => decide (k ≤ p.k)) = l.filter fun p => decide (k < p.k) := by
  induction l with
  | nil => rfl
  | cons p l ih =>
    rw [getL_cons] at h
    by_cases e : p.k = k
    · rw [if_pos e] at h; cases h
    · rw [if_neg e] at h
      rw [List.filter_cons, List.filter_cons, ih h]
      have : decide (k ≤ p.k) = decide (k < p.k) := by
        rw [decide_eq_decide]
        grind
      rw [this]
theorem less_at {l : List Pr} (hs : Sorted l) (k : ByteArray) : (getL l k).isSome = true ↔ ∃ h : lessL l k < l.length, l[lessL l k].k = k := by
  constructor
  · intro h
    obtain ⟨v, hv⟩ := Option.isSome_iff_exists.1 h
    obtain ⟨h1, h2, _⟩ := less_there hs k v hv
    exact ⟨h1, by rw [h2]⟩
  · rintro ⟨h, e⟩
    rw [← e, e] 
    have := getL_mem hs _ h
    rw [e] at this
    rw [this]; rfl
theorem less_mono {l : List Pr} {a b : ByteArray} (h : a ≤ b) : lessL l a ≤ lessL l b := by
  unfold lessL
  apply List.countP_mono_left
  intro p _ hp
  simp only [decide_eq_true_eq] at hp ⊢
  grind
theorem less_noS (l : List Pr) : lessL l noB = 0 := by
  unfold lessL
  rw [List.countP_eq_zero]
  intro q _
  have := noS_le q.k
  have e : noS = noB := rfl
  rw [e] at this
  simp only [decide_eq_true_eq]
  grind
theorem less_place {l : List Pr} (hs : Sorted l) (i : Nat) (hi : i < l.length) : lessL l l[i].k = i := by
  have h1 := getL_mem hs i hi
  obtain ⟨h2, h3, _⟩ := less_there hs _ _ h1
  have hp := List.pairwise_iff_getElem.1 hs
  rcases Nat.lt_trichotomy (lessL l l[i].k) i with h | h | h
  · have := hp _ i h2 hi h
    rw [h3] at this
    simp only at this
    grind
  · exact h
  · have := hp i _ hi h2 h
    rw [h3] at this
    simp only at this
    grind

/-! Notes, done. -/
def hasOf : Option ByteArray → Has
  | none => (noB, false)
  | some v => (v, true)
def optOf (s : Has) : Option ByteArray := if s.2 then some s.1 else none
theorem opt_has (o : Option ByteArray) : optOf (hasOf o) = o := by cases o <;> rfl
/-- What there is, and nothing behind 'not there'. -/
abbrev NormH (s : Has) : Prop := s.2 = false → s.1 = noB
theorem norm_has (o : Option ByteArray) : NormH (hasOf o) := by cases o <;> simp [NormH, hasOf]
theorem norm_step {s : Has} (h : NormH s) (x : Nt) : NormH (step s x) := by
  unfold step NormH
  split
  · simp
  · split
    · simp
    · split
      · simp
      · exact h
theorem norm_fold {s : Has} (h : NormH s) (l : List Nt) : NormH (l.foldl step s) := by
  induction l generalizing s with
  | nil => exact h
  | cons x l ih => exact ih (norm_step h x)
theorem has_opt {s : Has} (h : NormH s) : hasOf (optOf s) = s := by
  obtain ⟨v, b⟩ := s
  cases b with
  | true => rfl
  | false => have := h rfl; simp only at this; subst this; rfl
def stepsO (o : Option ByteArray) (l : List Nt) : Option ByteArray := optOf (l.foldl step (hasOf o))
theorem stepsO_nil (o : Option ByteArray) : stepsO o [] = o := opt_has o
theorem stepsO_append (o : Option ByteArray) (a b : List Nt) : stepsO o (a ++ b) = stepsO (stepsO o a) b := by
  unfold stepsO
  rw [List.foldl_append, has_opt (norm_fold (norm_has o) a)]
theorem stepsO_cons (o : Option ByteArray) (x : Nt) (l : List Nt) : stepsO o (x :: l) = stepsO (stepsO o [x]) l := stepsO_append o [x] l
theorem done_hasOf (o : Option ByteArray) (l : List Nt) : doneL (hasOf o).1 (hasOf o).2 l = hasOf (stepsO o l) := by
  unfold stepsO
  rw [has_opt (norm_fold (norm_has o) l)]
  unfold doneL
  congr 1
  cases o <;> rfl

def pairOf (k : ByteArray) : Option ByteArray → List Pr
  | none => []
  | some v => [⟨k, v⟩]
theorem getL_pair (k : ByteArray) (o : Option ByteArray) (j : ByteArray) : getL (pairOf k o) j = if k = j then o else none := by
  cases o with
  | none => simp [pairOf, getL_nil]
  | some v => simp [pairOf, getL_cons, getL_nil]
def oneL (l : List Pr) (n : Nt) : List Pr := (l.filter fun p => decide (p.k < n.key)) ++ pairOf n.key (stepsO (getL l n.key) [n]) ++ (l.filter fun p => decide (n.key < p.k))
def foldOne (l : List Pr) (ns : List Nt) : List Pr := ns.foldl oneL l
theorem foldOne_append (l : List Pr) (a b : List Nt) : foldOne l (a ++ b) = foldOne (foldOne l a) b := List.foldl_append
theorem foldOne_cons (l : List Pr) (n : Nt) (b : List Nt) : foldOne l (n :: b) = foldOne (oneL l n) b := rfl

theorem getL_oneL (l : List Pr) (n : Nt) (k : ByteArray) : getL (oneL l n) k = if n.key = k then stepsO (getL l k) [n] else getL l k := by
  unfold oneL
  rw [getL_append, getL_append, getL_filter (fun x => decide (x < n.key)), getL_filter (fun x => decide (n.key < x)), getL_pair]
  by_cases h : n.key = k
  · subst h
    have h1 : ¬ n.key < n.key := by grind
    simp [h1]
  · rw [if_neg h, if_neg h]
    by_cases h1 : k < n.key
    · have h2 : ¬ n.key < k := by grind
      simp [h1, h2]
    · have h2 : n.key < k := by grind
      simp [h1, h2]
theorem sorted_oneL {l : List Pr} (h : Sorted l) (n : Nt) : Sorted (oneL l n) := by
  unfold oneL Sorted
  rw [List.pairwise_append, List.pairwise_append]
  refine ⟨⟨h.sublist List.filter_sublist, ?_, ?_⟩, h.sublist List.filter_sublist, ?_⟩
  · cases stepsO (getL l n.key) [n] <;> simp [pairOf]
  · intro a ha b hb
    have hb2 : b.k = n.key := by
      cases e : stepsO (getL l n.key) [n] with
      | none => rw [e] at hb; simp [pairOf] at hb
      | some v => rw [e] at hb; simp [pairOf] at hb; rw [hb]
    have := (List.mem_filter.1 ha).2
    simp only [decide_eq_true_eq] at this
    rw [hb2]; exact this
  · intro a ha b hb
    have hb2 := (List.mem_filter.1 hb).2
    simp only [decide_eq_true_eq] at hb2
    rw [List.mem_append] at ha
    rcases ha with ha | ha
    · have := (List.mem_filter.1 ha).2
      simp only [decide_eq_true_eq] at this
      grind
    · have ha2 : a.k = n.key := by
        cases e : stepsO (getL l n.key) [n] with
        | none => rw [e] at ha; simp [pairOf] at ha
        | some v => rw [e] at ha; simp [pairOf] at ha; rw [ha]
      rw [ha2]; exact hb2
theorem sorted_fold {l : List Pr} (h : Sorted l) (ns : List Nt) : Sorted (foldOne l ns) := by
  induction ns generalizing l with
  | nil => exact h
  | cons n ns ih => exact ih (sorted_oneL h n)
theorem getL_fold (l : List Pr) (ns : List Nt) (k : ByteArray) : getL (foldOne l ns) k = stepsO (getL l k) (ns.filter fun n => decide (n.key = k)) := by
  induction ns generalizing l with
  | nil => exact (stepsO_nil _).symm
  | cons n ns ih =>
    rw [foldOne_cons, ih, getL_oneL, List.filter_cons]
    by_cases h : n.key = k
    · rw [if_pos h, if_pos (by simpa using h), ← stepsO_cons]
    · rw [if_neg h, if_neg (by simpa using h)]

/-- The same notes of each key, in the same order. -/
def StEq (a b : List Nt) : Prop := ∀ k : ByteArray, (a.filter fun n => decide (n.key = k)) = b.filter fun n => decide (n.key = k)
theorem StEq.rfl' (a : List Nt) : StEq a a := fun _ => rfl
theorem StEq.trans {a b c : List Nt} (h : StEq a b) (g : StEq b c) : StEq a c := fun k => (h k).trans (g k)
theorem StEq.symm {a b : List Nt} (h : StEq a b) : StEq b a := fun k => (h k).symm
theorem StEq.app {a b c d : List Nt} (h : StEq a b) (g : StEq c d) : StEq (a ++ c) (b ++ d) := fun k => by rw [List.filter_append, List.filter_append, h k, g k]
theorem StEq.swap {a b : List Nt} (h : ∀ x ∈ a, ∀ y ∈ b, x.key ≠ y.key) : StEq (a ++ b) (b ++ a) := fun k => by
  rw [List.filter_append, List.filter_append]
  by_cases e : (a.filter fun n => decide (n.key = k)) = []
  · rw [e]; simp
  · have e2 : (b.filter fun n => decide (n.key = k)) = [] := by
      rw [List.filter_eq_nil_iff]
      intro y hy hk
      simp only [decide_eq_true_eq] at hk
      apply e
      rw [List.filter_eq_nil_iff]
      intro x hx hk2
      simp only [decide_eq_true_eq] at hk2
      exact h x hx y hy (hk2.trans hk.symm)
    rw [e2]; simp
theorem StEq.mem {a b : List Nt} (h : StEq a b) {x : Nt} (hx : x ∈ a) : x ∈ b := by
  have h1 : x ∈ a.filter fun n => decide (n.key = x.key) := List.mem_filter.2 ⟨hx, by simp⟩
  rw [h x.key] at h1
  exact (List.mem_filter.1 h1).1
theorem fold_steq {l : List Pr} (hs : Sorted l) {a b : List Nt} (h : StEq a b) : foldOne l a = foldOne l b :=
  sorted_ext (sorted_fold hs a) (sorted_fold hs b) fun k => by rw [getL_fold, getL_fold, h k]

theorem fits_step {o : Option ByteArray} {n : Nt} (hn : rightN n = true) (ho : ∀ v, o = some v → v.size ≤ 32) : ∀ v, stepsO o [n] = some v → v.size ≤ 32 := by
  intro v hv
  rw [rightN_iff] at hn
  obtain ⟨_, h⟩ := hn
  unfold stepsO at hv
  simp only [List.foldl_cons, List.foldl_nil] at hv
  rcases h with ⟨h1, h2, _⟩ | ⟨h1, _⟩ | ⟨h1, _⟩
  · rw [step1 _ _ h1] at hv
    simp [optOf] at hv
    rw [← hv]; exact h2
  · rw [step2 _ _ h1] at hv
    simp [optOf] at hv
  · rw [step3 _ _ h1] at hv
    simp [optOf] at hv
    rw [← hv, be8_size]; omega
theorem getL_fits {l : List Pr} (hf : ∀ p ∈ l, fitsP p = true) {k v : ByteArray} (h : getL l k = some v) : v.size ≤ 32 := by
  obtain ⟨i, hi, e⟩ := getL_some h
  have := (fitsP_iff _).1 (hf _ (List.getElem_mem hi))
  rw [e] at this
  exact this.2
theorem fits_oneL {l : List Pr} (hf : ∀ p ∈ l, fitsP p = true) {n : Nt} (hn : rightN n = true) : ∀ p ∈ oneL l n, fitsP p = true := by
  intro p hp
  unfold oneL at hp
  rw [List.mem_append, List.mem_append] at hp
  rcases hp with (hp | hp) | hp
  · exact hf p (List.mem_filter.1 hp).1
  · cases e : stepsO (getL l n.key) [n] with
    | none => rw [e] at hp; simp [pairOf] at hp
    | some v =>
      rw [e] at hp; simp [pairOf] at hp
      subst hp
      exact (fitsP_iff _).2 ⟨((rightN_iff n).1 hn).1, fits_step hn (fun v hv => getL_fits hf hv) v e⟩
  · exact hf p (List.mem_filter.1 hp).1
theorem fits_fold {l : List Pr} (hf : ∀ p ∈ l, fitsP p = true) {ns : List Nt} (hn : ∀ n ∈ ns, rightN n = true) : ∀ p ∈ foldOne l ns, fitsP p = true := by
  induction ns generalizing l with
  | nil => exact hf
  | cons n ns ih => exact ih (fits_oneL hf (hn n (by simp))) fun m hm => hn m (by simp [hm])
theorem well_fold {l : List Pr} (hw : wellL l = true) {ns : List Nt} (hn : ∀ n ∈ ns, rightN n = true) : wellL (foldOne l ns) = true :=
  well_of (sorted_fold (well_sorted hw) ns) (fits_fold (well_fits hw) hn)

theorem parts_len (l : List Pr) (k : ByteArray) : (l.filter fun p => decide (p.k < k)).length + (l.filter fun p => decide (k < p.k)).length ≤ l.length := by
  induction l with
  | nil => simp
  | cons p l ih =>
    rw [List.filter_cons, List.filter_cons]
    by_cases h1 : p.k < k
    · have h2 : ¬ k < p.k := by grind
      simp only [h1, h2, decide_true, decide_false, if_true, List.length_cons]
      simp
      omega
    · by_cases h2 : k < p.k
      · simp only [h1, h2, decide_true, decide_false, if_true, List.length_cons]
        simp
        omega
      · simp only [h1, h2, decide_false, List.length_cons]
        simp
        omega
theorem len_oneL (l : List Pr) (n : Nt) : (oneL l n).length ≤ l.length + 1 := by
  unfold oneL
  have := parts_len l n.key
  rw [List.length_append, List.length_append]
  have h : (pairOf n.key (stepsO (getL l n.key) [n])).length ≤ 1 := by cases stepsO (getL l n.key) [n] <;> simp [pairOf]
  omega
theorem len_fold (l : List Pr) (ns : List Nt) : (foldOne l ns).length ≤ l.length + ns.length := by
  induction ns generalizing l with
  | nil => exact Nat.le_refl _
  | cons n ns ih =>
    have h1 := ih (oneL l n)
    have h2 := len_oneL l n
    rw [foldOne_cons, List.length_cons]
    omega

/-! Notes by their keys. -/
abbrev Rising (l : List Nt) : Prop := l.Pairwise fun a b => a.key ≤ b.key
theorem oneL_left {a b : List Pr} {n : Nt} (h : ∀ p ∈ a, p.k < n.key) : oneL (a ++ b) n = a ++ oneL b n := by
  unfold oneL
  have h1 : (a.filter fun p => decide (p.k < n.key)) = a := List.filter_eq_self.2 fun p hp => by simpa using h p hp
  have h2 : (a.filter fun p => decide (n.key < p.k)) = [] := List.filter_eq_nil_iff.2 fun p hp => by have := h p hp; simp; grind
  rw [List.filter_append, List.filter_append, h1, h2, getL_append, getL_none (l := a) (fun p hp => by have := h p hp; grind)]
  simp [List.append_assoc]
theorem fold_left {a b : List Pr} {ns : List Nt} (h : ∀ n ∈ ns, ∀ p ∈ a, p.k < n.key) : foldOne (a ++ b) ns = a ++ foldOne b ns := by
  induction ns generalizing b with
  | nil => rfl
  | cons n ns ih =>
    rw [foldOne_cons, oneL_left (h n (by simp)), ih (fun m hm => h m (by simp [hm])), foldOne_cons]
theorem fold_group {l : List Pr} (hs : Sorted l) {k : ByteArray} {G : List Nt} (hk : ∀ n ∈ G, n.key = k) (h0 : G ≠ []) :
    foldOne l G = (l.filter fun p => decide (p.k < k)) ++ pairOf k (stepsO (getL l k) G) ++ (l.filter fun p => decide (k < p.k)) := by
  refine sorted_ext (sorted_fold hs G) ?_ fun j => ?_
  · have := sorted_oneL hs ⟨1, k, noB, 0⟩
    unfold oneL Sorted at this
    rw [List.pairwise_append, List.pairwise_append] at this
    obtain ⟨⟨p1, p2, p3⟩, p4, p5⟩ := this
    have e : stepsO (getL l k) [⟨1, k, noB, 0⟩] = some noB := by unfold stepsO; simp only [List.foldl_cons, List.foldl_nil]; rw [step1 _ _ rfl]; rfl
    simp only [e] at p2 p3 p5
    unfold Sorted
    rw [List.pairwise_append, List.pairwise_append]
    refine ⟨⟨p1, ?_, ?_⟩, p4, ?_⟩
    · cases stepsO (getL l k) G <;> simp [pairOf]
    · intro a ha b hb
      have hb2 : b.k = k := by
        cases e : stepsO (getL l k) G with
        | none => rw [e] at hb; simp [pairOf] at hb
        | some v => rw [e] at hb; simp [pairOf] at hb; rw [hb]
      have := p3 a ha ⟨k, noB⟩ (by simp [pairOf])
      rw [hb2]; exact this
    · intro a ha b hb
      rw [List.mem_append] at ha
      rcases ha with ha | ha
      · exact p5 a (by simp [ha]) b hb
      · have ha2 : a.k = k := by
          cases e : stepsO (getL l k) G with
          | none => rw [e] at ha; simp [pairOf] at ha
          | some v => rw [e] at ha; simp [pairOf] at ha; rw [ha]
        have := p5 ⟨k, noB⟩ (by simp [pairOf]) b hb
        rw [ha2]; exact this
  · rw [getL_fold, getL_append, getL_append, getL_filter (fun x => decide (x < k)), getL_filter (fun x => decide (k < x)), getL_pair]
    by_cases h : k = j
    · subst h
      have h1 : ¬ k < k := by grind
      rw [List.filter_eq_self.2 (fun n hn => by simpa using hk n hn)]
      simp [h1]
    · rw [List.filter_eq_nil_iff.2 (fun n hn => by have := hk n hn; simp; grind), stepsO_nil, if_neg h]
      by_cases h1 : j < k
      · have h2 : ¬ k < j := by grind
        simp [h1, h2]
      · have h2 : k < j := by grind
        simp [h1, h2]
/-- The notes of one key, and then the others, whose keys are greater. -/
theorem fold_split {l : List Pr} (hs : Sorted l) {k : ByteArray} {G R : List Nt} (hk : ∀ n ∈ G, n.key = k) (h0 : G ≠ []) (hR : ∀ n ∈ R, k < n.key) :
    foldOne l (G ++ R) = (l.filter fun p => decide (p.k < k)) ++ pairOf k (stepsO (getL l k) G) ++ foldOne (l.filter fun p => decide (k < p.k)) R := by
  rw [foldOne_append, fold_group hs hk h0, fold_left]
  intro n hn p hp
  have h1 := hR n hn
  rw [List.mem_append] at hp
  rcases hp with hp | hp
  · have := (List.mem_filter.1 hp).2
    simp only [decide_eq_true_eq] at this
    grind
  · cases e : stepsO (getL l k) G with
    | none => rw [e] at hp; simp [pairOf] at hp
    | some v => rw [e] at hp; simp [pairOf] at hp; rw [hp]; exact h1
/-- The first ones of one key. -/
theorem rising_split {l : List Nt} (hr : Rising l) {n : Nat} (h0 : 0 < n) (hn : n ≤ l.length) (h1 : ∀ i (h : i < n), l[i].key = l[0].key) (h2 : ∀ h : n < l.length, l[n].key ≠ l[0].key) :
    (∀ x ∈ l.take n, x.key = (l[0]'(by omega)).key) ∧ (∀ x ∈ l.drop n, (l[0]'(by omega)).key < x.key) := by
  constructor
  · intro x hx
    obtain ⟨i, hi, rfl⟩ := List.getElem_of_mem hx
    simp at hi
    rw [List.getElem_take]
    exact h1 i (by omega)
  · intro x hx
    obtain ⟨i, hi, rfl⟩ := List.getElem_of_mem hx
    simp at hi
    rw [List.getElem_drop]
    have hp := List.pairwise_iff_getElem.1 hr
    have a := hp 0 n (by omega) (by omega) h0
    have b := h2 (by omega)
    by_cases hi0 : i = 0
    · subst hi0
      simp only [Nat.add_zero]
      grind
    · have c := hp n (n + i) (by omega) (by omega) (by omega)
      grind

end Go.Proofs.Yteddjmkoleclpaa
