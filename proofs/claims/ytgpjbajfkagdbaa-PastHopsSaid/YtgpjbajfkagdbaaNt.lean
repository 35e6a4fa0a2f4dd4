/- Notes as values, what they do, and two as one: plain facts. Nothing of the program. -/
import Derived.Test.YtgpjbajfkagdbaaPlain
set_option linter.unusedVariables false
set_option linter.unusedSimpArgs false
namespace Go.Proofs.Ytgpjbajfkagdbaa

abbrev noB : ByteArray := ⟨#[]⟩
/-- Eight bytes, the highest first; the number of a value. -/
def be8 (n : UInt64) : ByteArray := ⟨(be 8 n.toNat).toArray⟩
def numB (s : ByteArray) : UInt64 := if s.size = 8 then UInt64.ofNat (val s.data.toList) else 0

theorem be8_size (n : UInt64) : (be8 n).size = 8 := by
  show (be 8 n.toNat).toArray.size = 8
  simp [be_length]
theorem num_be8 (n : UInt64) : numB (be8 n) = n := by
  unfold numB
  rw [if_pos (be8_size n)]
  unfold be8
  simp only [List.toList_toArray, val_be]
  have := n.toNat_lt
  rw [Nat.mod_eq_of_lt (by omega)]
  simp
theorem be8_num (s : ByteArray) (h : s.size = 8) : be8 (numB s) = s := by
  unfold be8 numB
  rw [if_pos h]
  have hl : s.data.toList.length = 8 := by simpa using h
  have h1 := val_lt s.data.toList
  rw [hl] at h1
  rw [UInt64.toNat_ofNat_of_lt' (by simpa using h1)]
  have h2 := be_val s.data.toList
  rw [hl] at h2
  apply ByteArray.ext
  rw [h2]
theorem num_none : numB noB = 0 := rfl

/-- A note. -/
structure Nt where
  kind : Int
  key : ByteArray
  value : ByteArray
  n : UInt64
deriving DecidableEq

/-- What there is: a value, and whether it is there. -/
abbrev Has := ByteArray × Bool
def start (v : ByteArray) (has : Bool) : Has := (if has then v else noB, has)
def step (s : Has) (x : Nt) : Has :=
  if x.kind = 1 then (x.value, true) else if x.kind = 2 then (noB, false) else if x.kind = 3 then (be8 (numB s.1 + x.n), true) else s
def doneL (v : ByteArray) (has : Bool) (l : List Nt) : Has := l.foldl step (start v has)
theorem done_take (v : ByteArray) (has : Bool) (l : List Nt) (k : Nat) (h : k < l.length) : doneL v has (l.take (k + 1)) = step (doneL v has (l.take k)) l[k] := by
  unfold doneL
  rw [List.take_succ_eq_append_getElem h, List.foldl_append]
  rfl
theorem step1 (s : Has) (x : Nt) (h : x.kind = 1) : step s x = (x.value, true) := by unfold step; rw [if_pos h]
theorem step2 (s : Has) (x : Nt) (h : x.kind = 2) : step s x = (noB, false) := by unfold step; rw [if_neg (by omega), if_pos h]
theorem step3 (s : Has) (x : Nt) (h : x.kind = 3) : step s x = (be8 (numB s.1 + x.n), true) := by unfold step; rw [if_neg (by omega), if_neg (by omega), if_pos h]
theorem step0 (s : Has) (x : Nt) (h1 : x.kind ≠ 1) (h2 : x.kind ≠ 2) (h3 : x.kind ≠ 3) : step s x = s := by unfold step; rw [if_neg h1, if_neg h2, if_neg h3]

/-- Is it a note? -/
def rightN (x : Nt) : Bool :=
  decide (x.key.size ≤ 16) && (if x.kind = 1 then decide (x.value.size ≤ 32) && decide (x.n = 0) else if x.kind = 2 then decide (x.value = noB) && decide (x.n = 0) else decide (x.kind = 3) && decide (x.value = noB))

/-- Two as one. -/
def addedN (a b : Nt) : Nt :=
  if a.kind = 1 ∨ a.kind = 2 then ⟨1, noB, (doneL noB false [a, b]).1, 0⟩ else if a.kind = 3 then ⟨b.kind, b.key, b.value, b.n + a.n⟩ else b
def bothN (a b : Nt) : Nt :=
  let c := if b.kind = 1 ∨ b.kind = 2 then b else if b.kind = 3 then addedN a b else a
  ⟨c.kind, b.key, c.value, c.n⟩

theorem both_key (a b : Nt) : (bothN a b).key = b.key := rfl

/-- Two as one do what both do, one behind the other. -/
theorem both_step (s : Has) (a b : Nt) : step s (bothN a b) = step (step s a) b := by
  unfold bothN
  by_cases h12 : b.kind = 1 ∨ b.kind = 2
  · rw [if_pos h12]
    rcases h12 with h | h
    · rw [step1 _ b h, step1 _ _ h]
    · rw [step2 _ b h, step2 _ _ h]
  · rw [if_neg h12]
    have hb1 : b.kind ≠ 1 := fun h => h12 (.inl h)
    have hb2 : b.kind ≠ 2 := fun h => h12 (.inr h)
    by_cases h3 : b.kind = 3
    · rw [if_pos h3, step3 _ b h3]
      unfold addedN
      by_cases ha : a.kind = 1 ∨ a.kind = 2
      · rw [if_pos ha, step1 _ _ rfl]
        have e : doneL noB false [a, b] = step (step (noB, false) a) b := rfl
        simp only [e]
        rw [step3 _ b h3]
        rcases ha with h | h
        · rw [step1 _ a h, step1 _ a h]
        · rw [step2 _ a h, step2 _ a h]
      · rw [if_neg ha]
        by_cases ha3 : a.kind = 3
        · rw [if_pos ha3, step3 _ a ha3]
          show step s ⟨b.kind, b.key, b.value, b.n + a.n⟩ = _
          rw [step3 s ⟨b.kind, b.key, b.value, b.n + a.n⟩ h3]
          simp only [num_be8]
          rw [UInt64.add_assoc, UInt64.add_comm a.n]
        · rw [if_neg ha3, step0 s a (fun h => ha (.inl h)) (fun h => ha (.inr h)) ha3, step3 _ _ h3]
    · rw [if_neg h3, step0 _ b hb1 hb2 h3]
      unfold step
      rfl

theorem done_one (v : ByteArray) (has : Bool) (a : Nt) : doneL v has [a] = step (start v has) a := rfl
theorem done_two (v : ByteArray) (has : Bool) (a b : Nt) : doneL v has [a, b] = doneL v has [bothN a b] := (both_step _ a b).symm
theorem done_three (v : ByteArray) (has : Bool) (a b c : Nt) : doneL v has [bothN (bothN a b) c] = doneL v has [bothN a (bothN b c)] := by
  simp only [done_one, both_step]

theorem rightN_iff (x : Nt) : rightN x = true ↔ x.key.size ≤ 16 ∧ ((x.kind = 1 ∧ x.value.size ≤ 32 ∧ x.n = 0) ∨ (x.kind = 2 ∧ x.value = noB ∧ x.n = 0) ∨ (x.kind = 3 ∧ x.value = noB)) := by
  unfold rightN
  by_cases h1 : x.kind = 1
  · simp [h1]
  · by_cases h2 : x.kind = 2
    · simp [h2]
    · simp [h1, h2]

theorem both_right (a b : Nt) (ha : rightN a = true) (hb : rightN b = true) : rightN (bothN a b) = true := by
  rw [rightN_iff] at ha hb ⊢
  obtain ⟨_, ha⟩ := ha
  obtain ⟨hk, hb⟩ := hb
  refine ⟨hk, ?_⟩
  unfold bothN
  by_cases h12 : b.kind = 1 ∨ b.kind = 2
  · rw [if_pos h12]
    exact hb
  · rw [if_neg h12]
    have hb3 : b.kind = 3 ∧ b.value = noB := by
      rcases hb with h | h | h
      · exact absurd (.inl h.1) h12
      · exact absurd (.inr h.1) h12
      · exact h
    rw [if_pos hb3.1]
    unfold addedN
    by_cases h : a.kind = 1 ∨ a.kind = 2
    · rw [if_pos h]
      refine .inl ⟨rfl, ?_, rfl⟩
      show (step (step (start noB false) a) b).1.size ≤ 32
      rw [step3 _ b hb3.1, be8_size]
      decide
    · rw [if_neg h]
      have ha3 : a.kind = 3 := by
        rcases ha with h1 | h1 | h1
        · exact absurd (.inl h1.1) h
        · exact absurd (.inr h1.1) h
        · exact h1.1
      rw [if_pos ha3]
      exact .inr (.inr hb3)

/-- Notes put together, one by one. -/
theorem chain_step (s : Has) (l : List Nt) (a : Nt) : step s (l.foldl bothN a) = l.foldl step (step s a) := by
  induction l generalizing a with
  | nil => rfl
  | cons b l ih => rw [List.foldl_cons, ih, both_step, List.foldl_cons]
theorem chain_done (v : ByteArray) (has : Bool) (a : Nt) (l : List Nt) : doneL v has (a :: l) = doneL v has [l.foldl bothN a] := by
  show l.foldl step (step (start v has) a) = step (start v has) (l.foldl bothN a)
  rw [chain_step]
theorem chain_key (a : Nt) (l : List Nt) : (l.foldl bothN a).key = ((a :: l).getLast (by simp)).key := by
  induction l generalizing a with
  | nil => rfl
  | cons b l ih =>
    rw [List.foldl_cons, ih]
    cases l with
    | nil => rfl
    | cons c l => simp
theorem chain_take (a : Nt) (l : List Nt) (k : Nat) (h : k < l.length) : (l.take (k + 1)).foldl bothN a = bothN ((l.take k).foldl bothN a) l[k] := by
  rw [List.take_succ_eq_append_getElem h, List.foldl_append]
  rfl

/-- Behind a Put, or a Del, nothing that came ahead matters. -/
theorem last_done (v u : ByteArray) (has is : Bool) (l m : List Nt) (n : Nt) (h : n.kind = 1 ∨ n.kind = 2) : doneL v has (l ++ n :: m) = doneL u is (n :: m) := by
  unfold doneL
  rw [List.foldl_append, List.foldl_cons, List.foldl_cons]
  rcases h with h | h
  · rw [step1 _ n h, step1 _ n h]
  · rw [step2 _ n h, step2 _ n h]

/-! Numbers that are added. -/
def addN (n : UInt64) : Nt := ⟨3, noB, noB, n⟩
def sumU (l : List UInt64) : UInt64 := l.foldl (· + ·) 0
theorem sumU_snoc (l : List UInt64) (n : UInt64) : sumU (l ++ [n]) = sumU l + n := by unfold sumU; rw [List.foldl_append]; rfl
theorem sumU_take (l : List UInt64) (k : Nat) (h : k < l.length) : sumU (l.take (k + 1)) = sumU (l.take k) + l[k] := by
  rw [List.take_succ_eq_append_getElem h, sumU_snoc]
theorem adds_fold (s : Has) (l : List UInt64) : ((l.map addN).foldl step s = if l = [] then s else (be8 (numB s.1 + sumU l), true)) := by
  have H : ∀ (l : List UInt64), numB ((l.map addN).foldl step s).1 = numB s.1 + sumU l ∧ (l ≠ [] → (l.map addN).foldl step s = (be8 (numB s.1 + sumU l), true)) := by
    intro l
    induction hn : l.length generalizing l with
    | zero =>
      rw [List.length_eq_zero_iff] at hn
      subst hn
      exact ⟨by simp [sumU], fun h => absurd rfl h⟩
    | succ n ih =>
      have hne : l ≠ [] := by intro h; rw [h] at hn; simp at hn
      have e : l = l.dropLast ++ [l.getLast hne] := (List.dropLast_concat_getLast hne).symm
      have h1 := (ih l.dropLast (by simp [hn])).1
      have h2 : (l.map addN).foldl step s = (be8 (numB s.1 + sumU l), true) := by
        rw [e, List.map_append, List.foldl_append]
        show step _ (addN (l.getLast hne)) = _
        rw [step3 _ _ rfl, h1, sumU_snoc, ← UInt64.add_assoc]
        rfl
      exact ⟨by rw [h2]; exact num_be8 _, fun _ => h2⟩
  by_cases h : l = []
  · rw [if_pos h, h]; rfl
  · rw [if_neg h]; exact (H l).2 h
theorem adds_done (v : ByteArray) (has : Bool) (l : List UInt64) (h : l ≠ []) : doneL v has (l.map addN) = (be8 ((if has then numB v else 0) + sumU l), true) := by
  unfold doneL
  rw [adds_fold, if_neg h]
  cases has <;> rfl

/-- The same numbers, from another place on and backwards. -/
def turned (l : List UInt64) (c : Nat) : List UInt64 := (List.range l.length).map fun i => l.getD ((l.length - i + c) % l.length) 0
theorem getD_at (l : List UInt64) (k : Nat) (h : k < l.length) : l.getD k 0 = l[k] := by simp [List.getD, h]
theorem turned_length (l : List UInt64) (c : Nat) : (turned l c).length = l.length := by simp [turned]
theorem turned_at (l : List UInt64) (c i : Nat) (h : i < l.length) : (turned l c)[i]'(by rw [turned_length]; exact h) = l.getD ((l.length - i + c) % l.length) 0 := by simp [turned]
theorem turned_sum (l : List UInt64) (c : Nat) : sumU (turned l c) = sumU l := by
  rcases Nat.eq_zero_or_pos l.length with h0 | hpos
  · rw [List.length_eq_zero_iff] at h0; subst h0; rfl
  have hc : c % l.length < l.length := Nat.mod_lt _ hpos
  have hmod : ∀ i, i < l.length → (l.length - i + c) % l.length = if i ≤ c % l.length then c % l.length - i else l.length + c % l.length - i := by
    intro i hi
    have e : l.length - i + c = (l.length - i + c % l.length) + l.length * (c / l.length) := by have := Nat.mod_add_div c l.length; omega
    rw [e, Nat.add_mul_mod_self_left]
    by_cases h : i ≤ c % l.length
    · rw [if_pos h, show l.length - i + c % l.length = (c % l.length - i) + l.length by omega, Nat.add_mod_right, Nat.mod_eq_of_lt (by omega)]
    · rw [if_neg h, Nat.mod_eq_of_lt (by omega)]; omega
  generalize c % l.length = d at hc hmod
  have H : ∀ k, k ≤ l.length → (k ≤ d + 1 → sumU ((turned l c).take k) + sumU (l.take (d + 1 - k)) = sumU (l.take (d + 1))) ∧
      (d + 1 ≤ k → sumU ((turned l c).take k) + sumU (l.take (l.length + d + 1 - k)) = sumU (l.take (d + 1)) + sumU l) := by
    intro k
    induction k with
    | zero => intro _; exact ⟨fun _ => by simp [sumU], fun h => by omega⟩
    | succ k ih =>
      intro hk
      obtain ⟨i1, i2⟩ := ih (by omega)
      have ht : sumU ((turned l c).take (k + 1)) = sumU ((turned l c).take k) + l.getD ((l.length - k + c) % l.length) 0 := by
        rw [sumU_take _ k (by rw [turned_length]; omega), turned_at l c k (by omega)]
      have up : k + 1 ≤ d + 1 → sumU ((turned l c).take (k + 1)) + sumU (l.take (d + 1 - (k + 1))) = sumU (l.take (d + 1)) := by
        intro h
        rw [ht, hmod k (by omega), if_pos (by omega), ← i1 (by omega), show d + 1 - k = (d - k) + 1 by omega, sumU_take l (d - k) (by omega), getD_at l (d - k) (by omega), show d + 1 - (k + 1) = d - k by omega]
        rw [UInt64.add_assoc, UInt64.add_comm (l[d - k])]
      refine ⟨up, fun h => ?_⟩
      by_cases hd : d + 1 = k + 1
      · rw [show l.length + d + 1 - (k + 1) = l.length by omega, List.take_length, ← up (by omega), show d + 1 - (k + 1) = 0 by omega, List.take_zero]
        show _ = _ + sumU [] + _
        rw [show sumU [] = 0 from rfl, UInt64.add_zero]
      · rw [ht, hmod k (by omega), if_neg (by omega), ← i2 (by omega), show l.length + d + 1 - k = (l.length + d - k) + 1 by omega, sumU_take l (l.length + d - k) (by omega), getD_at l (l.length + d - k) (by omega), show l.length + d + 1 - (k + 1) = l.length + d - k by omega]
        rw [UInt64.add_assoc, UInt64.add_comm (l[l.length + d - k])]
  have hl := (H l.length (Nat.le_refl _)).2 (by omega)
  rw [← turned_length l c, List.take_length, turned_length, show l.length + d + 1 - l.length = d + 1 by omega, UInt64.add_comm] at hl
  have cancel : ∀ p x y : UInt64, p + x = p + y → x = y := fun p x y h => by
    have h2 := congrArg (fun z => z - p) h
    rwa [UInt64.add_comm p x, UInt64.add_comm p y, UInt64.add_sub_cancel, UInt64.add_sub_cancel] at h2
  exact cancel _ _ _ hl

end Go.Proofs.Ytgpjbajfkagdbaa
