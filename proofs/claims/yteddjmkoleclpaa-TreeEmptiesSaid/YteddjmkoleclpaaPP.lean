/- Notes that wait, by key: plain facts. Nothing of the program. -/
import Derived.Test.YteddjmkoleclpaaPL
import Derived.Test.YteddjmkoleclpaaSG
set_option linter.unusedVariables false
set_option linter.unusedSimpArgs false
namespace Go.Proofs.Yteddjmkoleclpaa

abbrev SortedN (l : List Nt) : Prop := l.Pairwise fun a b => a.key < b.key
theorem sortedN_get {l : List Nt} : SortedN l ↔ ∀ (i j : Nat) (hi : i < l.length) (hj : j < l.length), i < j → l[i].key < l[j].key := List.pairwise_iff_getElem
/-- Do they wait well? -/
def wellN (l : List Nt) : Bool := l.all rightN && decide (∀ i (h : i < l.length), 0 < i → l[i - 1].key < l[i].key)
theorem wellN_iff (l : List Nt) : wellN l = true ↔ l.all rightN = true ∧ ∀ i (h : i < l.length), 0 < i → l[i - 1].key < l[i].key := by unfold wellN; rw [Bool.and_eq_true, decide_eq_true_eq]
theorem risesN {l : List Nt} (h : ∀ i (h : i < l.length), 0 < i → l[i - 1].key < l[i].key) : SortedN l := by
  rw [sortedN_get]
  intro i j hi hj hij
  obtain ⟨d, rfl⟩ : ∃ d, j = i + d + 1 := ⟨j - i - 1, by omega⟩
  induction d with
  | zero => exact h (i + 0 + 1) hj (by omega)
  | succ d ih =>
    have h1 := ih (by omega) (by omega)
    have h2 := h (i + (d + 1) + 1) hj (by omega)
    have e : l[i + (d + 1) + 1 - 1] = l[i + d + 1]'(by omega) := by congr 1
    rw [e] at h2
    grind
theorem wellN_sorted {l : List Nt} (h : wellN l = true) : SortedN l := risesN ((wellN_iff l).1 h).2
theorem wellN_right {l : List Nt} (h : wellN l = true) : l.all rightN = true := ((wellN_iff l).1 h).1
theorem wellN_of {l : List Nt} (hs : SortedN l) (hr : l.all rightN = true) : wellN l = true := by
  rw [wellN_iff]
  exact ⟨hr, fun i hi h0 => sortedN_get.1 hs (i - 1) i (by omega) hi (by omega)⟩

/-- The note of a key. -/
def getN (l : List Nt) (k : ByteArray) : Option Nt := l.find? fun n => decide (n.key = k)
theorem getN_nil (k : ByteArray) : getN [] k = none := rfl
theorem getN_cons (n : Nt) (l : List Nt) (k : ByteArray) : getN (n :: l) k = if n.key = k then some n else getN l k := by
  unfold getN
  rw [List.find?_cons]
  by_cases h : n.key = k <;> simp [h]
theorem getN_none {l : List Nt} {k : ByteArray} (h : ∀ n ∈ l, n.key ≠ k) : getN l k = none := by
  induction l with
  | nil => rfl
  | cons n l ih =>
    rw [getN_cons, if_neg (h n (by simp))]
    exact ih fun q hq => h q (by simp [hq])
theorem getN_append (a b : List Nt) (k : ByteArray) : getN (a ++ b) k = (getN a k).or (getN b k) := by
  induction a with
  | nil => rfl
  | cons n a ih =>
    rw [List.cons_append, getN_cons, getN_cons, ih]
    by_cases h : n.key = k <;> simp [h]
theorem getN_filter (f : ByteArray → Bool) (l : List Nt) (k : ByteArray) : getN (l.filter fun n => f n.key) k = if f k then getN l k else none := by
  induction l with
  | nil => rw [List.filter_nil, getN_nil]; split <;> rfl
  | cons n l ih =>
    rw [List.filter_cons]
    by_cases hf : f n.key = true
    · rw [if_pos hf, getN_cons, getN_cons, ih]
      by_cases h : n.key = k
      · subst h; rw [if_pos rfl, if_pos rfl, if_pos hf]
      · rw [if_neg h, if_neg h]
    · rw [if_neg hf, ih, getN_cons]
      by_cases h : n.key = k
      · subst h; rw [if_neg hf, if_neg hf]
      · rw [if_neg h]
theorem getN_some {l : List Nt} {k : ByteArray} {n : Nt} (h : getN l k = some n) : n ∈ l ∧ n.key = k := by
  unfold getN at h
  have h1 := List.mem_of_find?_eq_some h
  have h2 := List.find?_some h
  exact ⟨h1, by simpa using h2⟩
theorem getN_at {l : List Nt} (hs : SortedN l) (i : Nat) (hi : i < l.length) : getN l l[i].key = some l[i] := by
  induction l generalizing i with
  | nil => simp at hi
  | cons n l ih =>
    rw [getN_cons]
    obtain ⟨h1, h2⟩ := List.pairwise_cons.1 hs
    cases i with
    | zero => simp
    | succ i =>
      rw [List.getElem_cons_succ]
      have h3 := h1 _ (List.getElem_mem (by simpa using hi : i < l.length))
      rw [if_neg (by grind)]
      exact ih h2 i (by simpa using hi)
/-- Of one key a sorted list has one note at most. -/
theorem filter_getN {l : List Nt} (hs : SortedN l) (k : ByteArray) : (l.filter fun n => decide (n.key = k)) = (getN l k).toList := by
  induction l with
  | nil => rfl
  | cons n l ih =>
    obtain ⟨h1, h2⟩ := List.pairwise_cons.1 hs
    rw [List.filter_cons, getN_cons]
    by_cases h : n.key = k
    · rw [if_pos h, if_pos (by simpa using h)]
      have e : (l.filter fun n => decide (n.key = k)) = [] := by
        rw [List.filter_eq_nil_iff]
        intro q hq
        have := h1 q hq
        simp
        grind
      rw [e]; rfl
    · rw [if_neg h, if_neg (by simpa using h)]
      exact ih h2
theorem sortedN_ext {a b : List Nt} (ha : SortedN a) (hb : SortedN b) (h : ∀ k, getN a k = getN b k) : a = b := by
  induction a generalizing b with
  | nil =>
    cases b with
    | nil => rfl
    | cons n b => have := h n.key; rw [getN_nil, getN_cons, if_pos rfl] at this; cases this
  | cons n a ih =>
    obtain ⟨a1, a2⟩ := List.pairwise_cons.1 ha
    cases b with
    | nil => have := h n.key; rw [getN_nil, getN_cons, if_pos rfl] at this; cases this
    | cons m b =>
      obtain ⟨b1, b2⟩ := List.pairwise_cons.1 hb
      have e1 := h n.key
      have e2 := h m.key
      rw [getN_cons, if_pos rfl, getN_cons] at e1
      rw [getN_cons, getN_cons, if_pos rfl] at e2
      have e : n = m := by
        by_cases hk : m.key = n.key
        · rw [if_pos hk] at e1; injection e1
        · exfalso
          rw [if_neg hk] at e1
          rw [if_neg (fun h => hk h.symm)] at e2
          have h3 := b1 n (getN_some e1.symm).1
          have h4 := a1 m (getN_some e2).1
          grind
      subst e
      congr 1
      refine ih a2 b2 fun k => ?_
      have e3 := h k
      rw [getN_cons, getN_cons] at e3
      by_cases hk : n.key = k
      · rw [getN_none fun q hq => (by have := a1 q hq; grind), getN_none fun q hq => (by have := b1 q hq; grind)]
      · rwa [if_neg hk, if_neg hk] at e3

/-! One more. -/
def mergeN (o : Option Nt) (n : Nt) : Nt := match o with
  | some x => bothN x n
  | none => n
theorem merge_key (o : Option Nt) (n : Nt) : (mergeN o n).key = n.key := by cases o <;> rfl
def pushOne (l : List Nt) (n : Nt) : List Nt := (l.filter fun x => decide (x.key < n.key)) ++ [mergeN (getN l n.key) n] ++ (l.filter fun x => decide (n.key < x.key))
def pushL (l ns : List Nt) : List Nt := ns.foldl pushOne l
theorem pushL_append (l a b : List Nt) : pushL l (a ++ b) = pushL (pushL l a) b := List.foldl_append
theorem getN_push (l : List Nt) (n : Nt) (k : ByteArray) : getN (pushOne l n) k = if n.key = k then some (mergeN (getN l k) n) else getN l k := by
  unfold pushOne
  rw [getN_append, getN_append, getN_filter (fun x => decide (x < n.key)), getN_filter (fun x => decide (n.key < x)), getN_cons, merge_key, getN_nil]
  by_cases h : n.key = k
  · subst h
    have h1 : ¬ n.key < n.key := by grind
    simp [h1]
  · rw [if_neg h, if_neg h]
    by_cases h2 : k < n.key
    · have h3 : ¬ n.key < k := by grind
      simp [h2, h3]
    · have h3 : n.key < k := by grind
      simp [h2, h3]
theorem sorted_push {l : List Nt} (h : SortedN l) (n : Nt) : SortedN (pushOne l n) := by
  unfold pushOne
  rw [SortedN, List.pairwise_append, List.pairwise_append]
  refine ⟨⟨List.Pairwise.filter _ h, List.pairwise_singleton _ _, ?_⟩, List.Pairwise.filter _ h, ?_⟩
  · intro a ha b hb
    simp at ha hb
    subst hb
    rw [merge_key]; exact ha.2
  · intro a ha b hb
    simp at ha hb
    rcases ha with ha | rfl
    · have := ha.2; have := hb.2; grind
    · rw [merge_key]; exact hb.2
theorem sorted_pushL {l : List Nt} (h : SortedN l) (ns : List Nt) : SortedN (pushL l ns) := by
  induction ns generalizing l with
  | nil => exact h
  | cons n ns ih => exact ih (sorted_push h n)
def foldM (o : Option Nt) (ns : List Nt) : Option Nt := ns.foldl (fun o n => some (mergeN o n)) o
theorem foldM_append (o : Option Nt) (a b : List Nt) : foldM o (a ++ b) = foldM (foldM o a) b := List.foldl_append
theorem getN_pushL (l ns : List Nt) (k : ByteArray) : getN (pushL l ns) k = foldM (getN l k) (ns.filter fun n => decide (n.key = k)) := by
  induction ns generalizing l with
  | nil => rfl
  | cons n ns ih =>
    show getN (pushL (pushOne l n) ns) k = _
    rw [ih, getN_push, List.filter_cons]
    by_cases h : n.key = k
    · rw [if_pos h, if_pos (by simpa using h)]; rfl
    · rw [if_neg h, if_neg (by simpa using h)]
theorem right_merge {o : Option Nt} {n : Nt} (ho : ∀ x, o = some x → rightN x = true) (hn : rightN n = true) : rightN (mergeN o n) = true := by
  cases o with
  | none => exact hn
  | some x => exact both_right x n (ho x rfl) hn
theorem right_push {l : List Nt} (hl : l.all rightN = true) {n : Nt} (hn : rightN n = true) : (pushOne l n).all rightN = true := by
  rw [List.all_eq_true] at *
  intro x hx
  unfold pushOne at hx
  simp at hx
  rcases hx with hx | rfl | hx
  · exact hl x hx.1
  · exact right_merge (fun y hy => hl y (getN_some hy).1) hn
  · exact hl x hx.1
theorem right_pushL {l : List Nt} (hl : l.all rightN = true) {ns : List Nt} (hn : ns.all rightN = true) : (pushL l ns).all rightN = true := by
  induction ns generalizing l with
  | nil => exact hl
  | cons n ns ih =>
    rw [List.all_cons, Bool.and_eq_true] at hn
    exact ih (right_push hl hn.1) hn.2
theorem well_pushL {l : List Nt} (hl : wellN l = true) {ns : List Nt} (hn : ns.all rightN = true) : wellN (pushL l ns) = true :=
  wellN_of (sorted_pushL (wellN_sorted hl) ns) (right_pushL (wellN_right hl) hn)
theorem len_push (l : List Nt) (hs : SortedN l) (n : Nt) : (pushOne l n).length ≤ l.length + 1 := by
  unfold pushOne
  rw [List.length_append, List.length_append, List.length_singleton]
  have h : (l.filter fun x => decide (x.key < n.key)).length + (l.filter fun x => decide (n.key < x.key)).length ≤ l.length := by
    clear hs
    induction l with
    | nil => simp
    | cons x l ih =>
      rw [List.filter_cons, List.filter_cons]
      by_cases h1 : x.key < n.key
      · have h2 : ¬ n.key < x.key := by grind
        simp [h1, h2]; omega
      · by_cases h2 : n.key < x.key
        · simp [h1, h2]; omega
        · simp [h1, h2]; omega
  omega
theorem len_pushL {l : List Nt} (hs : SortedN l) (ns : List Nt) : (pushL l ns).length ≤ l.length + ns.length := by
  induction ns generalizing l with
  | nil => simp [pushL]
  | cons n ns ih =>
    have h1 := ih (sorted_push hs n)
    have h2 := len_push l hs n
    show (pushL (pushOne l n) ns).length ≤ _
    rw [List.length_cons]; omega

end Go.Proofs.Yteddjmkoleclpaa

namespace Go.Proofs.Yteddjmkoleclpaa

theorem right_kind {n : Nt} (h : rightN n = true) : n.kind = 1 ∨ n.kind = 2 ∨ n.kind = 3 ∧ n.value = noB := by
  unfold rightN at h
  by_cases h1 : n.kind = 1
  · exact .inl h1
  · by_cases h2 : n.kind = 2
    · exact .inr (.inl h2)
    · rw [if_neg h1, if_neg h2] at h
      simp at h
      exact .inr (.inr h.2)
theorem right_kind' {n : Nt} (h : rightN n = true) : (n.kind = 1 ∨ n.kind = 2) ∨ n.kind = 3 := by
  rcases right_kind h with h | h | h
  · exact .inl (.inl h)
  · exact .inl (.inr h)
  · exact .inr h.1
theorem both12 (a b : Nt) (h : b.kind = 1 ∨ b.kind = 2) : bothN a b = b := by
  unfold bothN
  rw [if_pos h]
theorem both3 (a b : Nt) (h : b.kind = 3) : bothN a b = ⟨(addedN a b).kind, b.key, (addedN a b).value, (addedN a b).n⟩ := by
  unfold bothN
  rw [if_neg (by omega), if_pos h]
theorem added12 (a b : Nt) (h : a.kind = 1 ∨ a.kind = 2) : addedN a b = ⟨1, noB, (step (step (noB, false) a) b).1, 0⟩ := by
  unfold addedN
  rw [if_pos h]
  rfl
theorem added3 (a b : Nt) (h : a.kind = 3) : addedN a b = ⟨b.kind, b.key, b.value, b.n + a.n⟩ := by
  unfold addedN
  rw [if_neg (by omega), if_pos h]
/-- Of right notes it does not matter which two are put together first. -/
theorem both_assoc {a b c : Nt} (ha : rightN a = true) (hb : rightN b = true) (hc : rightN c = true) : bothN (bothN a b) c = bothN a (bothN b c) := by
  rcases right_kind hc with h | h | ⟨h, hv⟩
  · rw [both12 _ c (.inl h), both12 b c (.inl h), both12 a c (.inl h)]
  · rw [both12 _ c (.inr h), both12 b c (.inr h), both12 a c (.inr h)]
  · have hb12 := right_kind' hb
    have ha12 := right_kind' ha
    rcases hb12 with hb1 | hb3
    · rw [both12 a b hb1]
      have e : bothN b c = ⟨1, c.key, (step (step (noB, false) b) c).1, 0⟩ := by rw [both3 b c h, added12 b c hb1]
      rw [e, both12 a _ (.inl rfl)]
    · have e : bothN b c = ⟨c.kind, c.key, c.value, c.n + b.n⟩ := by rw [both3 b c h, added3 b c hb3]
      rw [e]
      rcases ha12 with ha1 | ha3
      · have e1 : bothN a b = ⟨1, b.key, (step (step (noB, false) a) b).1, 0⟩ := by rw [both3 a b hb3, added12 a b ha1]
        rw [e1, both3 _ c h, added12 _ c (.inl rfl), both3 a ⟨c.kind, c.key, c.value, c.n + b.n⟩ h, added12 a _ ha1]
        congr 1
        rw [step1 _ ⟨1, b.key, (step (step (noB, false) a) b).1, 0⟩ rfl, step3 _ c h, step3 _ ⟨c.kind, c.key, c.value, c.n + b.n⟩ h, step3 _ b hb3]
        simp only [num_be8]
        rw [UInt64.add_assoc, UInt64.add_comm b.n]
      · have e1 : bothN a b = ⟨b.kind, b.key, b.value, b.n + a.n⟩ := by rw [both3 a b hb3, added3 a b ha3]
        rw [e1, both3 _ c h, added3 ⟨b.kind, b.key, b.value, b.n + a.n⟩ c hb3, both3 a ⟨c.kind, c.key, c.value, c.n + b.n⟩ h, added3 a _ ha3]
        simp only
        rw [UInt64.add_assoc]
theorem merge_assoc {o : Option Nt} {a b : Nt} (ho : ∀ x, o = some x → rightN x = true) (ha : rightN a = true) (hb : rightN b = true) : mergeN (some (mergeN o a)) b = mergeN o (bothN a b) := by
  cases o with
  | none => rfl
  | some x => exact both_assoc (ho x rfl) ha hb
theorem fold_right {x : Nt} {l : List Nt} (hx : rightN x = true) (hl : l.all rightN = true) : rightN (l.foldl bothN x) = true := by
  induction l generalizing x with
  | nil => exact hx
  | cons y l ih =>
    rw [List.all_cons, Bool.and_eq_true] at hl
    exact ih (both_right x y hx hl.1) hl.2
theorem foldM_cons (o : Option Nt) {x : Nt} {l : List Nt} (ho : ∀ y, o = some y → rightN y = true) (hx : rightN x = true) (hl : l.all rightN = true) : foldM o (x :: l) = some (mergeN o (l.foldl bothN x)) := by
  induction l generalizing x with
  | nil => rfl
  | cons y l ih =>
    rw [List.all_cons, Bool.and_eq_true] at hl
    have h1 : foldM o (x :: y :: l) = foldM (some (mergeN o x)) (y :: l) := rfl
    have h2 : foldM o (bothN x y :: l) = foldM (some (mergeN o (bothN x y))) l := rfl
    have h3 : foldM (some (mergeN o x)) (y :: l) = foldM (some (mergeN (some (mergeN o x)) y)) l := rfl
    rw [h1, h3, merge_assoc ho hx hl.1, ← h2, ih (both_right x y hx hl.1) hl.2]
    rfl
theorem foldM_none (x : Nt) (l : List Nt) : foldM none (x :: l) = some (l.foldl bothN x) := by
  have h : ∀ (l : List Nt) (x : Nt), foldM (some x) l = some (l.foldl bothN x) := by
    intro l
    induction l with
    | nil => intro x; rfl
    | cons y l ih => intro x; exact ih (bothN x y)
  exact h l x
theorem filter_all {l : List Nt} (h : l.all rightN = true) (k : ByteArray) : (l.filter fun n => decide (n.key = k)).all rightN = true := by
  rw [List.all_eq_true] at *
  intro x hx
  exact h x (List.mem_filter.1 hx).1
/-- What waits is pushed behind others as the notes themselves. -/
theorem push_groups {l a b : List Nt} (hl : wellN l = true) (ha : a.all rightN = true) (hb : wellN b = true) (hba : ∀ k, getN b k = foldM none (a.filter fun n => decide (n.key = k))) : pushL l b = pushL l a := by
  refine sortedN_ext (sorted_pushL (wellN_sorted hl) _) (sorted_pushL (wellN_sorted hl) _) fun k => ?_
  rw [getN_pushL, getN_pushL, filter_getN (wellN_sorted hb), hba]
  have hr := filter_all ha k
  cases e : a.filter fun n => decide (n.key = k) with
  | nil => rfl
  | cons x xs =>
    rw [e, List.all_cons, Bool.and_eq_true] at hr
    rw [foldM_none, foldM_cons _ (fun y hy => List.all_eq_true.1 (wellN_right hl) y (getN_some hy).1) hr.1 hr.2]
    rfl
theorem well_nil : wellN [] = true := rfl
theorem push_parts {a b c : List Nt} (ha : a.all rightN = true) (hb : b.all rightN = true) (hc : c.all rightN = true) : pushL (pushL [] a) (pushL (pushL [] b) c) = pushL [] (a ++ b ++ c) := by
  have h1 : pushL (pushL [] b) c = pushL [] (b ++ c) := (pushL_append _ _ _).symm
  have hbc : (b ++ c).all rightN = true := by rw [List.all_append, hb, hc]; rfl
  rw [h1, push_groups (well_pushL well_nil ha) hbc (well_pushL well_nil hbc) (fun k => getN_pushL [] (b ++ c) k), ← pushL_append, List.append_assoc]

/-! What waits does what the notes do. -/
theorem step_fold (s : Has) (x : Nt) (l : List Nt) : step s (l.foldl bothN x) = (x :: l).foldl step s := by
  induction l generalizing s x with
  | nil => rfl
  | cons y l ih =>
    show step s (l.foldl bothN (bothN x y)) = _
    rw [ih, List.foldl_cons, both_step]
    rfl
theorem steps_foldM (o : Option ByteArray) (f : List Nt) : stepsO o (foldM none f).toList = stepsO o f := by
  cases f with
  | nil => rfl
  | cons x l =>
    rw [foldM_none]
    unfold stepsO
    show optOf (([l.foldl bothN x] : List Nt).foldl step (hasOf o)) = _
    rw [List.foldl_cons, List.foldl_nil, step_fold]
theorem getN_filterM {l : List Nt} (hs : SortedN l) (k : ByteArray) : foldM none (l.filter fun n => decide (n.key = k)) = getN l k := by
  rw [filter_getN hs]
  cases getN l k <;> rfl
theorem push_does {p : List Pr} (hp : Sorted p) {l more : List Nt} (hl : SortedN l) : foldOne p (pushL l more) = foldOne p (l ++ more) := by
  refine sorted_ext (sorted_fold hp _) (sorted_fold hp _) fun k => ?_
  rw [getL_fold, getL_fold, filter_getN (sorted_pushL hl more), getN_pushL, ← getN_filterM hl, ← foldM_append, ← List.filter_append]
  exact steps_foldM _ _

/-! Parts. -/
def partI (key : ByteArray) (lows : List ByteArray) : Nat := (List.range lows.length).foldl (fun at_ i => if lows.getD i noB ≤ key then i else at_) 0
/-- A list whose things rise by a number is what each number has, one behind the other. -/
theorem flat_by (f : Nt → Nat) : ∀ (m : Nat) (l : List Nt), l.Pairwise (fun a b => f a ≤ f b) → ((List.range m).map fun i => l.filter fun n => decide (f n = i)).flatten = l.filter fun n => decide (f n < m) := by
  have key : ∀ (m : Nat) (l : List Nt), l.Pairwise (fun a b => f a ≤ f b) → (l.filter fun n => decide (f n < m)) ++ (l.filter fun n => decide (f n = m)) = l.filter fun n => decide (f n < m + 1) := by
    intro m l
    induction l with
    | nil => intro _; rfl
    | cons x l ih =>
      intro h
      obtain ⟨h1, h2⟩ := List.pairwise_cons.1 h
      have ih := ih h2
      rcases Nat.lt_trichotomy (f x) m with hx | hx | hx
      · rw [List.filter_cons, if_pos (by simpa using hx), List.filter_cons, if_neg (by simp; omega), List.filter_cons, if_pos (by simp; omega), List.cons_append, ih]
      · have e : (l.filter fun n => decide (f n < m)) = [] := by
          rw [List.filter_eq_nil_iff]
          intro q hq
          have := h1 q hq
          simp; omega
        rw [e, List.nil_append] at ih
        rw [List.filter_cons, if_neg (by simp; omega), e, List.nil_append, List.filter_cons, if_pos (by simpa using hx), List.filter_cons, if_pos (by simp; omega), ih]
      · rw [List.filter_cons, if_neg (by simp; omega), List.filter_cons, if_neg (by simp; omega), List.filter_cons, if_neg (by simp; omega), ih]
  intro m
  induction m with
  | zero => intro l _; simp
  | succ m ih =>
    intro l h
    rw [List.range_succ, List.map_append, List.flatten_append, ih l h]
    simp only [List.map_cons, List.map_nil, List.flatten_cons, List.flatten_nil, List.append_nil]
    exact key m l h

end Go.Proofs.Yteddjmkoleclpaa

namespace Go.Proofs.Yteddjmkoleclpaa

/-! Which part a key belongs to. -/
def partTo (key : ByteArray) (lows : List ByteArray) : Nat → Nat
  | 0 => 0
  | m + 1 => if lows.getD m noB ≤ key then m else partTo key lows m
def partN' (key : ByteArray) (lows : List ByteArray) : Nat := partTo key lows lows.length
theorem part_lt (key : ByteArray) (lows : List ByteArray) : ∀ m, 0 < m → partTo key lows m < m := by
  intro m
  induction m with
  | zero => intro h; omega
  | succ m ih =>
    intro _
    unfold partTo
    split
    · omega
    · rcases Nat.eq_zero_or_pos m with h | h
      · subst h; simp [partTo]
      · have := ih h; omega
theorem part_le (key : ByteArray) (lows : List ByteArray) (m : Nat) : partTo key lows m ≤ m := by
  rcases Nat.eq_zero_or_pos m with h | h
  · subst h; exact Nat.le_refl _
  · exact Nat.le_of_lt (part_lt key lows m h)
theorem part_mono {a b : ByteArray} (h : a ≤ b) (lows : List ByteArray) : ∀ m, partTo a lows m ≤ partTo b lows m := by
  intro m
  induction m with
  | zero => exact Nat.le_refl _
  | succ m ih =>
    unfold partTo
    by_cases h1 : lows.getD m noB ≤ a
    · rw [if_pos h1, if_pos (by grind)]
      exact Nat.le_refl _
    · rw [if_neg h1]
      split
      · exact part_le a lows m
      · exact ih
/-- The last low that is not greater than the key, or the first part. -/
theorem part_is {key : ByteArray} {lows : List ByteArray} {m i : Nat} (hi : i < m) (h1 : lows.getD i noB ≤ key ∨ i = 0) (h2 : ∀ j, i < j → j < m → ¬ lows.getD j noB ≤ key) : partTo key lows m = i := by
  induction m with
  | zero => omega
  | succ m ih =>
    unfold partTo
    by_cases hm : i = m
    · subst hm
      rcases h1 with h1 | h1
      · rw [if_pos h1]
      · subst h1
        split
        · rfl
        · rfl
    · rw [if_neg (h2 m (by omega) (by omega))]
      exact ih (by omega) (fun j hj hjm => h2 j hj (by omega))
def splitL (l : List Nt) (lows : List ByteArray) : List (List Nt) := (List.range lows.length).map fun i => l.filter fun n => decide (partN' n.key lows = i)
theorem split_len (l : List Nt) (lows : List ByteArray) : (splitL l lows).length = lows.length := by simp [splitL]
theorem split_flat {l : List Nt} (hs : SortedN l) {lows : List ByteArray} (h : 0 < lows.length) : (splitL l lows).flatten = l := by
  unfold splitL
  rw [flat_by (fun n => partN' n.key lows)]
  · rw [List.filter_eq_self]
    intro n _
    exact decide_eq_true (part_lt n.key lows lows.length h)
  · refine List.Pairwise.imp ?_ hs
    intro a b hab
    exact part_mono (by grind) lows lows.length
theorem split_apart (l : List Nt) (lows : List ByteArray) : (splitL l lows).Pairwise fun a b => ∀ x ∈ a, ∀ y ∈ b, x.key ≠ y.key := by
  unfold splitL
  rw [List.pairwise_map]
  refine List.Pairwise.imp ?_ (List.nodup_range (n := lows.length))
  intro i j hij x hx y hy e
  have h1 := (List.mem_filter.1 hx).2
  have h2 := (List.mem_filter.1 hy).2
  simp only [decide_eq_true_eq] at h1 h2
  rw [e, h2] at h1
  exact hij h1.symm
theorem steq_rev {ps : List (List Nt)} (h : ps.Pairwise fun a b => ∀ x ∈ a, ∀ y ∈ b, x.key ≠ y.key) : StEq ps.reverse.flatten ps.flatten := by
  induction ps with
  | nil => exact StEq.rfl' _
  | cons q ps ih =>
    obtain ⟨h1, h2⟩ := List.pairwise_cons.1 h
    rw [List.reverse_cons, List.flatten_append, List.flatten_cons, List.flatten_cons, List.flatten_nil, List.append_nil]
    refine (StEq.app (ih h2) (StEq.rfl' q)).trans (StEq.swap fun x hx y hy => ?_)
    obtain ⟨p, hp, hxp⟩ := List.mem_flatten.1 hx
    exact fun e => h1 p hp y hy x hxp e.symm
theorem fold_parts {p : List Pr} (hp : Sorted p) {l : List Nt} (hs : SortedN l) {lows : List ByteArray} (h : 0 < lows.length) : foldOne p (splitL l lows).reverse.flatten = foldOne p l := by
  have h1 := fold_steq hp (steq_rev (split_apart l lows))
  rwa [split_flat hs h] at h1
theorem split_right {l : List Nt} (h : l.all rightN = true) (lows : List ByteArray) {q : List Nt} (hq : q ∈ splitL l lows) : q.all rightN = true := by
  obtain ⟨i, _, rfl⟩ := List.mem_map.1 hq
  rw [List.all_eq_true] at *
  intro x hx
  exact h x (List.mem_filter.1 hx).1

/-! The part that has the most. -/
def MostAt (ps : List (List Nt)) (m : Nat) : Prop := ∃ h : m < ps.length, ∀ i (hi : i < ps.length), ps[i].length ≤ ps[m].length ∧ (i < m → ps[i].length < ps[m].length)
theorem most_uniq {ps : List (List Nt)} {a b : Nat} (ha : MostAt ps a) (hb : MostAt ps b) : a = b := by
  obtain ⟨h1, h2⟩ := ha
  obtain ⟨g1, g2⟩ := hb
  rcases Nat.lt_trichotomy a b with h | h | h
  · have e1 := (g2 a h1).2 h
    have e2 := (h2 b g1).1
    omega
  · exact h
  · have e1 := (h2 b g1).2 h
    have e2 := (g2 a h1).1
    omega
/-- Of the first parts. -/
def MostTo (ps : List (List Nt)) (k m : Nat) : Prop := ∃ h : m < ps.length, (m = 0 ∨ m < k) ∧ ∀ i (hi : i < ps.length), i < k → ps[i].length ≤ ps[m].length ∧ (i < m → ps[i].length < ps[m].length)
theorem most_zero {ps : List (List Nt)} (h : 0 < ps.length) : MostTo ps 0 0 := ⟨h, .inl rfl, fun i _ h0 => by omega⟩
theorem most_step {ps : List (List Nt)} {k m : Nat} (h : MostTo ps k m) (hk : k < ps.length) :
    (ps[m]'h.1).length < (ps[k]'hk).length ∧ MostTo ps (k + 1) k ∨ ¬ (ps[m]'h.1).length < (ps[k]'hk).length ∧ MostTo ps (k + 1) m := by
  obtain ⟨h1, h2, h3⟩ := h
  by_cases hl : ps[m].length < ps[k].length
  · refine .inl ⟨hl, hk, .inr (by omega), fun i hi hik => ?_⟩
    by_cases e : i = k
    · subst e
      exact ⟨Nat.le_refl _, fun h => by omega⟩
    · have := (h3 i hi (by omega)).1
      exact ⟨by omega, fun _ => by omega⟩
  · refine .inr ⟨hl, h1, by omega, fun i hi hik => ?_⟩
    by_cases e : i = k
    · subst e
      refine ⟨by omega, fun h => ?_⟩
      rcases h2 with h2 | h2 <;> omega
    · exact h3 i hi (by omega)
theorem most_all {ps : List (List Nt)} {m : Nat} (h : MostTo ps ps.length m) : MostAt ps m := ⟨h.1, fun i hi => h.2.2 i hi hi⟩

/-! Do keys rise? -/
def risesS (l : List ByteArray) : Bool := decide (∀ i (h : i < l.length), 0 < i → l[i - 1] < l[i])
theorem risesS_iff (l : List ByteArray) : risesS l = true ↔ ∀ i (h : i < l.length), 0 < i → l[i - 1] < l[i] := by unfold risesS; exact decide_eq_true_iff
theorem risesS_no {l : List ByteArray} (i : Nat) (h : i < l.length) (h0 : 0 < i) (hn : ¬ l[i - 1] < l[i]) : risesS l = false := by
  cases e : risesS l with
  | false => rfl
  | true => exact absurd ((risesS_iff l).1 e i h h0) hn

end Go.Proofs.Yteddjmkoleclpaa

namespace Go.Proofs.Yteddjmkoleclpaa

/-! The document's Both. -/
def dbothN (a b : Nt) : Nt :=
  if b.kind < 1 ∨ b.kind > 3 then ⟨a.kind, b.key, a.value, a.n⟩
  else if b.kind ≠ 3 ∨ a.kind < 1 ∨ a.kind > 3 then b
  else if a.kind = 3 then ⟨3, b.key, b.value, a.n + b.n⟩
  else ⟨1, b.key, (doneL noB false [a, b]).1, 0⟩
theorem dboth_eq (a b : Nt) : dbothN a b = bothN a b := by
  unfold dbothN bothN addedN
  by_cases h1 : b.kind < 1 ∨ b.kind > 3
  · rw [if_pos h1, if_neg (by omega), if_neg (by omega)]
  · rw [if_neg h1]
    by_cases h3 : b.kind = 3
    · rw [if_neg (show ¬ (b.kind = 1 ∨ b.kind = 2) by omega), if_pos h3]
      by_cases ha : a.kind = 3
      · rw [if_neg (by omega), if_pos ha, if_neg (by omega), if_pos ha, h3, UInt64.add_comm]
      · by_cases ha2 : a.kind = 1 ∨ a.kind = 2
        · rw [if_neg (by omega), if_neg ha, if_pos ha2]
        · rw [if_pos (by omega), if_neg ha2, if_neg ha]
    · rw [if_pos (by omega), if_pos (show b.kind = 1 ∨ b.kind = 2 by omega)]

/-! One more, note by note: l of which k notes were gone through. -/
def pastAt (l : List Nt) (key : ByteArray) (k : Nat) : Bool := (l.take k).any fun x => !decide (x.key < key)
def outAt (l : List Nt) (n : Nt) (k : Nat) : List Nt := if pastAt l n.key k then pushOne (l.take k) n else l.take k
theorem past_succ {l : List Nt} {k : Nat} (hk : k < l.length) (key : ByteArray) : pastAt l key (k + 1) = (pastAt l key k || !decide (l[k].key < key)) := by
  unfold pastAt
  rw [List.take_succ_eq_append_getElem hk, List.any_append]
  simp
theorem past_zero (l : List Nt) (key : ByteArray) : pastAt l key 0 = false := by simp [pastAt]
theorem out_zero (l : List Nt) (n : Nt) : outAt l n 0 = [] := by unfold outAt; rw [past_zero]; simp
theorem past_not {l : List Nt} (hs : SortedN l) {k : Nat} (hk : k < l.length) {key : ByteArray} (h : ¬ key < l[k].key) : pastAt l key k = false := by
  unfold pastAt
  rw [List.any_eq_false]
  intro x hx
  obtain ⟨i, hi, rfl⟩ := List.getElem_of_mem hx
  simp at hi
  have h1 := sortedN_get.1 hs i k (by omega) hk (by omega)
  rw [List.getElem_take]
  simp
  grind
theorem push_all_less {l : List Nt} {n : Nt} (h : ∀ x ∈ l, x.key < n.key) : pushOne l n = l ++ [n] := by
  unfold pushOne
  have e1 : (l.filter fun x => decide (x.key < n.key)) = l := List.filter_eq_self.2 fun x hx => decide_eq_true (h x hx)
  have e2 : (l.filter fun x => decide (n.key < x.key)) = [] := List.filter_eq_nil_iff.2 fun x hx => by have := h x hx; simp; grind
  have e3 : getN l n.key = none := getN_none fun x hx e => by have := h x hx; grind
  rw [e1, e2, e3, List.append_nil]; rfl
theorem push_more {l : List Nt} {n x : Nt} (h : n.key < x.key) : pushOne (l ++ [x]) n = pushOne l n ++ [x] := by
  unfold pushOne
  have h1 : ¬ x.key < n.key := by grind
  have h2 : ¬ x.key = n.key := by grind
  rw [List.filter_append, List.filter_append, getN_append, getN_cons, if_neg h2, getN_nil, Option.or_none]
  simp [h, h1]
theorem push_at {l : List Nt} {n x : Nt} (h : ∀ y ∈ l, y.key < n.key) (hx : x.key = n.key) : pushOne (l ++ [x]) n = l ++ [bothN x n] := by
  unfold pushOne
  have h1 : ¬ x.key < n.key := by grind
  have h2 : ¬ n.key < x.key := by grind
  have e1 : (l.filter fun x => decide (x.key < n.key)) = l := List.filter_eq_self.2 fun x hx => decide_eq_true (h x hx)
  have e2 : (l.filter fun x => decide (n.key < x.key)) = [] := List.filter_eq_nil_iff.2 fun x hx => by have := h x hx; simp; grind
  have e3 : getN l n.key = none := getN_none fun x hx e => by have := h x hx; grind
  rw [List.filter_append, List.filter_append, e1, e2, getN_append, e3, getN_cons, if_pos hx]
  simp [h1, h2, mergeN]
theorem past_all {l : List Nt} {key : ByteArray} {k : Nat} (h : pastAt l key k = false) : ∀ x ∈ l.take k, x.key < key := by
  intro x hx
  unfold pastAt at h
  have := List.any_eq_false.1 h x hx
  simpa using this
theorem out_lt {l : List Nt} (hs : SortedN l) {k : Nat} (hk : k < l.length) {n : Nt} (h : l[k].key < n.key) :
    pastAt l n.key k = false ∧ pastAt l n.key (k + 1) = false ∧ outAt l n (k + 1) = outAt l n k ++ [l[k]] := by
  have h1 := past_not hs hk (key := n.key) (by grind)
  have h2 : pastAt l n.key (k + 1) = false := by rw [past_succ hk, h1]; simp [h]
  refine ⟨h1, h2, ?_⟩
  unfold outAt
  rw [h1, h2, List.take_succ_eq_append_getElem hk]; rfl
theorem out_eq {l : List Nt} (hs : SortedN l) {k : Nat} (hk : k < l.length) {n : Nt} (h : l[k].key = n.key) :
    pastAt l n.key (k + 1) = true ∧ outAt l n (k + 1) = outAt l n k ++ [bothN l[k] n] := by
  have h0 : ¬ l[k].key < n.key := by grind
  have h1 := past_not hs hk (key := n.key) (by grind)
  have h2 : pastAt l n.key (k + 1) = true := by rw [past_succ hk]; simp [h0]
  refine ⟨h2, ?_⟩
  unfold outAt
  rw [h1, h2, List.take_succ_eq_append_getElem hk]
  exact push_at (past_all h1) h
theorem out_new {l : List Nt} {k : Nat} (hk : k < l.length) {n : Nt} (h : n.key < l[k].key) (hp : pastAt l n.key k = false) :
    pastAt l n.key (k + 1) = true ∧ outAt l n (k + 1) = outAt l n k ++ [n] ++ [l[k]] := by
  have h0 : ¬ l[k].key < n.key := by grind
  have h2 : pastAt l n.key (k + 1) = true := by rw [past_succ hk]; simp [h0]
  refine ⟨h2, ?_⟩
  unfold outAt
  rw [hp, h2, List.take_succ_eq_append_getElem hk]
  show pushOne _ n = l.take k ++ [n] ++ [l[k]]
  rw [push_more h, push_all_less (past_all hp)]
theorem out_gt {l : List Nt} {k : Nat} (hk : k < l.length) {n : Nt} (h : n.key < l[k].key) (hp : pastAt l n.key k = true) :
    pastAt l n.key (k + 1) = true ∧ outAt l n (k + 1) = outAt l n k ++ [l[k]] := by
  have h2 : pastAt l n.key (k + 1) = true := by rw [past_succ hk, hp]; rfl
  refine ⟨h2, ?_⟩
  unfold outAt
  rw [hp, h2, List.take_succ_eq_append_getElem hk]
  exact push_more h
theorem out_end (l : List Nt) (n : Nt) : pushOne l n = if pastAt l n.key l.length then outAt l n l.length else outAt l n l.length ++ [n] := by
  unfold outAt
  cases h : pastAt l n.key l.length with
  | true => simp
  | false =>
    have h1 := past_all h
    rw [List.take_length] at h1 ⊢
    exact push_all_less h1
theorem out_len (l : List Nt) (hs : SortedN l) (n : Nt) (k : Nat) : (outAt l n k).length ≤ k + 1 := by
  unfold outAt
  have h0 : (l.take k).length ≤ k := by simp; omega
  split
  · have h1 := len_push (l.take k) (hs.sublist (List.take_sublist _ _)) n
    omega
  · omega

/-! What Push, Find, Split and Most answer. -/
def pushA (l ns : List Nt) : List Nt := if wellN l && ns.all rightN then pushL l ns else l
def pushE (l ns : List Nt) : Int := if wellN l && ns.all rightN then 0 else 1
def nt0 : Nt := ⟨0, noB, noB, 0⟩
def findA (l : List Nt) (k : ByteArray) : Nt × Bool := if wellN l then (match getN l k with | some x => (x, true) | none => (nt0, false)) else (nt0, false)
def splitA (l : List Nt) (lows : List ByteArray) : List (List Nt) := if wellN l && risesS lows then splitL l lows else []
def MostA (l : List Nt) (lows : List ByteArray) (m : Nat) : Prop := (splitA l lows = [] ∧ m = 0) ∨ MostAt (splitA l lows) m
theorem push_yes {l ns : List Nt} (h : pushE l ns = 0) : wellN l = true ∧ ns.all rightN = true ∧ pushA l ns = pushL l ns := by
  unfold pushE at h
  split at h
  · rename_i h1
    rw [Bool.and_eq_true] at h1
    refine ⟨h1.1, h1.2, ?_⟩
    unfold pushA
    rw [h1.1, h1.2]; rfl
  · cases h
theorem push_no {l ns : List Nt} (h : pushE l ns ≠ 0) : (wellN l && ns.all rightN) = false ∧ pushE l ns = 1 ∧ pushA l ns = l := by
  unfold pushE at h
  split at h
  · exact absurd rfl h
  · rename_i h1
    have h2 : (wellN l && ns.all rightN) = false := by simpa using h1
    refine ⟨h2, ?_, ?_⟩
    · unfold pushE; rw [h2]; rfl
    · unfold pushA; rw [h2]; rfl
theorem len_pushA (l ns : List Nt) : (pushA l ns).length ≤ l.length + ns.length := by
  unfold pushA
  split
  · rename_i h
    rw [Bool.and_eq_true] at h
    exact len_pushL (wellN_sorted h.1) ns
  · omega

end Go.Proofs.Yteddjmkoleclpaa

namespace Go.Proofs.Yteddjmkoleclpaa

def underN (l : List Nt) (k : ByteArray) : Nat := l.countP fun p => decide (p.key < k)
theorem underN_le (l : List Nt) (k : ByteArray) : underN l k ≤ l.length := List.countP_le_length
theorem sortedN_cons {p : Nt} {l : List Nt} : SortedN (p :: l) ↔ (∀ q ∈ l, p.key < q.key) ∧ SortedN l := List.pairwise_cons
theorem all_underN {l : List Nt} {p : Nt} (h : ∀ q ∈ l, p.key < q.key) {k : ByteArray} (hk : ¬ p.key < k) : underN l k = 0 ∧ (l.filter fun q => decide (q.key < k)) = [] ∧ (l.filter fun q => decide (k ≤ q.key)) = l := by
  refine ⟨?_, ?_, ?_⟩
  · unfold underN
    rw [List.countP_eq_zero]
    intro q hq
    have := h q hq
    simp only [decide_eq_true_eq]
    grind
  · rw [List.filter_eq_nil_iff]
    intro q hq
    have := h q hq
    simp only [decide_eq_true_eq]
    grind
  · rw [List.filter_eq_self]
    intro q hq
    have := h q hq
    simp only [decide_eq_true_eq]
    grind
theorem take_underN {l : List Nt} (hs : SortedN l) (k : ByteArray) : l.take (underN l k) = l.filter fun p => decide (p.key < k) := by
  induction l with
  | nil => rfl
  | cons p l ih =>
    rw [sortedN_cons] at hs
    by_cases h : p.key < k
    · have e : underN (p :: l) k = underN l k + 1 := by unfold underN; rw [List.countP_cons, if_pos (by simpa using h)]
      rw [e, List.take_succ_cons, ih hs.2, List.filter_cons, if_pos (by simpa using h)]
    · have e : underN (p :: l) k = underN l k := by unfold underN; rw [List.countP_cons, if_neg (by simpa using h)]; rfl
      obtain ⟨h1, h2, _⟩ := all_underN hs.1 h
      rw [e, h1, List.take_zero, List.filter_cons, if_neg (by simpa using h), h2]
theorem drop_underN {l : List Nt} (hs : SortedN l) (k : ByteArray) : l.drop (underN l k) = l.filter fun p => decide (k ≤ p.key) := by
  induction l with
  | nil => rfl
  | cons p l ih =>
    rw [sortedN_cons] at hs
    by_cases h : p.key < k
    · have e : underN (p :: l) k = underN l k + 1 := by unfold underN; rw [List.countP_cons, if_pos (by simpa using h)]
      have h2 : ¬ k ≤ p.key := by grind
      rw [e, List.drop_succ_cons, ih hs.2, List.filter_cons, if_neg (by simpa using h2)]
    · have e : underN (p :: l) k = underN l k := by unfold underN; rw [List.countP_cons, if_neg (by simpa using h)]; rfl
      have h2 : k ≤ p.key := by grind
      obtain ⟨h1, _, h3⟩ := all_underN hs.1 h
      rw [e, h1, List.drop_zero, List.filter_cons, if_pos (by simpa using h2), h3]
theorem under_thereN {l : List Nt} (hs : SortedN l) (k : ByteArray) (x : Nt) (h : getN l k = some x) : ∃ hl : underN l k < l.length, l[underN l k] = x ∧ l.drop (underN l k + 1) = l.filter fun p => decide (k < p.key) := by
  induction l with
  | nil => cases h
  | cons p l ih =>
    rw [sortedN_cons] at hs
    rw [getN_cons] at h
    by_cases hp : p.key < k
    · rw [if_neg (by grind)] at h
      obtain ⟨hl, h1, h2⟩ := ih hs.2 h
      have e : underN (p :: l) k = underN l k + 1 := by unfold underN; rw [List.countP_cons, if_pos (by simpa using hp)]
      have h3 : ¬ k < p.key := by grind
      refine ⟨by rw [e]; simpa using hl, by simp only [e, List.getElem_cons_succ]; exact h1, ?_⟩
      rw [e, List.drop_succ_cons, h2, List.filter_cons, if_neg (by simpa using h3)]
    · have e : underN (p :: l) k = underN l k := by unfold underN; rw [List.countP_cons, if_neg (by simpa using hp)]; rfl
      obtain ⟨h1, _, _⟩ := all_underN hs.1 hp
      by_cases e2 : p.key = k
      · rw [if_pos e2] at h
        injection h with h
        refine ⟨by rw [e, h1]; simp, by simp only [e, h1, List.getElem_cons_zero]; exact h, ?_⟩
        rw [e, h1, List.drop_succ_cons, List.drop_zero, List.filter_cons, if_neg (by simp; grind)]
        rw [eq_comm, List.filter_eq_self]
        intro q hq
        have := hs.1 q hq
        simp only [decide_eq_true_eq]
        grind
      · rw [if_neg e2] at h
        obtain ⟨hm, he⟩ := getN_some h
        have h2 := hs.1 x hm
        rw [he] at h2
        exact absurd h2 hp
theorem under_noneN {l : List Nt} (k : ByteArray) (h : getN l k = none) : (l.filter fun p => decide (k ≤ p.key)) = l.filter fun p => decide (k < p.key) := by
  induction l with
  | nil => rfl
  | cons p l ih =>
    rw [getN_cons] at h
    by_cases e : p.key = k
    · rw [if_pos e] at h; cases h
    · rw [if_neg e] at h
      rw [List.filter_cons, List.filter_cons, ih h]
      have : decide (k ≤ p.key) = decide (k < p.key) := by
        rw [decide_eq_decide]
        grind
      rw [this]
theorem under_atN {l : List Nt} (hs : SortedN l) (k : ByteArray) : (getN l k).isSome = true ↔ ∃ h : underN l k < l.length, l[underN l k].key = k := by
  constructor
  · intro h
    obtain ⟨v, hv⟩ := Option.isSome_iff_exists.1 h
    obtain ⟨h1, h2, _⟩ := under_thereN hs k v hv
    exact ⟨h1, by rw [h2]; exact (getN_some hv).2⟩
  · rintro ⟨h, e⟩
    have := getN_at hs _ h
    rw [e] at this
    rw [this]; rfl
theorem under_placeN {l : List Nt} (hs : SortedN l) (i : Nat) (hi : i < l.length) : underN l l[i].key = i := by
  have h1 := getN_at hs i hi
  obtain ⟨h2, h3, _⟩ := under_thereN hs _ _ h1
  have hp := List.pairwise_iff_getElem.1 hs
  have h4 : l[underN l l[i].key].key = l[i].key := by rw [h3]
  rcases Nat.lt_trichotomy (underN l l[i].key) i with h | h | h
  · have := hp _ i h2 hi h
    grind
  · exact h
  · have := hp i _ hi h2 h
    grind
theorem under_monoN {l : List Nt} {a b : ByteArray} (h : a ≤ b) : underN l a ≤ underN l b := by
  unfold underN
  apply List.countP_mono_left
  intro p _ hp
  simp only [decide_eq_true_eq] at hp ⊢
  grind
/-- One more, where it belongs. -/
theorem push_place {l : List Nt} (hs : SortedN l) (n : Nt) : pushOne l n = l.take (underN l n.key) ++ [mergeN (getN l n.key) n] ++ l.drop (underN l n.key + if (getN l n.key).isSome then 1 else 0) := by
  unfold pushOne
  rw [take_underN hs]
  congr 1
  cases h : getN l n.key with
  | none => rw [if_neg (by simp), Nat.add_zero, drop_underN hs, under_noneN _ h]
  | some x =>
    obtain ⟨_, _, h3⟩ := under_thereN hs n.key x h
    rw [if_pos (by simp), h3]

end Go.Proofs.Yteddjmkoleclpaa

namespace Go.Proofs.Yteddjmkoleclpaa

theorem push_self {l : List Nt} (hs : SortedN l) : pushL [] l = l := sortedN_ext (sorted_pushL .nil _) hs fun k => by rw [getN_pushL, getN_nil]; exact getN_filterM hs k
theorem push_steq {a b : List Nt} (h : StEq a b) : pushL [] a = pushL [] b := sortedN_ext (sorted_pushL .nil _) (sorted_pushL .nil _) fun k => by rw [getN_pushL, getN_pushL, h k]
theorem push_onto {l ns : List Nt} (hs : SortedN l) : pushL [] (l ++ ns) = pushL l ns := by rw [pushL_append, push_self hs]
/-- What k of them come to. -/
def accJ (s : List Nt) (k : Nat) : List Nt := pushL [] (s.take k)
theorem acc_zero (s : List Nt) : accJ s 0 = [] := rfl
theorem acc_len (s : List Nt) (k : Nat) : (accJ s k).length ≤ k := by
  have h1 := len_pushL (l := []) .nil (s.take k)
  have h2 : (s.take k).length ≤ k := by simp; omega
  unfold accJ
  simp only [List.length_nil] at h1
  omega
theorem acc_sorted (s : List Nt) (k : Nat) : SortedN (accJ s k) := sorted_pushL .nil _
theorem acc_mem {s : List Nt} {k : Nat} {x : Nt} (h : x ∈ accJ s k) : ∃ y ∈ s.take k, y.key = x.key := by
  obtain ⟨i, hi, e⟩ := List.getElem_of_mem h
  have h1 := getN_at (acc_sorted s k) i hi
  rw [e] at h1
  unfold accJ at h1
  rw [getN_pushL, getN_nil] at h1
  cases hf : ((s.take k).filter fun n => decide (n.key = x.key)) with
  | nil => rw [hf] at h1; cases h1
  | cons y t =>
    have h2 : y ∈ (s.take k).filter fun n => decide (n.key = x.key) := by rw [hf]; exact List.mem_cons_self
    obtain ⟨h3, h4⟩ := List.mem_filter.1 h2
    exact ⟨y, h3, by simpa using h4⟩
theorem acc_le {s : List Nt} (hr : Rising s) {k : Nat} (hk : k < s.length) {x : Nt} (h : x ∈ accJ s k) : x.key ≤ s[k].key := by
  obtain ⟨y, hy, e⟩ := acc_mem h
  rw [← e]
  obtain ⟨i, hi, rfl⟩ := List.getElem_of_mem hy
  simp at hi
  rw [List.getElem_take]
  exact rising_get hr hk (by omega)
theorem acc_succ {s : List Nt} {k : Nat} (hk : k < s.length) : accJ s (k + 1) = pushOne (accJ s k) s[k] := by
  unfold accJ
  rw [List.take_succ_eq_append_getElem hk, pushL_append]; rfl
/-- One more, of another key than the last one's, or the first one. -/
theorem acc_new {s : List Nt} (hr : Rising s) {k : Nat} (hk : k < s.length) (h : ∀ q x, accJ s k = q ++ [x] → x.key ≠ s[k].key) : accJ s (k + 1) = accJ s k ++ [s[k]] := by
  rw [acc_succ hk]
  refine push_all_less fun x hx => ?_
  rcases List.eq_nil_or_concat (accJ s k) with h0 | ⟨q, y, h0⟩
  · rw [h0] at hx; cases hx
  · rw [List.concat_eq_append] at h0
    have h1 := h q y h0
    have h2 : y.key ≤ s[k].key := acc_le hr hk (by rw [h0]; simp)
    have h3 : x.key ≤ y.key := by
      have hs := acc_sorted s k
      rw [h0] at hs hx
      rcases List.mem_append.1 hx with hx | hx
      · have h4 := (List.pairwise_append.1 hs).2.2 x hx y (by simp)
        grind
      · simp at hx
        rw [hx]; grind
    grind
/-- One more of the last one's key. -/
theorem acc_same {s : List Nt} {k : Nat} (hk : k < s.length) {q : List Nt} {x : Nt} (h0 : accJ s k = q ++ [x]) (h : x.key = s[k].key) : accJ s (k + 1) = q ++ [bothN x s[k]] := by
  rw [acc_succ hk, h0]
  refine push_at (fun y hy => ?_) h
  have hs := acc_sorted s k
  rw [h0] at hs
  have h4 := (List.pairwise_append.1 hs).2.2 y hy x (by simp)
  rw [← h]; exact h4
/-- All that rise, of a list as it was sorted. -/
theorem acc_all {s l ns : List Nt} (hs : SortedN l) (h : StEq s (l ++ ns)) : accJ s s.length = pushL l ns := by
  unfold accJ
  rw [List.take_length, push_steq h, push_onto hs]

/-! Parts by their ends: where the part of a low ends, in a list that waits well. -/
theorem lt_underN {l : List Nt} (hs : SortedN l) (key : ByteArray) (i : Nat) (h : i < l.length) : l[i].key < key ↔ i < underN l key := by
  have h1 := under_placeN hs i h
  constructor
  · intro h2
    rcases Nat.lt_or_ge i (underN l key) with h3 | h3
    · exact h3
    · exfalso
      have h4 := drop_underN hs key
      have h5 : l[i] ∈ l.drop (underN l key) := by
        rw [List.mem_iff_getElem]
        exact ⟨i - underN l key, by simp; omega, by rw [List.getElem_drop]; congr 1; omega⟩
      rw [h4] at h5
      have h6 := (List.mem_filter.1 h5).2
      simp only [decide_eq_true_eq] at h6
      grind
  · intro h2
    have h4 := take_underN hs key
    have h5 : l[i] ∈ l.take (underN l key) := by
      rw [List.mem_iff_getElem]
      exact ⟨i, by simp; omega, by rw [List.getElem_take]⟩
    rw [h4] at h5
    have h6 := (List.mem_filter.1 h5).2
    simpa using h6
theorem under_drop {l : List Nt} (hs : SortedN l) (key : ByteArray) {p : Nat} (hp : p ≤ underN l key) : p + underN (l.drop p) key = underN l key := by
  have h1 : underN l key = underN (l.take p) key + underN (l.drop p) key := by
    unfold underN
    rw [← List.countP_append, List.take_append_drop]
  have h2 : underN (l.take p) key = p := by
    unfold underN
    have h3 : (l.take p).length = p := by have := underN_le l key; simp; omega
    rw [List.countP_eq_length.2 fun x hx => ?_, h3]
    obtain ⟨i, hi, rfl⟩ := List.getElem_of_mem hx
    simp at hi
    rw [List.getElem_take]
    exact decide_eq_true ((lt_underN hs key i (by omega)).2 (by omega))
  omega
theorem filter_between {l : List Nt} {p : Nt → Bool} {a b : Nat} (hab : a ≤ b) (h : ∀ i (hi : i < l.length), p l[i] = true ↔ a ≤ i ∧ i < b) : l.filter p = (l.drop a).take (b - a) := by
  have e1 : l = l.take a ++ ((l.drop a).take (b - a) ++ l.drop b) := by
    have h1 : l.drop b = (l.drop a).drop (b - a) := by rw [List.drop_drop]; congr 1; omega
    rw [h1, List.take_append_drop, List.take_append_drop]
  have f1 : (l.take a).filter p = [] := by
    rw [List.filter_eq_nil_iff]
    intro x hx
    obtain ⟨i, hi, rfl⟩ := List.getElem_of_mem hx
    simp at hi
    rw [List.getElem_take, h i (by omega)]
    omega
  have f2 : ((l.drop a).take (b - a)).filter p = (l.drop a).take (b - a) := by
    rw [List.filter_eq_self]
    intro x hx
    obtain ⟨i, hi, rfl⟩ := List.getElem_of_mem hx
    simp at hi
    rw [List.getElem_take, List.getElem_drop, h (a + i) (by omega)]
    omega
  have f3 : (l.drop b).filter p = [] := by
    rw [List.filter_eq_nil_iff]
    intro x hx
    obtain ⟨i, hi, rfl⟩ := List.getElem_of_mem hx
    simp at hi
    rw [List.getElem_drop, h (b + i) (by omega)]
    omega
  conv => lhs; rw [e1]
  rw [List.filter_append, List.filter_append, f1, f2, f3, List.append_nil, List.nil_append]
theorem part_at {key : ByteArray} {lows : List ByteArray} : ∀ {m i : Nat}, i < m → partTo key lows m = i → (i = 0 ∨ lows.getD i noB ≤ key) ∧ ∀ j, i < j → j < m → ¬ lows.getD j noB ≤ key
  | 0, i, h, _ => by omega
  | m + 1, i, h, e => by
    have e2 : partTo key lows (m + 1) = if lows.getD m noB ≤ key then m else partTo key lows m := rfl
    rw [e2] at e
    by_cases h1 : lows.getD m noB ≤ key
    · rw [if_pos h1] at e
      subst e
      exact ⟨.inr h1, fun j hj hj2 => by omega⟩
    · rw [if_neg h1] at e
      rcases Nat.lt_or_ge i m with h2 | h2
      · obtain ⟨h3, h4⟩ := part_at h2 e
        refine ⟨h3, fun j hj hj2 => ?_⟩
        rcases Nat.lt_or_ge j m with h5 | h5
        · exact h4 j hj h5
        · have : j = m := by omega
          subst this
          exact h1
      · have : i = m := by omega
        subst this
        have h5 := part_le key lows i
        rcases Nat.eq_zero_or_pos i with h6 | h6
        · exact ⟨.inl h6, fun j hj hj2 => by omega⟩
        · have := part_lt key lows i h6
          omega
theorem lows_mono {lows : List ByteArray} (hl : risesS lows = true) : ∀ (j : Nat), j < lows.length → ∀ i, i < j → lows.getD i noB < lows.getD j noB := by
  have hr := (risesS_iff lows).1 hl
  intro j
  induction j with
  | zero => intro _ i h; omega
  | succ j ih =>
    intro hj i hij
    have h1 := hr (j + 1) hj (by omega)
    simp only [Nat.add_sub_cancel] at h1
    have e1 : lows.getD j noB = lows[j] := by rw [List.getD_eq_getElem?_getD, List.getElem?_eq_getElem (by omega)]; rfl
    have e2 : lows.getD (j + 1) noB = lows[j + 1] := by rw [List.getD_eq_getElem?_getD, List.getElem?_eq_getElem hj]; rfl
    rw [e2]
    rcases Nat.lt_or_ge i j with h2 | h2
    · have h3 := ih (by omega) i h2
      rw [e1] at h3
      grind
    · have : i = j := by omega
      subst this
      rw [e1]; exact h1
/-- Which part a key is in, by the low that it is not less than, and the next one. -/
theorem under_part {lows : List ByteArray} (hl : risesS lows = true) {key : ByteArray} {i : Nat} (hi : i < lows.length) :
    partN' key lows = i ↔ (i = 0 ∨ lows.getD i noB ≤ key) ∧ (i + 1 < lows.length → key < lows.getD (i + 1) noB) := by
  constructor
  · intro h
    obtain ⟨h1, h2⟩ := part_at hi h
    refine ⟨h1, fun h3 => ?_⟩
    have := h2 (i + 1) (by omega) h3
    grind
  · rintro ⟨h1, h2⟩
    refine part_is hi (by rcases h1 with h1 | h1; exact .inr h1; exact .inl h1) fun j hj hjl h3 => ?_
    have h4 := h2 (by omega)
    rcases Nat.lt_or_ge (i + 1) j with h5 | h5
    · have h6 := lows_mono hl j hjl (i + 1) h5
      grind
    · have : j = i + 1 := by omega
      subst this
      grind
/-- Where part i begins, and how long it is. -/
def posS (l : List Nt) (lows : List ByteArray) : Nat → Nat
  | 0 => 0
  | i + 1 => posS l lows i + (if i + 1 < lows.length then underN (l.drop (posS l lows i)) (lows.getD (i + 1) noB) else l.length - posS l lows i)
def lenS (l : List Nt) (lows : List ByteArray) (i : Nat) : Nat := if i + 1 < lows.length then underN (l.drop (posS l lows i)) (lows.getD (i + 1) noB) else l.length - posS l lows i
theorem pos_succS (l : List Nt) (lows : List ByteArray) (i : Nat) : posS l lows (i + 1) = posS l lows i + lenS l lows i := rfl
theorem pos_leS (l : List Nt) (lows : List ByteArray) : ∀ i, posS l lows i ≤ l.length
  | 0 => Nat.zero_le _
  | i + 1 => by
    have h1 := pos_leS l lows i
    rw [pos_succS]
    unfold lenS
    split
    · have h2 := underN_le (l.drop (posS l lows i)) (lows.getD (i + 1) noB)
      rw [List.length_drop] at h2
      omega
    · omega
theorem pos_isS {l : List Nt} (hs : SortedN l) {lows : List ByteArray} (hl : risesS lows = true) : ∀ i, 0 < i → i < lows.length → posS l lows i = underN l (lows.getD i noB)
  | 0, h, _ => by omega
  | i + 1, _, h => by
    rw [pos_succS]
    unfold lenS
    rw [if_pos h]
    refine under_drop hs _ ?_
    rcases Nat.eq_zero_or_pos i with h0 | h0
    · subst h0; exact Nat.zero_le _
    · rw [pos_isS hs hl i h0 (by omega)]
      have := lows_mono hl (i + 1) h i (by omega)
      exact under_monoN (by grind)
def partS (l : List Nt) (lows : List ByteArray) (i : Nat) : List Nt := (l.drop (posS l lows i)).take (lenS l lows i)
theorem part_isS {l : List Nt} (hs : SortedN l) {lows : List ByteArray} (hl : risesS lows = true) {i : Nat} (hi : i < lows.length) : (l.filter fun n => decide (partN' n.key lows = i)) = partS l lows i := by
  have hle : posS l lows i ≤ posS l lows (i + 1) := by rw [pos_succS]; omega
  have h1 := filter_between (l := l) (p := fun n => decide (partN' n.key lows = i)) hle fun j hj => by
    rw [decide_eq_true_eq, under_part hl hi]
    have hA : (i = 0 ∨ lows.getD i noB ≤ l[j].key) ↔ posS l lows i ≤ j := by
      rcases Nat.eq_zero_or_pos i with h0 | h0
      · subst h0
        exact ⟨fun _ => Nat.zero_le _, fun _ => .inl rfl⟩
      · rw [pos_isS hs hl i h0 hi]
        have h2 := lt_underN hs (lows.getD i noB) j hj
        constructor
        · intro h3
          rcases h3 with h3 | h3
          · omega
          · rcases Nat.lt_or_ge j (underN l (lows.getD i noB)) with h4 | h4
            · have := h2.2 h4
              grind
            · exact h4
        · intro h3
          right
          have h4 : ¬ l[j].key < lows.getD i noB := fun h5 => by have := h2.1 h5; omega
          grind
    have hB : (i + 1 < lows.length → l[j].key < lows.getD (i + 1) noB) ↔ j < posS l lows (i + 1) := by
      by_cases h5 : i + 1 < lows.length
      · rw [pos_isS hs hl (i + 1) (by omega) h5, ← lt_underN hs _ j hj]
        exact ⟨fun h => h h5, fun h _ => h⟩
      · have e : posS l lows (i + 1) = l.length := by
          rw [pos_succS]
          unfold lenS
          rw [if_neg h5]
          have := pos_leS l lows i
          omega
        rw [e]
        exact ⟨fun _ => hj, fun _ h => absurd h h5⟩
    rw [hA, hB]
  rw [h1]
  unfold partS
  congr 1
  rw [pos_succS]
  omega
theorem split_isS {l : List Nt} (hs : SortedN l) {lows : List ByteArray} (hl : risesS lows = true) : splitL l lows = (List.range lows.length).map (partS l lows) := by
  unfold splitL
  exact List.map_congr_left fun i hi => part_isS hs hl (by simpa using hi)
theorem part_snocS (l : List Nt) (lows : List ByteArray) (i : Nat) : (List.range (i + 1)).map (partS l lows) = (List.range i).map (partS l lows) ++ [partS l lows i] := by
  rw [List.range_succ, List.map_append]; rfl

/-! The first one of those with the most, as the program counts. -/
def MostZ (ps : List (List Nt)) (k m z : Nat) : Prop := (k = 0 ∧ m = 0 ∧ z = 0) ∨ (m < k ∧ ∃ h : m < ps.length, z = ps[m].length ∧ ∀ i (hi : i < ps.length), i < k → ps[i].length ≤ z ∧ (i < m → ps[i].length < z))
theorem mostz_more {ps : List (List Nt)} {k m z : Nat} (h : MostZ ps k m z) (hk : k < ps.length) (hz : z < ps[k].length) : MostZ ps (k + 1) k ps[k].length := by
  refine .inr ⟨by omega, hk, rfl, fun i hi hik => ?_⟩
  rcases Nat.lt_or_ge i k with h1 | h1
  · rcases h with h | ⟨_, _, _, h⟩
    · omega
    · have := h i hi h1
      exact ⟨by omega, fun _ => by omega⟩
  · have : i = k := by omega
    subst this
    exact ⟨Nat.le_refl _, fun h => by omega⟩
theorem mostz_less {ps : List (List Nt)} {k m z : Nat} (h : MostZ ps k m z) (hk : k < ps.length) (hz : ¬ z < ps[k].length) : MostZ ps (k + 1) m z := by
  rcases h with ⟨h1, h2, h3⟩ | ⟨h1, h2, h3, h4⟩
  · subst h1 h2 h3
    refine .inr ⟨by omega, hk, by omega, fun i hi hik => ?_⟩
    have : i = 0 := by omega
    subst this
    exact ⟨by omega, fun h => by omega⟩
  · refine .inr ⟨by omega, h2, h3, fun i hi hik => ?_⟩
    rcases Nat.lt_or_ge i k with h5 | h5
    · exact h4 i hi h5
    · have : i = k := by omega
      subst this
      exact ⟨by omega, fun h => by omega⟩
theorem mostz_all {l : List Nt} {lows : List ByteArray} {m z : Nat} (h : MostZ (splitA l lows) (splitA l lows).length m z) : MostA l lows m := by
  unfold MostA
  rcases h with ⟨h1, h2, _⟩ | ⟨_, h1, h2, h3⟩
  · exact .inl ⟨List.length_eq_zero_iff.1 h1, h2⟩
  · refine .inr ⟨h1, fun i hi => ?_⟩
    have := h3 i hi hi
    rw [h2] at this
    exact this

end Go.Proofs.Yteddjmkoleclpaa
