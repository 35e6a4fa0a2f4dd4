/- Pairs sorted by key, and what notes make of them: plain facts. Nothing of the program. -/
import Derived.Test.YtgpjbajfkagdbaaNt
import Derived.Test.YtgpjbajfkagdbaaRng
set_option linter.unusedVariables false
set_option linter.unusedSimpArgs false
namespace Go.Proofs.Ytgpjbajfkagdbaa

/-- A pair. -/
structure Pr where
  k : ByteArray
  v : ByteArray
deriving DecidableEq

def fitsP (p : Pr) : Bool := decide (p.k.size ≤ 16) && decide (p.v.size ≤ 32)
theorem fitsP_iff (p : Pr) : fitsP p = true ↔ p.k.size ≤ 16 ∧ p.v.size ≤ 32 := by unfold fitsP; simp
/-- Do they stand well? -/
def wellL (l : List Pr) : Bool := decide (∀ i (h : i < l.length), fitsP l[i] = true ∧ (0 < i → l[i - 1].k < l[i].k))
theorem wellL_iff (l : List Pr) : wellL l = true ↔ ∀ i (h : i < l.length), fitsP l[i] = true ∧ (0 < i → l[i - 1].k < l[i].k) := by unfold wellL; exact decide_eq_true_iff
theorem wellL_no {l : List Pr} (i : Nat) (h : i < l.length) (hn : ¬ (fitsP l[i] = true ∧ (0 < i → l[i - 1].k < l[i].k))) : wellL l = false := by
  cases e : wellL l with
  | false => rfl
  | true => exact absurd ((wellL_iff l).1 e i h) hn

abbrev Sorted (l : List Pr) : Prop := l.Pairwise fun a b => a.k < b.k
theorem sorted_cons {p : Pr} {l : List Pr} : Sorted (p :: l) ↔ (∀ q ∈ l, p.k < q.k) ∧ Sorted l := List.pairwise_cons
theorem sorted_get {l : List Pr} : Sorted l ↔ ∀ (i j : Nat) (hi : i < l.length) (hj : j < l.length), i < j → l[i].k < l[j].k := List.pairwise_iff_getElem
theorem well_sorted {l : List Pr} (h : wellL l = true) : Sorted l := by
  rw [wellL_iff] at h
  rw [sorted_get]
  intro i j hi hj hij
  obtain ⟨d, rfl⟩ : ∃ d, j = i + d + 1 := ⟨j - i - 1, by omega⟩
  induction d with
  | zero => exact (h (i + 0 + 1) hj).2 (by omega)
  | succ d ih =>
    have h1 := ih (by omega) (by omega)
    have h2 := (h (i + (d + 1) + 1) hj).2 (by omega)
    have e : l[i + (d + 1) + 1 - 1] = l[i + d + 1]'(by omega) := by congr 1
    rw [e] at h2
    grind
theorem well_fits {l : List Pr} (h : wellL l = true) : ∀ p ∈ l, fitsP p = true := by
  intro p hp
  obtain ⟨i, hi, rfl⟩ := List.getElem_of_mem hp
  exact ((wellL_iff l).1 h i hi).1
theorem well_of {l : List Pr} (hs : Sorted l) (hf : ∀ p ∈ l, fitsP p = true) : wellL l = true := by
  rw [wellL_iff]
  intro i hi
  refine ⟨hf _ (List.getElem_mem hi), fun h0 => ?_⟩
  exact (List.pairwise_iff_getElem.1 hs) (i - 1) i (by omega) hi (by omega)

/-- The value of a key. -/
def getL (l : List Pr) (k : ByteArray) : Option ByteArray := (l.find? fun p => decide (p.k = k)).map Pr.v
theorem getL_nil (k : ByteArray) : getL [] k = none := rfl
theorem getL_cons (p : Pr) (l : List Pr) (k : ByteArray) : getL (p :: l) k = if p.k = k then some p.v else getL l k := by
  unfold getL
  rw [List.find?_cons]
  by_cases h : p.k = k <;> simp [h]
theorem getL_none {l : List Pr} {k : ByteArray} (h : ∀ p ∈ l, p.k ≠ k) : getL l k = none := by
  induction l with
  | nil => rfl
  | cons p l ih =>
    rw [getL_cons, if_neg (h p (by simp))]
    exact ih fun q hq => h q (by simp [hq])
theorem getL_append (a b : List Pr) (k : ByteArray) : getL (a ++ b) k = (getL a k).or (getL b k) := by
  induction a with
  | nil => simp [getL_nil]
  | cons p a ih =>
    rw [List.cons_append, getL_cons, getL_cons, ih]
    by_cases h : p.k = k <;> simp [h]
theorem getL_filter (f : ByteArray → Bool) (l : List Pr) (k : ByteArray) : getL (l.filter fun p => f p.k) k = if f k then getL l k else none := by
  induction l with
  | nil => simp [getL_nil]
  | cons p l ih =>
    rw [List.filter_cons, getL_cons]
    by_cases h : p.k = k
    · subst h
      by_cases h2 : f p.k = true
      · rw [if_pos h2, getL_cons]; simp [h2]
      · rw [if_neg h2, ih]; simp [h2]
    · by_cases h2 : f p.k = true
      · rw [if_pos h2, getL_cons, if_neg h, if_neg h, ih]
      · rw [if_neg h2, if_neg h, ih]
theorem getL_some {l : List Pr} {k v : ByteArray} (h : getL l k = some v) : ∃ i, ∃ hi : i < l.length, l[i] = ⟨k, v⟩ := by
  induction l with
  | nil => cases h
  | cons p l ih =>
    rw [getL_cons] at h
    by_cases e : p.k = k
    · rw [if_pos e] at h
      injection h with h
      exact ⟨0, by simp, by cases p; simp_all⟩
    · rw [if_neg e] at h
      obtain ⟨i, hi, he⟩ := ih h
      exact ⟨i + 1, by simpa using hi, by simpa using he⟩
theorem getL_mem {l : List Pr} (hs : Sorted l) (i : Nat) (hi : i < l.length) : getL l l[i].k = some l[i].v := by
  induction l generalizing i with
  | nil => simp at hi
  | cons p l ih =>
    rw [sorted_cons] at hs
    cases i with
    | zero => rw [getL_cons]; simp
    | succ i =>
      have hi2 : i < l.length := by simpa using hi
      rw [getL_cons]
      simp only [List.getElem_cons_succ]
      have h1 := hs.1 (l[i]'hi2) (List.getElem_mem _)
      rw [if_neg (by grind)]
      exact ih hs.2 i (by simpa using hi)

theorem sorted_ext {a b : List Pr} (ha : Sorted a) (hb : Sorted b) (h : ∀ k, getL a k = getL b k) : a = b := by
  induction a generalizing b with
  | nil =>
    cases b with
    | nil => rfl
    | cons y b => have := h y.k; rw [getL_cons] at this; simp [getL_nil] at this
  | cons x a ih =>
    cases b with
    | nil => have := h x.k; rw [getL_cons] at this; simp [getL_nil] at this
    | cons y b =>
      rw [sorted_cons] at ha hb
      have key : x.k = y.k := by
        by_cases h1 : x.k < y.k
        · have h2 := h x.k
          rw [getL_cons, if_pos rfl, getL_none (l := y :: b) (by
            intro p hp
            rw [List.mem_cons] at hp
            rcases hp with rfl | hp
            · grind
            · have := hb.1 p hp; grind)] at h2
          cases h2
        · by_cases h3 : y.k < x.k
          · have h2 := h y.k
            rw [getL_cons y, if_pos rfl, getL_none (l := x :: a) (by
              intro p hp
              rw [List.mem_cons] at hp
              rcases hp with rfl | hp
              · grind
              · have := ha.1 p hp; grind)] at h2
            cases h2
          · grind
      have hv : x.v = y.v := by
        have h2 := h x.k
        rw [getL_cons, if_pos rfl, getL_cons, if_pos key.symm] at h2
        injection h2
      have e : x = y := by cases x; cases y; simp_all
      subst e
      rw [ih ha.2 hb.2 ?_]
      intro k
      by_cases hk : x.k = k
      · subst hk
        rw [getL_none (l := a) (fun p hp => by have := ha.1 p hp; grind), getL_none (l := b) (fun p hp => by have := hb.1 p hp; grind)]
      · have h2 := h k
        rwa [getL_cons, if_neg hk, getL_cons, if_neg hk] at h2

/-! How many keys are less. -/
def lessL (l : List Pr) (k : ByteArray) : Nat := l.countP fun p => decide (p.k < k)
theorem lessL_le (l : List Pr) (k : ByteArray) : lessL l k ≤ l.length := List.countP_le_length
theorem all_less {l : List Pr} {p : Pr} (h : ∀ q ∈ l, p.k < q.k) {k : ByteArray} (hk : ¬ p.k < k) : lessL l k = 0 ∧ (l.filter fun q => decide (q.k < k)) = [] ∧ (l.filter fun q => decide (k ≤ q.k)) = l := by
  refine ⟨?_, ?_, ?_⟩
  · unfold lessL
    rw [List.countP_eq_zero]
    intro q hq
    have := h q hq
    simp only [decide_eq_true_eq]
    grind
  · rw [List.filter_eq_nil_iff]
    intro q hq
    have := h q hq
    simp only [decide_eq_true_eq]
    grind
  · rw [List.filter_eq_self]
    intro q hq
    have := h q hq
    simp only [decide_eq_true_eq]
    grind
theorem take_less {l : List Pr} (hs : Sorted l) (k : ByteArray) : l.take (lessL l k) = l.filter fun p => decide (p.k < k) := by
  induction l with
  | nil => rfl
  | cons p l ih =>
    rw [sorted_cons] at hs
    by_cases h : p.k < k
    · have e : lessL (p :: l) k = lessL l k + 1 := by unfold lessL; rw [List.countP_cons, if_pos (by simpa using h)]
      rw [e, List.take_succ_cons, ih hs.2, List.filter_cons, if_pos (by simpa using h)]
    · have e : lessL (p :: l) k = lessL l k := by unfold lessL; rw [List.countP_cons, if_neg (by simpa using h)]; rfl
      obtain ⟨h1, h2, _⟩ := all_less hs.1 h
      rw [e, h1, List.take_zero, List.filter_cons, if_neg (by simpa using h), h2]
theorem drop_less {l : List Pr} (hs : Sorted l) (k : ByteArray) : l.drop (lessL l k) = l.filter fun p => decide (k ≤ p.k) := by
  induction l with
  | nil => rfl
  | cons p l ih =>
    rw [sorted_cons] at hs
    by_cases h : p.k < k
    · have e : lessL (p :: l) k = lessL l k + 1 := by unfold lessL; rw [List.countP_cons, if_pos (by simpa using h)]
      have h2 : ¬ k ≤ p.k := by grind
      rw [e, List.drop_succ_cons, ih hs.2, List.filter_cons, if_neg (by simpa using h2)]
    · have e : lessL (p :: l) k = lessL l k := by unfold lessL; rw [List.countP_cons, if_neg (by simpa using h)]; rfl
      have h2 : k ≤ p.k := by grind
      obtain ⟨h1, _, h3⟩ := all_less hs.1 h
      rw [e, h1, List.drop_zero, List.filter_cons, if_pos (by simpa using h2), h3]
/-- Where a key belongs: it is there, or not. -/
theorem less_there {l : List Pr} (hs : Sorted l) (k v : ByteArray) (h : getL l k = some v) : ∃ hl : lessL l k < l.length, l[lessL l k] = ⟨k, v⟩ ∧ l.drop (lessL l k + 1) = l.filter fun p => decide (k < p.k) := by
  induction l with
  | nil => cases h
  | cons p l ih =>
    rw [sorted_cons] at hs
    rw [getL_cons] at h
    by_cases hp : p.k < k
    · rw [if_neg (by grind)] at h
      obtain ⟨hl, h1, h2⟩ := ih hs.2 h
      have e : lessL (p :: l) k = lessL l k + 1 := by unfold lessL; rw [List.countP_cons, if_pos (by simpa using hp)]
      have h3 : ¬ k < p.k := by grind
      refine ⟨by rw [e]; simpa using hl, by simp only [e, List.getElem_cons_succ]; exact h1, ?_⟩
      rw [e, List.drop_succ_cons, h2, List.filter_cons, if_neg (by simpa using h3)]
    · have e : lessL (p :: l) k = lessL l k := by unfold lessL; rw [List.countP_cons, if_neg (by simpa using hp)]; rfl
      obtain ⟨h1, _, _⟩ := all_less hs.1 hp
      by_cases e2 : p.k = k
      · rw [if_pos e2] at h
        injection h with h
        refine ⟨by rw [e, h1]; simp, by simp only [e, h1, List.getElem_cons_zero]; cases p; simp_all, ?_⟩
        rw [e, h1, List.drop_succ_cons, List.drop_zero, List.filter_cons, if_neg (by simp; grind)]
        rw [eq_comm, List.filter_eq_self]
        intro q hq
        have := hs.1 q hq
        simp only [decide_eq_true_eq]
        grind
      · rw [if_neg e2] at h
        obtain ⟨i, hi, he⟩ := getL_some h
        have h2 := hs.1 l[i] (List.getElem_mem _)
        rw [he] at h2
        simp only at h2
        exact absurd h2 hp
theorem less_none {l : List Pr} (k : ByteArray) (h : getL l k = none) : (l.filter fun p => decide (k ≤ p.k)) = l.filter fun p => decide (k < p.k) := by
  induction l with
  | nil => rfl
  | cons p l ih =>
    rw [getL_cons] at h
    by_cases e : p.k = k
    · rw [if_pos e] at h; cases h
    · rw [if_neg e] at h
      rw [List.filter_cons, List.filter_cons, ih h]
      have : decide (k ≤ p.k) = decide (k < p.k) := by
        rw [decide_eq_decide]
        grind
      rw [this]
theorem less_at {l : List Pr} (hs : Sorted l) (k : ByteArray) : (getL l k).isSome = true ↔ ∃ h : lessL l k < l.length, l[lessL l k].k = k := by
  constructor
  · intro h
    obtain ⟨v, hv⟩ := Option.isSome_iff_exists.1 h
    obtain ⟨h1, h2, _⟩ := less_there hs k v hv
    exact ⟨h1, by rw [h2]⟩
  · rintro ⟨h, e⟩
    rw [← e, e] 
    have := getL_mem hs _ h
    rw [e] at this
    rw [this]; rfl
theorem less_mono {l : List Pr} {a b : ByteArray} (h : a ≤ b) : lessL l a ≤ lessL l b := by
  unfold lessL
  apply List.countP_mono_left
  intro p _ hp
  simp only [decide_eq_true_eq] at hp ⊢
  grind
theorem less_noS (l : List Pr) : lessL l noB = 0 := by
  unfold lessL
  rw [List.countP_eq_zero]
  intro q _
  have := noS_le q.k
  have e : noS = noB := rfl
  rw [e] at this
  simp only [decide_eq_true_eq]
  grind
theorem less_place {l : List Pr} (hs : Sorted l) (i : Nat) (hi : i < l.length) : lessL l l[i].k = i := by
  have h1 := getL_mem hs i hi
  obtain ⟨h2, h3, _⟩ := less_there hs _ _ h1
  have hp := List.pairwise_iff_getElem.1 hs
  rcases Nat.lt_trichotomy (lessL l l[i].k) i with h | h | h
  · have := hp _ i h2 hi h
    rw [h3] at this
    simp only at this
    grind
  · exact h
  · have := hp i _ hi h2 h
    rw [h3] at this
    simp only at this
    grind

/-! Notes, done. -/
def hasOf : Option ByteArray → Has
  | none => (noB, false)
  | some v => (v, true)
def optOf (s : Has) : Option ByteArray := if s.2 then some s.1 else none
theorem opt_has (o : Option ByteArray) : optOf (hasOf o) = o := by cases o <;> rfl
/-- What there is, and nothing behind 'not there'. -/
abbrev NormH (s : Has) : Prop := s.2 = false → s.1 = noB
theorem norm_has (o : Option ByteArray) : NormH (hasOf o) := by cases o <;> simp [NormH, hasOf]
theorem norm_step {s : Has} (h : NormH s) (x : Nt) : NormH (step s x) := by
  unfold step NormH
  split
  · simp
  · split
    · simp
    · split
      · simp
      · exact h
theorem norm_fold {s : Has} (h : NormH s) (l : List Nt) : NormH (l.foldl step s) := by
  induction l generalizing s with
  | nil => exact h
  | cons x l ih => exact ih (norm_step h x)
theorem has_opt {s : Has} (h : NormH s) : hasOf (optOf s) = s := by
  obtain ⟨v, b⟩ := s
  cases b with
  | true => rfl
  | false => have := h rfl; simp only at this; subst this; rfl
def stepsO (o : Option ByteArray) (l : List Nt) : Option ByteArray := optOf (l.foldl step (hasOf o))
theorem stepsO_nil (o : Option ByteArray) : stepsO o [] = o := opt_has o
theorem stepsO_append (o : Option ByteArray) (a b : List Nt) : stepsO o (a ++ b) = stepsO (stepsO o a) b := by
  unfold stepsO
  rw [List.foldl_append, has_opt (norm_fold (norm_has o) a)]
theorem stepsO_cons (o : Option ByteArray) (x : Nt) (l : List Nt) : stepsO o (x :: l) = stepsO (stepsO o [x]) l := stepsO_append o [x] l
theorem done_hasOf (o : Option ByteArray) (l : List Nt) : doneL (hasOf o).1 (hasOf o).2 l = hasOf (stepsO o l) := by
  unfold stepsO
  rw [has_opt (norm_fold (norm_has o) l)]
  unfold doneL
  congr 1
  cases o <;> rfl

def pairOf (k : ByteArray) : Option ByteArray → List Pr
  | none => []
  | some v => [⟨k, v⟩]
theorem getL_pair (k : ByteArray) (o : Option ByteArray) (j : ByteArray) : getL (pairOf k o) j = if k = j then o else none := by
  cases o with
  | none => simp [pairOf, getL_nil]
  | some v => simp [pairOf, getL_cons, getL_nil]
def oneL (l : List Pr) (n : Nt) : List Pr := (l.filter fun p => decide (p.k < n.key)) ++ pairOf n.key (stepsO (getL l n.key) [n]) ++ (l.filter fun p => decide (n.key < p.k))
def foldOne (l : List Pr) (ns : List Nt) : List Pr := ns.foldl oneL l
theorem foldOne_append (l : List Pr) (a b : List Nt) : foldOne l (a ++ b) = foldOne (foldOne l a) b := List.foldl_append
theorem foldOne_cons (l : List Pr) (n : Nt) (b : List Nt) : foldOne l (n :: b) = foldOne (oneL l n) b := rfl

theorem getL_oneL (l : List Pr) (n : Nt) (k : ByteArray) : getL (oneL l n) k = if n.key = k then stepsO (getL l k) [n] else getL l k := by
  unfold oneL
  rw [getL_append, getL_append, getL_filter (fun x => decide (x < n.key)), getL_filter (fun x => decide (n.key < x)), getL_pair]
  by_cases h : n.key = k
  · subst h
    have h1 : ¬ n.key < n.key := by grind
    simp [h1]
  · rw [if_neg h, if_neg h]
    by_cases h1 : k < n.key
    · have h2 : ¬ n.key < k := by grind
      simp [h1, h2]
    · have h2 : n.key < k := by grind
      simp [h1, h2]
theorem sorted_oneL {l : List Pr} (h : Sorted l) (n : Nt) : Sorted (oneL l n) := by
  unfold oneL Sorted
  rw [List.pairwise_append, List.pairwise_append]
  refine ⟨⟨h.sublist List.filter_sublist, ?_, ?_⟩, h.sublist List.filter_sublist, ?_⟩
  · cases stepsO (getL l n.key) [n] <;> simp [pairOf]
  · intro a ha b hb
    have hb2 : b.k = n.key := by
      cases e : stepsO (getL l n.key) [n] with
      | none => rw [e] at hb; simp [pairOf] at hb
      | some v => rw [e] at hb; simp [pairOf] at hb; rw [hb]
    have := (List.mem_filter.1 ha).2
    simp only [decide_eq_true_eq] at this
    rw [hb2]; exact this
  · intro a ha b hb
    have hb2 := (List.mem_filter.1 hb).2
    simp only [decide_eq_true_eq] at hb2
    rw [List.mem_append] at ha
    rcases ha with ha | ha
    · have := (List.mem_filter.1 ha).2
      simp only [decide_eq_true_eq] at this
      grind
    · have ha2 : a.k = n.key := by
        cases e : stepsO (getL l n.key) [n] with
        | none => rw [e] at ha; simp [pairOf] at ha
        | some v => rw [e] at ha; simp [pairOf] at ha; rw [ha]
      rw [ha2]; exact hb2
theorem sorted_fold {l : List Pr} (h : Sorted l) (ns : List Nt) : Sorted (foldOne l ns) := by
  induction ns generalizing l with
  | nil => exact h
  | cons n ns ih => exact ih (sorted_oneL h n)
theorem getL_fold (l : List Pr) (ns : List Nt) (k : ByteArray) : getL (foldOne l ns) k = stepsO (getL l k) (ns.filter fun n => decide (n.key = k)) := by
  induction ns generalizing l with
  | nil => exact (stepsO_nil _).symm
  | cons n ns ih =>
    rw [foldOne_cons, ih, getL_oneL, List.filter_cons]
    by_cases h : n.key = k
    · rw [if_pos h, if_pos (by simpa using h), ← stepsO_cons]
    · rw [if_neg h, if_neg (by simpa using h)]

/-- The same notes of each key, in the same order. -/
def StEq (a b : List Nt) : Prop := ∀ k : ByteArray, (a.filter fun n => decide (n.key = k)) = b.filter fun n => decide (n.key = k)
theorem StEq.rfl' (a : List Nt) : StEq a a := fun _ => rfl
theorem StEq.trans {a b c : List Nt} (h : StEq a b) (g : StEq b c) : StEq a c := fun k => (h k).trans (g k)
theorem StEq.symm {a b : List Nt} (h : StEq a b) : StEq b a := fun k => (h k).symm
theorem StEq.app {a b c d : List Nt} (h : StEq a b) (g : StEq c d) : StEq (a ++ c) (b ++ d) := fun k => by rw [List.filter_append, List.filter_append, h k, g k]
theorem StEq.swap {a b : List Nt} (h : ∀ x ∈ a, ∀ y ∈ b, x.key ≠ y.key) : StEq (a ++ b) (b ++ a) := fun k => by
  rw [List.filter_append, List.filter_append]
  by_cases e : (a.filter fun n => decide (n.key = k)) = []
  · rw [e]; simp
  · have e2 : (b.filter fun n => decide (n.key = k)) = [] := by
      rw [List.filter_eq_nil_iff]
      intro y hy hk
      simp only [decide_eq_true_eq] at hk
      apply e
      rw [List.filter_eq_nil_iff]
      intro x hx hk2
      simp only [decide_eq_true_eq] at hk2
      exact h x hx y hy (hk2.trans hk.symm)
    rw [e2]; simp
theorem StEq.mem {a b : List Nt} (h : StEq a b) {x : Nt} (hx : x ∈ a) : x ∈ b := by
  have h1 : x ∈ a.filter fun n => decide (n.key = x.key) := List.mem_filter.2 ⟨hx, by simp⟩
  rw [h x.key] at h1
  exact (List.mem_filter.1 h1).1
theorem fold_steq {l : List Pr} (hs : Sorted l) {a b : List Nt} (h : StEq a b) : foldOne l a = foldOne l b :=
  sorted_ext (sorted_fold hs a) (sorted_fold hs b) fun k => by rw [getL_fold, getL_fold, h k]

theorem fits_step {o : Option ByteArray} {n : Nt} (hn : rightN n = true) (ho : ∀ v, o = some v → v.size ≤ 32) : ∀ v, stepsO o [n] = some v → v.size ≤ 32 := by
  intro v hv
  rw [rightN_iff] at hn
  obtain ⟨_, h⟩ := hn
  unfold stepsO at hv
  simp only [List.foldl_cons, List.foldl_nil] at hv
  rcases h with ⟨h1, h2, _⟩ | ⟨h1, _⟩ | ⟨h1, _⟩
  · rw [step1 _ _ h1] at hv
    simp [optOf] at hv
    rw [← hv]; exact h2
  · rw [step2 _ _ h1] at hv
    simp [optOf] at hv
  · rw [step3 _ _ h1] at hv
    simp [optOf] at hv
    rw [← hv, be8_size]; omega
theorem getL_fits {l : List Pr} (hf : ∀ p ∈ l, fitsP p = true) {k v : ByteArray} (h : getL l k = some v) : v.size ≤ 32 := by
  obtain ⟨i, hi, e⟩ := getL_some h
  have := (fitsP_iff _).1 (hf _ (List.getElem_mem hi))
  rw [e] at this
  exact this.2
theorem fits_oneL {l : List Pr} (hf : ∀ p ∈ l, fitsP p = true) {n : Nt} (hn : rightN n = true) : ∀ p ∈ oneL l n, fitsP p = true := by
  intro p hp
  unfold oneL at hp
  rw [List.mem_append, List.mem_append] at hp
  rcases hp with (hp | hp) | hp
  · exact hf p (List.mem_filter.1 hp).1
  · cases e : stepsO (getL l n.key) [n] with
    | none => rw [e] at hp; simp [pairOf] at hp
    | some v =>
      rw [e] at hp; simp [pairOf] at hp
      subst hp
      exact (fitsP_iff _).2 ⟨((rightN_iff n).1 hn).1, fits_step hn (fun v hv => getL_fits hf hv) v e⟩
  · exact hf p (List.mem_filter.1 hp).1
theorem fits_fold {l : List Pr} (hf : ∀ p ∈ l, fitsP p = true) {ns : List Nt} (hn : ∀ n ∈ ns, rightN n = true) : ∀ p ∈ foldOne l ns, fitsP p = true := by
  induction ns generalizing l with
  | nil => exact hf
  | cons n ns ih => exact ih (fits_oneL hf (hn n (by simp))) fun m hm => hn m (by simp [hm])
theorem well_fold {l : List Pr} (hw : wellL l = true) {ns : List Nt} (hn : ∀ n ∈ ns, rightN n = true) : wellL (foldOne l ns) = true :=
  well_of (sorted_fold (well_sorted hw) ns) (fits_fold (well_fits hw) hn)

theorem parts_len (l : List Pr) (k : ByteArray) : (l.filter fun p => decide (p.k < k)).length + (l.filter fun p => decide (k < p.k)).length ≤ l.length := by
  induction l with
  | nil => simp
  | cons p l ih =>
    rw [List.filter_cons, List.filter_cons]
    by_cases h1 : p.k < k
    · have h2 : ¬ k < p.k := by grind
      simp only [h1, h2, decide_true, decide_false, if_true, List.length_cons]
      simp
      omega
    · by_cases h2 : k < p.k
      · simp only [h1, h2, decide_true, decide_false, if_true, List.length_cons]
        simp
        omega
      · simp only [h1, h2, decide_false, List.length_cons]
        simp
        omega
theorem len_oneL (l : List Pr) (n : Nt) : (oneL l n).length ≤ l.length + 1 := by
  unfold oneL
  have := parts_len l n.key
  rw [List.length_append, List.length_append]
  have h : (pairOf n.key (stepsO (getL l n.key) [n])).length ≤ 1 := by cases stepsO (getL l n.key) [n] <;> simp [pairOf]
  omega
theorem len_fold (l : List Pr) (ns : List Nt) : (foldOne l ns).length ≤ l.length + ns.length := by
  induction ns generalizing l with
  | nil => exact Nat.le_refl _
  | cons n ns ih =>
    have h1 := ih (oneL l n)
    have h2 := len_oneL l n
    rw [foldOne_cons, List.length_cons]
    omega

/-! Notes by their keys. -/
abbrev Rising (l : List Nt) : Prop := l.Pairwise fun a b => a.key ≤ b.key
theorem oneL_left {a b : List Pr} {n : Nt} (h : ∀ p ∈ a, p.k < n.key) : oneL (a ++ b) n = a ++ oneL b n := by
  unfold oneL
  have h1 : (a.filter fun p => decide (p.k < n.key)) = a := List.filter_eq_self.2 fun p hp => by simpa using h p hp
  have h2 : (a.filter fun p => decide (n.key < p.k)) = [] := List.filter_eq_nil_iff.2 fun p hp => by have := h p hp; simp; grind
  rw [List.filter_append, List.filter_append, h1, h2, getL_append, getL_none (l := a) (fun p hp => by have := h p hp; grind)]
  simp [List.append_assoc]
theorem fold_left {a b : List Pr} {ns : List Nt} (h : ∀ n ∈ ns, ∀ p ∈ a, p.k < n.key) : foldOne (a ++ b) ns = a ++ foldOne b ns := by
  induction ns generalizing b with
  | nil => rfl
  | cons n ns ih =>
    rw [foldOne_cons, oneL_left (h n (by simp)), ih (fun m hm => h m (by simp [hm])), foldOne_cons]
theorem fold_group {l : List Pr} (hs : Sorted l) {k : ByteArray} {G : List Nt} (hk : ∀ n ∈ G, n.key = k) (h0 : G ≠ []) :
    foldOne l G = (l.filter fun p => decide (p.k < k)) ++ pairOf k (stepsO (getL l k) G) ++ (l.filter fun p => decide (k < p.k)) := by
  refine sorted_ext (sorted_fold hs G) ?_ fun j => ?_
  · have := sorted_oneL hs ⟨1, k, noB, 0⟩
    unfold oneL Sorted at this
    rw [List.pairwise_append, List.pairwise_append] at this
    obtain ⟨⟨p1, p2, p3⟩, p4, p5⟩ := this
    have e : stepsO (getL l k) [⟨1, k, noB, 0⟩] = some noB := by unfold stepsO; simp only [List.foldl_cons, List.foldl_nil]; rw [step1 _ _ rfl]; rfl
    simp only [e] at p2 p3 p5
    unfold Sorted
    rw [List.pairwise_append, List.pairwise_append]
    refine ⟨⟨p1, ?_, ?_⟩, p4, ?_⟩
    · cases stepsO (getL l k) G <;> simp [pairOf]
    · intro a ha b hb
      have hb2 : b.k = k := by
        cases e : stepsO (getL l k) G with
        | none => rw [e] at hb; simp [pairOf] at hb
        | some v => rw [e] at hb; simp [pairOf] at hb; rw [hb]
      have := p3 a ha ⟨k, noB⟩ (by simp [pairOf])
      rw [hb2]; exact this
    · intro a ha b hb
      rw [List.mem_append] at ha
      rcases ha with ha | ha
      · exact p5 a (by simp [ha]) b hb
      · have ha2 : a.k = k := by
          cases e : stepsO (getL l k) G with
          | none => rw [e] at ha; simp [pairOf] at ha
          | some v => rw [e] at ha; simp [pairOf] at ha; rw [ha]
        have := p5 ⟨k, noB⟩ (by simp [pairOf]) b hb
        rw [ha2]; exact this
  · rw [getL_fold, getL_append, getL_append, getL_filter (fun x => decide (x < k)), getL_filter (fun x => decide (k < x)), getL_pair]
    by_cases h : k = j
    · subst h
      have h1 : ¬ k < k := by grind
      rw [List.filter_eq_self.2 (fun n hn => by simpa using hk n hn)]
      simp [h1]
    · rw [List.filter_eq_nil_iff.2 (fun n hn => by have := hk n hn; simp; grind), stepsO_nil, if_neg h]
      by_cases h1 : j < k
      · have h2 : ¬ k < j := by grind
        simp [h1, h2]
      · have h2 : k < j := by grind
        simp [h1, h2]
/-- The notes of one key, and then the others, whose keys are greater. -/
theorem fold_split {l : List Pr} (hs : Sorted l) {k : ByteArray} {G R : List Nt} (hk : ∀ n ∈ G, n.key = k) (h0 : G ≠ []) (hR : ∀ n ∈ R, k < n.key) :
    foldOne l (G ++ R) = (l.filter fun p => decide (p.k < k)) ++ pairOf k (stepsO (getL l k) G) ++ foldOne (l.filter fun p => decide (k < p.k)) R := by
  rw [foldOne_append, fold_group hs hk h0, fold_left]
  intro n hn p hp
  have h1 := hR n hn
  rw [List.mem_append] at hp
  rcases hp with hp | hp
  · have := (List.mem_filter.1 hp).2
    simp only [decide_eq_true_eq] at this
    grind
  · cases e : stepsO (getL l k) G with
    | none => rw [e] at hp; simp [pairOf] at hp
    | some v => rw [e] at hp; simp [pairOf] at hp; rw [hp]; exact h1
/-- The first ones of one key. -/
theorem rising_split {l : List Nt} (hr : Rising l) {n : Nat} (h0 : 0 < n) (hn : n ≤ l.length) (h1 : ∀ i (h : i < n), l[i].key = l[0].key) (h2 : ∀ h : n < l.length, l[n].key ≠ l[0].key) :
    (∀ x ∈ l.take n, x.key = (l[0]'(by omega)).key) ∧ (∀ x ∈ l.drop n, (l[0]'(by omega)).key < x.key) := by
  constructor
  · intro x hx
    obtain ⟨i, hi, rfl⟩ := List.getElem_of_mem hx
    simp at hi
    rw [List.getElem_take]
    exact h1 i (by omega)
  · intro x hx
    obtain ⟨i, hi, rfl⟩ := List.getElem_of_mem hx
    simp at hi
    rw [List.getElem_drop]
    have hp := List.pairwise_iff_getElem.1 hr
    have a := hp 0 n (by omega) (by omega) h0
    have b := h2 (by omega)
    by_cases hi0 : i = 0
    · subst hi0
      simp only [Nat.add_zero]
      grind
    · have c := hp n (n + i) (by omega) (by omega) (by omega)
      grind

end Go.Proofs.Ytgpjbajfkagdbaa
