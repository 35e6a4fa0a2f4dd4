/- Plain facts on extents of an area: what may be used, what is free, where so many fit. Nothing of the program. -/
import Derived.Below
namespace Go.Proofs.Ytodcngkcaeahhaa

/-- An extent. -/
structure Ex where
  a : Int
  n : Int
deriving DecidableEq, Inhabited

/-- It lies in the area and has sectors. -/
abbrev InE (f t : Int) (x : Ex) : Prop := f ≤ x.a ∧ 0 < x.n ∧ x.a + x.n ≤ t
abbrev Dis (x y : Ex) : Prop := x.a + x.n ≤ y.a ∨ y.a + y.n ≤ x.a
abbrev Ahead (x y : Ex) : Prop := x.a + x.n ≤ y.a
abbrev Area (f t : Int) : Prop := 0 ≤ f ∧ f ≤ t ∧ t ≤ 2147483647
/-- They may be used, in whatever order they stand. -/
def Ok (f t : Int) (l : List Ex) : Prop := Area f t ∧ (∀ x ∈ l, InE f t x) ∧ l.Pairwise Dis
instance (f t : Int) (l : List Ex) : Decidable (Ok f t l) := by unfold Ok; infer_instance

theorem Ok.perm {f t : Int} {l l' : List Ex} (h : Ok f t l) (hp : l.Perm l') : Ok f t l' :=
  ⟨h.1, fun x hx => h.2.1 x (hp.mem_iff.2 hx), (hp.pairwise_iff (fun h => h.symm)).1 h.2.2⟩
theorem ok_perm {f t : Int} {l l' : List Ex} (hp : l.Perm l') : decide (Ok f t l) = decide (Ok f t l') := by
  rw [Bool.eq_iff_iff, decide_eq_true_eq, decide_eq_true_eq]
  exact ⟨fun h => h.perm hp, fun h => h.perm hp.symm⟩

/-- What the walk over sorted extents tells. -/
def mayL (t : Int) : Int → List Ex → Bool
  | _, [] => true
  | f, x :: l => decide (InE f t x) && mayL t (x.a + x.n) l
def gapsL (t : Int) : Int → List Ex → List Ex
  | f, [] => if f < t then [⟨f, t - f⟩] else []
  | f, x :: l => (if f < x.a then [⟨f, x.a - f⟩] else []) ++ gapsL t (x.a + x.n) l

theorem mayL_iff (t : Int) : ∀ (l : List Ex) (f : Int), mayL t f l = true ↔ (∀ x ∈ l, InE f t x) ∧ l.Pairwise Ahead := by
  intro l
  induction l with
  | nil => intro f; simp [mayL]
  | cons x l ih =>
    intro f
    simp only [mayL, Bool.and_eq_true, decide_eq_true_eq, ih, List.mem_cons, List.pairwise_cons]
    constructor
    · rintro ⟨h1, h2, h3⟩
      refine ⟨fun y hy => ?_, fun y hy => (h2 y hy).1, h3⟩
      rcases hy with rfl | hy
      · exact h1
      · have := h2 y hy
        unfold InE at *
        omega
    · rintro ⟨h1, h2, h3⟩
      refine ⟨h1 x (.inl rfl), fun y hy => ?_, h3⟩
      have := h1 y (.inr hy)
      have := h2 y hy
      unfold InE Ahead at *
      omega

abbrev Rising (l : List Ex) : Prop := l.Pairwise fun x y => x.a ≤ y.a

theorem ahead_of {l : List Ex} (hr : Rising l) (hn : ∀ x ∈ l, 0 < x.n) (hd : l.Pairwise Dis) : l.Pairwise Ahead := by
  induction l with
  | nil => exact .nil
  | cons x l ih =>
    have hr := List.pairwise_cons.1 hr
    rw [List.pairwise_cons] at *
    refine ⟨fun y hy => ?_, ih hr.2 (fun y hy => hn y (.tail _ hy)) hd.2⟩
    have h1 := hr.1 y hy
    have h2 := hd.1 y hy
    have h3 := hn y (.tail _ hy)
    unfold Dis Ahead at *
    omega

/-- The walk over sorted extents tells whether they may be used. -/
theorem may_sorted {f t : Int} {l s : List Ex} (hp : s.Perm l) (hr : Rising s) (ha : Area f t) : mayL t f s = decide (Ok f t l) := by
  rw [Bool.eq_iff_iff, decide_eq_true_eq, mayL_iff]
  constructor
  · rintro ⟨h1, h2⟩
    have : Ok f t s := ⟨ha, h1, h2.imp fun h => .inl h⟩
    exact this.perm hp
  · intro h
    have h1 := h.perm hp.symm
    exact ⟨h1.2.1, ahead_of hr (fun x hx => (h1.2.1 x hx).2.1) h1.2.2⟩

def sortE (l : List Ex) : List Ex := l.mergeSort fun x y => decide (x.a ≤ y.a)
theorem sort_perm (l : List Ex) : (sortE l).Perm l := List.mergeSort_perm _ _
theorem sort_rising (l : List Ex) : Rising (sortE l) := by
  have := List.pairwise_mergeSort (le := fun x y : Ex => decide (x.a ≤ y.a)) (fun a b c h1 h2 => by simp at *; omega) (fun a b => by simp; omega) l
  exact this.imp fun h => by simpa using h

/-- Of extents that may be used there is one rising order. -/
theorem sorted_one {f t : Int} {l s : List Ex} (hp : s.Perm l) (hr : Rising s) (ho : Ok f t l) : s = sortE l := by
  have h1 := ho.perm hp.symm
  have h2 := ho.perm (sort_perm l).symm
  refine List.Perm.eq_of_pairwise ?_ (ahead_of hr (fun x hx => (h1.2.1 x hx).2.1) h1.2.2) (ahead_of (sort_rising l) (fun x hx => (h2.2.1 x hx).2.1) h2.2.2) (hp.trans (sort_perm l).symm)
  intro a b ha hb h3 h4
  have h5 := (h1.2.1 a ha).2.1
  have h6 := (h2.2.1 b hb).2.1
  unfold Ahead at *
  omega

/-- What is free. -/
def freeL (f t : Int) (l : List Ex) : List Ex := if Ok f t l then gapsL t f (sortE l) else []
theorem gaps_sorted {f t : Int} {l s : List Ex} (hp : s.Perm l) (hr : Rising s) (ho : Ok f t l) : gapsL t f s = freeL f t l := by
  rw [sorted_one hp hr ho, freeL, if_pos ho]
theorem free_perm {f t : Int} {l l' : List Ex} (hp : l.Perm l') : freeL f t l = freeL f t l' := by
  by_cases h : Ok f t l
  · have h' := h.perm hp
    rw [← gaps_sorted ((sort_perm l).trans hp) (sort_rising l) h', freeL, if_pos h]
  · have h' : ¬ Ok f t l' := fun h' => h (h'.perm hp.symm)
    rw [freeL, freeL, if_neg h, if_neg h']
theorem free_not {f t : Int} {l : List Ex} (h : ¬ Ok f t l) : freeL f t l = [] := by rw [freeL, if_neg h]

def sumL (l : List Ex) : Int := (l.map Ex.n).sum
theorem sumL_cons (x : Ex) (l : List Ex) : sumL (x :: l) = x.n + sumL l := by simp [sumL]
theorem sumL_nil : sumL [] = 0 := rfl
theorem sumL_append (l l' : List Ex) : sumL (l ++ l') = sumL l + sumL l' := by
  induction l with
  | nil => simp [sumL]
  | cons x l ih => rw [List.cons_append, sumL_cons, sumL_cons, ih]; omega
theorem sumL_perm {l l' : List Ex} (h : l.Perm l') : sumL l = sumL l' := by
  induction h with
  | nil => rfl
  | cons x _ ih => rw [sumL_cons, sumL_cons, ih]
  | swap x y l => simp only [sumL_cons]; omega
  | trans _ _ h1 h2 => exact h1.trans h2
theorem sumL_pos {l : List Ex} (h : ∀ x ∈ l, 0 < x.n) : 0 ≤ sumL l := by
  induction l with
  | nil => simp [sumL]
  | cons x l ih =>
    have := h x (.head _)
    have := ih fun y hy => h y (.tail _ hy)
    rw [sumL_cons]; omega
theorem sumL_take (l : List Ex) (k : Nat) (h : k < l.length) : sumL (l.take (k + 1)) = sumL (l.take k) + l[k].n := by
  rw [List.take_succ_eq_append_getElem h, sumL_append, sumL_cons, sumL_nil]; omega

theorem gaps_sum (t : Int) : ∀ (l : List Ex) (f : Int), f ≤ t → mayL t f l = true → sumL (gapsL t f l) = t - f - sumL l := by
  intro l
  induction l with
  | nil =>
    intro f hf _
    unfold gapsL
    split
    · simp [sumL]
    · simp [sumL]; omega
  | cons x l ih =>
    intro f hf h
    simp only [mayL, Bool.and_eq_true, decide_eq_true_eq] at h
    have h1 := h.1
    unfold InE at h1
    rw [gapsL, sumL_append, ih _ h1.2.2 h.2, sumL_cons]
    split
    · simp [sumL]; omega
    · simp [sumL]; omega

theorem gaps_sound (t : Int) : ∀ (l : List Ex) (f : Int), mayL t f l = true → ∀ g ∈ gapsL t f l, InE f t g ∧ ∀ y ∈ l, Dis g y := by
  intro l
  induction l with
  | nil =>
    intro f _ g hg
    unfold gapsL at hg
    split at hg
    · simp at hg
      subst hg
      simp [InE]
      omega
    · simp at hg
  | cons x l ih =>
    intro f h g hg
    have hm := (mayL_iff t (x :: l) f).1 h
    simp only [mayL, Bool.and_eq_true, decide_eq_true_eq] at h
    have h1 := h.1
    unfold InE at h1
    rw [gapsL, List.mem_append] at hg
    rcases hg with hg | hg
    · split at hg
      · simp at hg
        subst hg
        refine ⟨by simp [InE]; omega, fun y hy => .inl ?_⟩
        simp only
        rcases List.mem_cons.1 hy with rfl | hy
        · omega
        · have := (List.pairwise_cons.1 hm.2).1 y hy
          unfold Ahead at this
          omega
      · simp at hg
    · obtain ⟨h2, h3⟩ := ih _ h.2 g hg
      unfold InE at h2
      refine ⟨by unfold InE; omega, fun y hy => ?_⟩
      rcases List.mem_cons.1 hy with rfl | hy
      · right; omega
      · exact h3 y hy

theorem gaps_full (t : Int) : ∀ (l : List Ex) (f p n : Int), mayL t f l = true → 0 < n → f ≤ p → p + n ≤ t → (∀ y ∈ l, Dis ⟨p, n⟩ y) → ∃ g ∈ gapsL t f l, g.a ≤ p ∧ p + n ≤ g.a + g.n := by
  intro l
  induction l with
  | nil =>
    intro f p n _ hn hf ht _
    exact ⟨⟨f, t - f⟩, by simp [gapsL]; omega, hf, by simp; omega⟩
  | cons x l ih =>
    intro f p n h hn hf ht hd
    simp only [mayL, Bool.and_eq_true, decide_eq_true_eq] at h
    have h1 := h.1
    unfold InE at h1
    have hx := hd x (.head _)
    unfold Dis at hx
    simp only at hx
    rcases hx with hx | hx
    · exact ⟨⟨f, x.a - f⟩, by rw [gapsL, if_pos (by omega)]; simp, hf, by simp; omega⟩
    · obtain ⟨g, hg, h2⟩ := ih _ p n h.2 hn hx ht fun y hy => hd y (.tail _ hy)
      exact ⟨g, by rw [gapsL]; exact List.mem_append_right _ hg, h2⟩

abbrev Apart (x y : Ex) : Prop := x.a + x.n < y.a
theorem gaps_apart (t : Int) : ∀ (l : List Ex) (f : Int), mayL t f l = true → (gapsL t f l).Pairwise Apart := by
  intro l
  induction l with
  | nil =>
    intro f _
    unfold gapsL
    split <;> simp
  | cons x l ih =>
    intro f h
    simp only [mayL, Bool.and_eq_true, decide_eq_true_eq] at h
    have h1 := h.1
    unfold InE at h1
    rw [gapsL, List.pairwise_append]
    refine ⟨by split <;> simp, ih _ h.2, fun g hg y hy => ?_⟩
    have h2 := (gaps_sound t l _ h.2 y hy).1
    unfold InE at h2
    split at hg
    · simp at hg
      subst hg
      unfold Apart
      simp only
      omega
    · simp at hg

theorem may_ok {f t : Int} {l : List Ex} (h : Ok f t l) : mayL t f (sortE l) = true := by
  rw [may_sorted (sort_perm l) (sort_rising l) h.1, decide_eq_true_eq]; exact h

theorem free_sum {f t : Int} {l : List Ex} (h : Ok f t l) : sumL (freeL f t l) = t - f - sumL l := by
  rw [freeL, if_pos h, gaps_sum t _ _ h.1.2.1 (may_ok h), sumL_perm (sort_perm l)]
theorem free_sound {f t : Int} {l : List Ex} (h : Ok f t l) {g : Ex} (hg : g ∈ freeL f t l) : InE f t g ∧ ∀ y ∈ l, Dis g y := by
  rw [freeL, if_pos h] at hg
  have h1 := gaps_sound t _ _ (may_ok h) g hg
  exact ⟨h1.1, fun y hy => h1.2 y ((sort_perm l).mem_iff.2 hy)⟩
theorem free_full {f t : Int} {l : List Ex} (h : Ok f t l) {p n : Int} (hn : 0 < n) (hf : f ≤ p) (ht : p + n ≤ t) (hd : ∀ y ∈ l, Dis ⟨p, n⟩ y) : ∃ g ∈ freeL f t l, g.a ≤ p ∧ p + n ≤ g.a + g.n := by
  rw [freeL, if_pos h]
  exact gaps_full t _ _ p n (may_ok h) hn hf ht fun y hy => hd y ((sort_perm l).mem_iff.1 hy)
theorem free_apart (f t : Int) (l : List Ex) : (freeL f t l).Pairwise Apart := by
  unfold freeL
  split
  · exact gaps_apart t _ _ (may_ok (by assumption))
  · exact .nil
theorem free_pos {f t : Int} {l : List Ex} {g : Ex} (hg : g ∈ freeL f t l) : 0 < g.n := by
  by_cases h : Ok f t l
  · exact (free_sound h hg).1.2.1
  · rw [free_not h] at hg; simp at hg
theorem gaps_len (t : Int) : ∀ (l : List Ex) (f : Int), (gapsL t f l).length ≤ l.length + 1 := by
  intro l
  induction l with
  | nil => intro f; unfold gapsL; split <;> simp
  | cons x l ih =>
    intro f
    rw [gapsL, List.length_append, List.length_cons]
    have := ih (x.a + x.n)
    split <;> simp <;> omega
theorem free_len (f t : Int) (l : List Ex) : (freeL f t l).length ≤ l.length + 1 := by
  unfold freeL
  split
  · have := gaps_len t (sortE l) f
    rwa [(sort_perm l).length_eq] at this
  · simp

/-- Where so many fit: the error's number beside it. -/
def fitL (n f t : Int) (l : List Ex) : Ex × Int :=
  if Ok f t l ∧ 1 ≤ n ∧ n ≤ 2147483647 then
    match (freeL f t l).find? (fun g => decide (n ≤ g.n)) with
    | some g => (⟨g.a, n⟩, 0)
    | none => (⟨0, 0⟩, 5)
  else (⟨0, 0⟩, 1)
def leftL (f t : Int) (l : List Ex) : Int := sumL (freeL f t l)
theorem fit_perm {n f t : Int} {l l' : List Ex} (hp : l.Perm l') : fitL n f t l = fitL n f t l' := by
  have h : (Ok f t l) = (Ok f t l') := propext ⟨fun h => h.perm hp, fun h => h.perm hp.symm⟩
  unfold fitL
  rw [free_perm hp]
  simp only [h]

/-- What comes of it, case by case. -/
theorem fit_cases (n f t : Int) (l : List Ex) :
    (fitL n f t l = (⟨0, 0⟩, 1) ∧ ¬ (Ok f t l ∧ 1 ≤ n ∧ n ≤ 2147483647)) ∨
    (fitL n f t l = (⟨0, 0⟩, 5) ∧ (Ok f t l ∧ 1 ≤ n ∧ n ≤ 2147483647) ∧ ∀ g ∈ freeL f t l, g.n < n) ∨
    (∃ p, fitL n f t l = (⟨p, n⟩, 0) ∧ (Ok f t l ∧ 1 ≤ n ∧ n ≤ 2147483647) ∧ (∃ g ∈ freeL f t l, g.a = p ∧ n ≤ g.n) ∧ ∀ g ∈ freeL f t l, n ≤ g.n → p ≤ g.a) := by
  by_cases h : Ok f t l ∧ 1 ≤ n ∧ n ≤ 2147483647
  · right
    rcases hf : (freeL f t l).find? (fun g => decide (n ≤ g.n)) with _ | g
    · left
      refine ⟨by rw [fitL, if_pos h, hf], h, fun g hg => ?_⟩
      have := List.find?_eq_none.1 hf g hg
      simpa using this
    · right
      refine ⟨g.a, by rw [fitL, if_pos h, hf], h, ?_⟩
      obtain ⟨h1, as, bs, h2, h3⟩ := List.find?_eq_some_iff_append.1 hf
      have ha := free_apart f t l
      have hps := fun g => free_pos (f := f) (t := t) (l := l) (g := g)
      rw [h2] at ha hps ⊢
      refine ⟨⟨g, by simp, rfl, by simpa using h1⟩, fun g' hg' hn => ?_⟩
      rcases List.mem_append.1 hg' with h4 | h4
      · have := h3 g' h4
        simp at this
        omega
      · rcases List.mem_cons.1 h4 with rfl | h4
        · omega
        · have h5 := (List.pairwise_cons.1 (List.pairwise_append.1 ha).2.1).1 g' h4
          have h6 := hps g (by simp)
          unfold Apart at h5
          omega
  · left
    exact ⟨by rw [fitL, if_neg h], h⟩

/-- What fits lies free, and as far ahead as it can. -/
theorem fit_least {n f t p : Int} {l : List Ex} (h : fitL n f t l = (⟨p, n⟩, 0)) : Ok f t l ∧ 1 ≤ n ∧ n ≤ 2147483647 ∧ f ≤ p ∧ p + n ≤ t ∧ (∀ y ∈ l, Dis ⟨p, n⟩ y) ∧
    ∀ q, f ≤ q → q + n ≤ t → (∀ y ∈ l, Dis ⟨q, n⟩ y) → p ≤ q := by
  rcases fit_cases n f t l with ⟨h1, _⟩ | ⟨h1, _⟩ | ⟨p', h1, h2, ⟨g, hg, h3, h4⟩, h5⟩
  · rw [h1] at h; simp at h
  · rw [h1] at h; simp at h
  · rw [h1] at h
    simp at h
    subst h
    obtain ⟨h6, h7⟩ := free_sound h2.1 hg
    unfold InE at h6
    refine ⟨h2.1, h2.2.1, h2.2.2, by omega, by omega, fun y hy => ?_, fun q h8 h9 h10 => ?_⟩
    · have := h7 y hy
      unfold Dis at *
      simp only
      have := (h2.1.2.1 y hy).2.1
      omega
    · obtain ⟨g', hg', h11, h12⟩ := free_full h2.1 (by omega) h8 h9 h10
      have := h5 g' hg' (by omega)
      omega
theorem fit_shape {n f t : Int} {l : List Ex} (h : (fitL n f t l).2 = 0) : ∃ p, fitL n f t l = (⟨p, n⟩, 0) := by
  rcases fit_cases n f t l with ⟨h1, _⟩ | ⟨h1, _⟩ | ⟨p', h1, _⟩
  · rw [h1] at h; simp at h
  · rw [h1] at h; simp at h
  · exact ⟨p', h1⟩

theorem ok_snoc {f t : Int} {l : List Ex} (h : Ok f t l) {x : Ex} (hx : InE f t x) (hd : ∀ y ∈ l, Dis x y) : Ok f t (l ++ [x]) := by
  refine ⟨h.1, fun y hy => ?_, ?_⟩
  · rcases List.mem_append.1 hy with h1 | h1
    · exact h.2.1 y h1
    · simp at h1; subst h1; exact hx
  · rw [List.pairwise_append]
    refine ⟨h.2.2, by simp, fun a ha b hb => ?_⟩
    simp at hb
    subst hb
    exact (hd a ha).symm

/-- SpaceFits: what fits may be used, too, and there is as much less. -/
theorem fits_more {n f t p : Int} {l : List Ex} (h : fitL n f t l = (⟨p, n⟩, 0)) : Ok f t (l ++ [⟨p, n⟩]) ∧ leftL f t (l ++ [⟨p, n⟩]) = leftL f t l - n := by
  obtain ⟨h1, h2, h3, h4, h5, h6, _⟩ := fit_least h
  have h7 := ok_snoc h1 (x := ⟨p, n⟩) ⟨h4, by simp; omega, h5⟩ h6
  refine ⟨h7, ?_⟩
  rw [leftL, leftL, free_sum h7, free_sum h1, sumL_append, sumL_cons, sumL_nil]
  simp only
  omega
/-- SpaceFits: it lies as far ahead as it can. -/
theorem fits_ahead {n f t p : Int} {l : List Ex} (h : fitL n f t l = (⟨p, n⟩, 0)) : (fitL n f (p + n - 1) (l.filter fun x => decide (x.a < p))).2 ≠ 0 := by
  intro h0
  obtain ⟨h1, h2, h3, h4, h5, h6, h7⟩ := fit_least h
  obtain ⟨q, hq⟩ := fit_shape h0
  obtain ⟨k1, k2, k3, k4, k5, k6, k7⟩ := fit_least hq
  have := h7 q k4 (by omega) fun y hy => by
    by_cases hlt : y.a < p
    · exact k6 y (List.mem_filter.2 ⟨hy, by simpa using hlt⟩)
    · have h8 := h6 y hy
      have h9 := (h1.2.1 y hy).2.1
      unfold Dis at *
      simp only at *
      omega
  omega

/-- SpaceWhole: what is used, and what is free, may be used together. -/
theorem whole_ok {f t : Int} {l : List Ex} (h : Ok f t l) : Ok f t (l ++ freeL f t l) ∧ leftL f t (l ++ freeL f t l) = 0 := by
  have h1 : Ok f t (l ++ freeL f t l) := by
    refine ⟨h.1, fun y hy => ?_, ?_⟩
    · rcases List.mem_append.1 hy with h1 | h1
      · exact h.2.1 y h1
      · exact (free_sound h h1).1
    · rw [List.pairwise_append]
      exact ⟨h.2.2, (free_apart f t l).imp fun h => .inl (by unfold Apart at h; omega), fun a ha b hb => ((free_sound h hb).2 a ha).symm⟩
  refine ⟨h1, ?_⟩
  rw [leftL, free_sum h1, sumL_append, free_sum h]
  omega
theorem left_sum {f t : Int} {l : List Ex} (h : Ok f t l) : leftL f t l = t - f - sumL l := free_sum h
theorem left_bound (f t : Int) (l : List Ex) : 0 ≤ leftL f t l ∧ leftL f t l ≤ 2147483647 := by
  refine ⟨sumL_pos fun x hx => free_pos hx, ?_⟩
  by_cases h : Ok f t l
  · rw [left_sum h]
    have := sumL_pos fun x hx => (h.2.1 x hx).2.1
    have := h.1
    unfold Area at this
    omega
  · rw [leftL, free_not h, sumL_nil]; omega
theorem left_none {f t : Int} {l : List Ex} (h : leftL f t l = 0) : freeL f t l = [] := by
  rcases hf : freeL f t l with _ | ⟨g, r⟩
  · rfl
  · have hp := fun x => free_pos (f := f) (t := t) (l := l) (g := x)
    rw [leftL, hf, sumL_cons] at h
    rw [hf] at hp
    have := hp g (.head _)
    have := sumL_pos fun x hx => hp x (.tail _ hx)
    omega
theorem sum_front {l : List Ex} (h : ∀ x ∈ l, 0 < x.n) (k : Nat) : 0 ≤ sumL (l.take k) ∧ sumL (l.take k) ≤ sumL l := by
  refine ⟨sumL_pos fun x hx => h x (List.mem_of_mem_take hx), ?_⟩
  have h1 : sumL l = sumL (l.take k) + sumL (l.drop k) := by rw [← sumL_append, List.take_append_drop]
  have h2 := sumL_pos fun x hx => h x (List.mem_of_mem_drop (i := k) hx)
  omega

/-- SpaceFills: as long as sectors are left one fits, behind all that was filled. -/
theorem fills_step {f t last : Int} {u : List Ex} (h : Ok f t u) (hl : 0 < leftL f t u) (hlast : ∀ q, f ≤ q → q + 1 ≤ t → (∀ y ∈ u, Dis ⟨q, 1⟩ y) → last < q) :
    ∃ p, fitL 1 f t u = (⟨p, 1⟩, 0) ∧ last < p ∧ Ok f t (u ++ [⟨p, 1⟩]) ∧ leftL f t (u ++ [⟨p, 1⟩]) = leftL f t u - 1 ∧ ∀ q, f ≤ q → q + 1 ≤ t → (∀ y ∈ u ++ [⟨p, 1⟩], Dis ⟨q, 1⟩ y) → p < q := by
  rcases fit_cases 1 f t u with ⟨h1, h2⟩ | ⟨h1, h2, h3⟩ | ⟨p, h1, h2, _⟩
  · exact absurd ⟨h, by omega, by omega⟩ h2
  · have h4 : freeL f t u = [] := by
      rcases hf : freeL f t u with _ | ⟨g, r⟩
      · rfl
      · have h5 := h3 g (by rw [hf]; simp)
        have h6 := free_pos (f := f) (t := t) (l := u) (g := g) (by rw [hf]; simp)
        omega
    rw [leftL, h4, sumL_nil] at hl
    omega
  · obtain ⟨_, _, _, k4, k5, k6, k7⟩ := fit_least h1
    obtain ⟨m1, m2⟩ := fits_more h1
    refine ⟨p, h1, hlast p k4 k5 k6, m1, m2, fun q h3 h4 h5 => ?_⟩
    have h6 := k7 q h3 h4 fun y hy => h5 y (List.mem_append_left _ hy)
    have h7 := h5 ⟨p, 1⟩ (by simp)
    unfold Dis at h7
    simp only at h7
    omega
theorem fills_end {f t : Int} {u : List Ex} (h : Ok f t u) (hl : leftL f t u = 0) : fitL 1 f t u = (⟨0, 0⟩, 5) ∧ freeL f t u = [] := by
  have h1 := left_none hl
  refine ⟨?_, h1⟩
  rw [fitL, if_pos ⟨h, by omega, by omega⟩, h1]
  rfl

/-- SpaceGreatest. -/
def mostL (l : List Ex) : Int := l.foldl (fun m x => max m x.n) 0
theorem most_take (l : List Ex) (k : Nat) (h : k < l.length) : mostL (l.take (k + 1)) = max (mostL (l.take k)) l[k].n := by
  unfold mostL; rw [List.take_succ_eq_append_getElem h, List.foldl_append]; rfl
theorem most_up (l : List Ex) : ∀ m : Int, m ≤ l.foldl (fun m x => max m x.n) m ∧ (∀ x ∈ l, x.n ≤ l.foldl (fun m x => max m x.n) m) ∧ (l.foldl (fun m x => max m x.n) m = m ∨ ∃ x ∈ l, x.n = l.foldl (fun m x => max m x.n) m) := by
  induction l with
  | nil => intro m; simp
  | cons x l ih =>
    intro m
    obtain ⟨h1, h2, h3⟩ := ih (max m x.n)
    rw [List.foldl_cons]
    refine ⟨by omega, fun y hy => ?_, ?_⟩
    · rcases List.mem_cons.1 hy with rfl | hy
      · omega
      · exact h2 y hy
    · rcases h3 with h3 | ⟨y, hy, h4⟩
      · rw [h3]
        by_cases h5 : x.n ≤ m
        · left; omega
        · right; exact ⟨x, .head _, by omega⟩
      · exact .inr ⟨y, .tail _ hy, h4⟩
theorem most_facts {f t : Int} {l : List Ex} (h : Ok f t l) : 0 ≤ mostL (freeL f t l) ∧ mostL (freeL f t l) ≤ 2147483647 ∧ ∀ n, 1 ≤ n → n ≤ 2147483647 →
    (mostL (freeL f t l) < n → fitL n f t l = (⟨0, 0⟩, 5)) ∧ (n ≤ mostL (freeL f t l) → ∃ p, fitL n f t l = (⟨p, n⟩, 0)) := by
  obtain ⟨h1, h2, h3⟩ := most_up (freeL f t l) 0
  change 0 ≤ mostL _ at h1
  change ∀ x ∈ freeL f t l, x.n ≤ mostL (freeL f t l) at h2
  change mostL (freeL f t l) = 0 ∨ ∃ x ∈ freeL f t l, x.n = mostL (freeL f t l) at h3
  refine ⟨h1, ?_, fun n hn hn2 => ⟨fun hlt => ?_, fun hle => ?_⟩⟩
  · rcases h3 with h3 | ⟨x, hx, h4⟩
    · omega
    · have h5 := (free_sound h hx).1
      have h6 := h.1
      unfold InE at h5
      unfold Area at h6
      omega
  · rcases fit_cases n f t l with ⟨_, k2⟩ | ⟨k1, _⟩ | ⟨p, _, _, ⟨g, hg, _, k3⟩, _⟩
    · exact absurd ⟨h, hn, hn2⟩ k2
    · exact k1
    · have := h2 g hg
      omega
  · rcases fit_cases n f t l with ⟨_, k2⟩ | ⟨_, _, k3⟩ | ⟨p, k1, _⟩
    · exact absurd ⟨h, hn, hn2⟩ k2
    · rcases h3 with h3 | ⟨x, hx, h4⟩
      · omega
      · have := k3 x hx
        omega
    · exact ⟨p, k1⟩

/-- SpaceOrder: turned. -/
def turnL (l : List Ex) (b k : Nat) : List Ex := (List.range k).map fun i => l[(l.length - i + b) % l.length]?.getD default
theorem turn_len (l : List Ex) (b k : Nat) : (turnL l b k).length = k := by simp [turnL]
theorem turn_succ (l : List Ex) (b k : Nat) (h : (l.length - k + b) % l.length < l.length) : turnL l b (k + 1) = turnL l b k ++ [l[(l.length - k + b) % l.length]] := by
  unfold turnL
  rw [List.range_succ, List.map_append, List.map_cons, List.map_nil, List.getElem?_eq_getElem h]
  rfl
theorem turn_perm (l : List Ex) (b : Nat) : (turnL l b l.length).Perm l := by
  by_cases hl : l.length = 0
  · rw [hl]
    have : l = [] := List.length_eq_zero_iff.1 hl
    subst this
    simp [turnL]
  · have hr : b % l.length < l.length := Nat.mod_lt _ (by omega)
    have e : turnL l b l.length = (l.take (b % l.length + 1)).reverse ++ (l.drop (b % l.length + 1)).reverse := by
      refine List.ext_getElem (by simp [turnL]; omega) fun i h1 h2 => ?_
      rw [turn_len] at h1
      have hlt : (l.length - i + b) % l.length < l.length := Nat.mod_lt _ (by omega)
      simp only [turnL, List.getElem_map, List.getElem_range]
      rw [List.getElem?_eq_getElem hlt, Option.getD_some]
      have hm : (l.length - i + b) % l.length = if i ≤ b % l.length then b % l.length - i else l.length - i + b % l.length := by
        have h3 := Nat.div_add_mod b l.length
        have h4 : l.length - i + b = (l.length - i + b % l.length) + l.length * (b / l.length) := by omega
        rw [h4, Nat.add_mul_mod_self_left]
        split
        · rw [show l.length - i + b % l.length = (b % l.length - i) + l.length by omega, Nat.add_mod_right, Nat.mod_eq_of_lt (by omega)]
        · rw [Nat.mod_eq_of_lt (by omega)]
      by_cases hi : i ≤ b % l.length
      · rw [List.getElem_append_left (by simp; omega), List.getElem_reverse, List.getElem_take]
        congr 1
        rw [hm, if_pos hi, List.length_take]
        omega
      · rw [List.getElem_append_right (by simp; omega), List.getElem_reverse, List.getElem_drop]
        congr 1
        rw [hm, if_neg hi]
        simp only [List.length_drop, List.length_reverse, List.length_take]
        omega
    rw [e]
    have h1 := (List.reverse_perm (l.take (b % l.length + 1))).append (List.reverse_perm (l.drop (b % l.length + 1)))
    rwa [List.take_append_drop] at h1

/-- SpaceTells: sector by sector. -/
def useB (q : Int) (l : List Ex) : Bool := l.any fun x => decide (x.a ≤ q) && decide (q < x.a + x.n)
def stepS (l : List Ex) (o : List Ex) (q : Int) : List Ex :=
  if useB q l then o else match o.getLast? with
    | some g => if g.a + g.n = q then o.dropLast ++ [⟨g.a, g.n + 1⟩] else o ++ [⟨q, 1⟩]
    | none => o ++ [⟨q, 1⟩]
def scanS (l : List Ex) (f : Int) : Nat → List Ex
  | 0 => []
  | k + 1 => stepS l (scanS l f k) (f + k)
def Has (o : List Ex) (q : Int) : Prop := ∃ x ∈ o, x.a ≤ q ∧ q < x.a + x.n

theorem has_one : ∀ (l m : List Ex), (∀ x ∈ l, 0 < x.n) → (∀ x ∈ m, 0 < x.n) → l.Pairwise Apart → m.Pairwise Apart → (∀ q, Has l q ↔ Has m q) → l = m := by
  intro l
  induction l with
  | nil =>
    intro m _ hm _ _ h
    rcases m with _ | ⟨y, m⟩
    · rfl
    · have h1 := (h y.a).2 ⟨y, .head _, by omega, by have := hm y (.head _); omega⟩
      obtain ⟨x, hx, _⟩ := h1
      simp at hx
  | cons x l ih =>
    intro m hl hm pl pm h
    rcases m with _ | ⟨y, m⟩
    · have h1 := (h x.a).1 ⟨x, .head _, by omega, by have := hl x (.head _); omega⟩
      obtain ⟨x, hx, _⟩ := h1
      simp at hx
    · have pl := List.pairwise_cons.1 pl
      have pm := List.pairwise_cons.1 pm
      have hx0 := hl x (.head _)
      have hy0 := hm y (.head _)
      have la : ∀ z ∈ x :: l, x.a ≤ z.a := fun z hz => by
        rcases List.mem_cons.1 hz with rfl | hz
        · omega
        · have := pl.1 z hz; unfold Apart at this; omega
      have ma : ∀ z ∈ y :: m, y.a ≤ z.a := fun z hz => by
        rcases List.mem_cons.1 hz with rfl | hz
        · omega
        · have := pm.1 z hz; unfold Apart at this; omega
      have e1 : x.a = y.a := by
        obtain ⟨z, hz, h1, _⟩ := (h x.a).1 ⟨x, .head _, by omega, by omega⟩
        obtain ⟨z', hz', h2, _⟩ := (h y.a).2 ⟨y, .head _, by omega, by omega⟩
        have := ma z hz
        have := la z' hz'
        omega
      have nl : ¬ Has (x :: l) (x.a + x.n) := by
        rintro ⟨z, hz, h1, h2⟩
        rcases List.mem_cons.1 hz with rfl | hz
        · omega
        · have := pl.1 z hz; unfold Apart at this; omega
      have nm : ¬ Has (y :: m) (y.a + y.n) := by
        rintro ⟨z, hz, h1, h2⟩
        rcases List.mem_cons.1 hz with rfl | hz
        · omega
        · have := pm.1 z hz; unfold Apart at this; omega
      have e2 : x.n = y.n := by
        by_cases h1 : x.n < y.n
        · exact absurd ((h _).2 ⟨y, .head _, by omega, by omega⟩) nl
        · by_cases h2 : y.n < x.n
          · exact absurd ((h _).1 ⟨x, .head _, by omega, by omega⟩) nm
          · omega
      have e3 : x = y := by
        cases x; cases y; simp at e1 e2; simp [e1, e2]
      subst e3
      congr 1
      refine ih m (fun z hz => hl z (.tail _ hz)) (fun z hz => hm z (.tail _ hz)) pl.2 pm.2 fun q => ?_
      have hq := h q
      constructor
      · rintro ⟨z, hz, h1, h2⟩
        obtain ⟨z', hz', h3⟩ := hq.1 ⟨z, .tail _ hz, h1, h2⟩
        rcases List.mem_cons.1 hz' with rfl | hz'
        · have := pl.1 z hz; unfold Apart at this; omega
        · exact ⟨z', hz', h3⟩
      · rintro ⟨z, hz, h1, h2⟩
        obtain ⟨z', hz', h3⟩ := hq.2 ⟨z, .tail _ hz, h1, h2⟩
        rcases List.mem_cons.1 hz' with rfl | hz'
        · have := pm.1 z hz; unfold Apart at this; omega
        · exact ⟨z', hz', h3⟩

theorem use_iff (q : Int) (l : List Ex) : useB q l = true ↔ Has l q := by
  simp [useB, Has]

theorem scan_facts (l : List Ex) (f : Int) : ∀ k : Nat, (∀ x ∈ scanS l f k, 0 < x.n ∧ x.a + x.n ≤ f + k) ∧ (scanS l f k).Pairwise Apart ∧ ∀ q, Has (scanS l f k) q ↔ f ≤ q ∧ q < f + k ∧ useB q l = false := by
  intro k
  induction k with
  | zero => exact ⟨by simp [scanS], .nil, fun q => ⟨fun ⟨x, hx, _⟩ => by simp [scanS] at hx, fun h => by omega⟩⟩
  | succ k ih =>
    obtain ⟨h1, h2, h3⟩ := ih
    rw [scanS]
    generalize scanS l f k = o at h1 h2 h3
    unfold stepS
    cases hu : useB (f + k) l with
    | true =>
      rw [if_pos rfl]
      refine ⟨fun x hx => ?_, h2, fun q => ?_⟩
      · have := h1 x hx; omega
      · rw [h3]
        constructor
        · rintro ⟨a, b, c⟩; exact ⟨a, by omega, c⟩
        · rintro ⟨a, b, c⟩
          refine ⟨a, ?_, c⟩
          by_cases hq : q = f + k
          · rw [hq, hu] at c; simp at c
          · omega
    | false =>
      rw [if_neg (by simp)]
      have hq : ∀ q, (f ≤ q ∧ q < f + (k + 1 : Nat) ∧ useB q l = false) ↔ (Has o q ∨ q = f + k) := fun q => by
        rw [h3]
        constructor
        · rintro ⟨a, b, c⟩
          by_cases hq : q = f + k
          · exact .inr hq
          · exact .inl ⟨a, by omega, c⟩
        · rintro (⟨a, b, c⟩ | hq)
          · exact ⟨a, by omega, c⟩
          · exact ⟨by omega, by omega, by rw [hq]; exact hu⟩
      rcases List.eq_nil_or_concat o with rfl | ⟨r, g, rfl⟩
      · simp only [List.getLast?_nil]
        refine ⟨fun x hx => by simp at hx; subst hx; simp only; omega, by simp, fun q => ?_⟩
        rw [hq]
        constructor
        · rintro ⟨x, hx, a, b⟩
          simp at hx
          subst hx
          simp only at a b
          exact .inr (by omega)
        · rintro (⟨x, hx, _⟩ | hq)
          · simp at hx
          · exact ⟨⟨f + k, 1⟩, by simp, by simp only; omega, by simp only; omega⟩
      · rw [List.concat_eq_append] at *
        rw [List.getLast?_concat, List.dropLast_concat]
        simp only
        have hg := h1 g (by simp)
        have hp := List.pairwise_append.1 h2
        split
        · rename_i he
          refine ⟨fun x hx => ?_, ?_, fun q => ?_⟩
          · rcases List.mem_append.1 hx with hx | hx
            · have := h1 x (List.mem_append_left _ hx); omega
            · simp at hx; subst hx; simp only; omega
          · rw [List.pairwise_append]
            refine ⟨hp.1, by simp, fun a ha b hb => ?_⟩
            have := hp.2.2 a ha g (by simp)
            simp at hb
            subst hb
            exact this
          · rw [hq]
            constructor
            · rintro ⟨x, hx, a, b⟩
              rcases List.mem_append.1 hx with hx | hx
              · exact .inl ⟨x, List.mem_append_left _ hx, a, b⟩
              · simp at hx
                subst hx
                simp only at a b
                by_cases hq : q = f + k
                · exact .inr hq
                · exact .inl ⟨g, by simp, a, by omega⟩
            · rintro (⟨x, hx, a, b⟩ | hq)
              · rcases List.mem_append.1 hx with hx | hx
                · exact ⟨x, List.mem_append_left _ hx, a, b⟩
                · simp at hx
                  subst hx
                  exact ⟨⟨x.a, x.n + 1⟩, by simp, a, by simp only; omega⟩
              · exact ⟨⟨g.a, g.n + 1⟩, by simp, by simp only; omega, by simp only; omega⟩
        · rename_i he
          refine ⟨fun x hx => ?_, ?_, fun q => ?_⟩
          · rcases List.mem_append.1 hx with hx | hx
            · have := h1 x hx; omega
            · simp at hx; subst hx; simp only; omega
          · rw [List.pairwise_append]
            refine ⟨h2, by simp, fun a ha b hb => ?_⟩
            simp at hb
            subst hb
            unfold Apart
            simp only
            rcases List.mem_append.1 ha with ha | ha
            · have := hp.2.2 a ha g (by simp)
              unfold Apart at this
              omega
            · simp at ha; subst ha; omega
          · rw [hq]
            constructor
            · rintro ⟨x, hx, a, b⟩
              rcases List.mem_append.1 hx with hx | hx
              · exact .inl ⟨x, hx, a, b⟩
              · simp at hx
                subst hx
                simp only at a b
                exact .inr (by omega)
            · rintro (⟨x, hx, a, b⟩ | hq)
              · exact ⟨x, List.mem_append_left _ hx, a, b⟩
              · exact ⟨⟨f + k, 1⟩, by simp, by simp only; omega, by simp only; omega⟩

theorem scan_free {f t : Int} {l : List Ex} (h : Ok f t l) : scanS l f (t - f).toNat = freeL f t l := by
  obtain ⟨h1, h2, h3⟩ := scan_facts l f (t - f).toNat
  refine has_one _ _ (fun x hx => (h1 x hx).1) (fun x hx => free_pos hx) h2 (free_apart f t l) fun q => ?_
  rw [h3]
  have ha := h.1
  unfold Area at ha
  constructor
  · rintro ⟨a, b, c⟩
    obtain ⟨g, hg, k1, k2⟩ := free_full h (p := q) (n := 1) (by omega) a (by omega) fun y hy => by
      have : ¬ Has l q := fun hh => by rw [(use_iff q l).2 hh] at c; simp at c
      unfold Dis
      simp only
      by_cases h4 : y.a ≤ q
      · by_cases h5 : q < y.a + y.n
        · exact absurd ⟨y, hy, h4, h5⟩ this
        · omega
      · omega
    exact ⟨g, hg, k1, by omega⟩
  · rintro ⟨g, hg, a, b⟩
    obtain ⟨k1, k2⟩ := free_sound h hg
    unfold InE at k1
    refine ⟨by omega, by omega, ?_⟩
    rw [← Bool.not_eq_true, use_iff]
    rintro ⟨y, hy, k3, k4⟩
    have := k2 y hy
    unfold Dis at this
    omega

end Go.Proofs.Ytodcngkcaeahhaa
