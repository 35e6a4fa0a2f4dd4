/- The library's stable sort: plain facts on lists of notes. Nothing of the program. -/
import Derived.Test.YtggfegogjmckcaaLf
import Derived.Sort.WalkA
namespace Go.Proofs.Ytggfegogjmckcaa
open Go.Sort

instance : Inhabited Nt := ⟨⟨0, noB, noB, 0⟩⟩

/-! Arrays as lists. -/
theorem get_list {d : Array Nt} {A B : List Nt} {e : Nt} {i : Nat} (h : d.toList = A ++ e :: B) (hi : A.length = i) : i < d.size ∧ d[i]! = e := by
  subst hi
  have hs : d.size = (A ++ e :: B).length := by rw [← h]; simp
  have h1 : A.length < d.size := by rw [hs]; simp
  refine ⟨h1, ?_⟩
  rw [getElem!_pos d _ h1, ← Array.getElem_toList h1]
  simp [h]
theorem get_at {d : Array Nt} {l : List Nt} (h : d.toList = l) (i : Nat) (hi : i < l.length) : i < d.size ∧ d[i]! = l[i] := by
  subst h
  have h1 : i < d.size := by simpa using hi
  exact ⟨h1, by rw [getElem!_pos d _ h1, Array.getElem_toList]⟩
theorem swp_list {d : Array Nt} {A B C : List Nt} {e f : Nt} {i j : Nat} (h : d.toList = A ++ e :: (B ++ f :: C)) (hi : A.length = i) (hj : A.length + 1 + B.length = j) : (swp d i j).toList = A ++ f :: (B ++ e :: C) := by
  obtain ⟨h1, h2⟩ := get_list h hi
  obtain ⟨h3, h4⟩ := get_list (A := A ++ e :: B) (B := C) (e := f) (i := j) (by rw [h]; simp) (by rw [← hj]; simp; omega)
  unfold swp
  rw [h2, h4]
  subst hi hj
  simp only [Array.toList_setIfInBounds, h]
  apply List.ext_getElem
  · simp
  intro t ht1 ht2
  simp only [List.getElem_set]
  by_cases e1 : A.length + 1 + B.length = t
  · subst e1
    rw [if_pos rfl, List.getElem_append_right (by omega)]
    simp only [show A.length + 1 + B.length - A.length = B.length + 1 by omega, List.getElem_cons_succ]
    rw [List.getElem_append_right (Nat.le_refl _)]
    simp
  · rw [if_neg e1]
    by_cases e2 : A.length = t
    · subst e2
      rw [if_pos rfl, List.getElem_append_right (Nat.le_refl _)]
      simp
    · rw [if_neg e2]
      by_cases e3 : t < A.length
      · rw [List.getElem_append_left e3, List.getElem_append_left e3]
      · rw [List.getElem_append_right (by omega), List.getElem_append_right (by omega)]
        obtain ⟨q, hq⟩ : ∃ q, t - A.length = q + 1 := ⟨t - A.length - 1, by omega⟩
        simp only [hq, List.getElem_cons_succ]
        by_cases e4 : q < B.length
        · rw [List.getElem_append_left e4, List.getElem_append_left e4]
        · rw [List.getElem_append_right (by omega), List.getElem_append_right (by omega)]
          obtain ⟨q2, hq2⟩ : ∃ q2, q - B.length = q2 + 1 := ⟨q - B.length - 1, by omega⟩
          simp only [hq2, List.getElem_cons_succ]
theorem take_drop1 (l : List Nt) (i : Nat) (h : i < l.length) : l.drop i = l[i] :: l.drop (i + 1) := List.drop_eq_getElem_cons h
theorem take_snoc1 (l : List Nt) (i : Nat) (h : i < l.length) : l.take (i + 1) = l.take i ++ [l[i]] := List.take_succ_eq_append_getElem h

/-! Insertion keeps the order of what is alike. -/
abbrev lessN (x y : Nt) : Bool := decide (x.key < y.key)
theorem swp_comm {d : Array Nt} {j : Nat} (hj : j + 1 < d.size) : swp d (j + 1) j = swp d j (j + 1) := by
  apply Array.ext
  · rw [size_swp, size_swp]
  intro t h1 h2
  rw [← getElem!_pos _ t h1, ← getElem!_pos _ t h2, swp_get d hj (by omega), swp_get d (by omega) hj]
  by_cases a : t = j
  · subst a; simp
  · by_cases b : t = j + 1
    · subst b; simp
    · simp [a, b]
theorem swp_next {d : Array Nt} {j : Nat} (hj : j + 1 < d.size) (hl : (d[j + 1]!).key ≠ (d[j]!).key) : StEq (swp d (j + 1) j).toList d.toList := by
  have e1 : d.toList = d.toList.take j ++ d[j]! :: d[j + 1]! :: d.toList.drop (j + 2) := by
    conv => lhs; rw [← List.take_append_drop j d.toList]
    rw [take_drop1 _ j (by simp; omega), take_drop1 _ (j + 1) (by simp; omega), getElem!_pos d (j + 1) hj, getElem!_pos d j (show j < d.size by omega)]
    simp
  have e2 : (swp d (j + 1) j).toList = d.toList.take j ++ d[j + 1]! :: d[j]! :: d.toList.drop (j + 2) := by
    rw [swp_comm hj]
    exact swp_list (A := d.toList.take j) (B := []) e1 (by simp; omega) (by simp; omega)
  rw [e2]
  generalize d[j + 1]! = p at *
  generalize d[j]! = q at *
  generalize d.toList.drop (j + 2) = R at *
  generalize d.toList.take j = X at *
  rw [e1]
  exact (StEq.rfl' X).app ((StEq.swap (a := [p]) (b := [q]) (by simpa using hl)).app (StEq.rfl' R))
theorem inner_steq (a : Nat) : ∀ (j : Nat) (d : Array Nt), j < d.size → StEq (insInner lessN a j d).toList d.toList ∧ (insInner lessN a j d).size = d.size := by
  intro j
  induction j with
  | zero => intro d _; exact ⟨StEq.rfl' _, rfl⟩
  | succ j ih =>
    intro d hj
    by_cases h : j + 1 > a ∧ lessN d[j + 1]! d[j]! = true
    · have hgo := insInner_go lessN a (j + 1) d h.1 (by simpa using h.2)
      simp only [Nat.add_sub_cancel] at hgo
      rw [hgo]
      obtain ⟨h1, h2⟩ := ih (swp d (j + 1) j) (by rw [size_swp]; omega)
      refine ⟨h1.trans (swp_next hj ?_), by rw [h2, size_swp]⟩
      have := of_decide_eq_true h.2
      grind
    · have hstop : j + 1 ≤ a ∨ lessN d[j + 1]! d[j + 1 - 1]! = false := by
        simp only [Nat.add_sub_cancel]
        by_cases h1 : j + 1 > a
        · cases e : lessN d[j + 1]! d[j]! with
          | false => exact .inr rfl
          | true => exact absurd ⟨h1, e⟩ h
        · exact .inl (by omega)
      rw [insInner_stop lessN a (j + 1) d hstop]
      exact ⟨StEq.rfl' _, rfl⟩
theorem outer_steq (a b : Nat) : ∀ (m i : Nat) (d : Array Nt), b - i = m → b ≤ d.size → StEq (insOuter lessN a b i d).toList d.toList := by
  intro m
  induction m with
  | zero => intro i d hm _; rw [insOuter_stop lessN a b i d (by omega)]; exact StEq.rfl' _
  | succ m ih =>
    intro i d hm hb
    rw [insOuter_go lessN a b i d (by omega)]
    obtain ⟨h1, h2⟩ := inner_steq a i d (by omega)
    exact (ih (i + 1) _ (by omega) (by omega)).trans h1
theorem insertion_steq (a b : Nat) (d : Array Nt) (hb : b ≤ d.size) : StEq (insertionSort lessN d a b).toList d.toList := outer_steq a b _ _ d rfl hb
theorem swoN : SWO lessN :=
  ⟨fun x => by simp only [lessN, decide_eq_false_iff_not]; grind, fun x y z h1 h2 => by simp only [lessN, decide_eq_true_eq] at *; grind, fun x y z h1 h2 => by simp only [lessN, decide_eq_false_iff_not] at *; grind⟩
/-- Insertion in the middle of a list. -/
theorem insertion_list {d : Array Nt} {x s y : List Nt} {a b : Nat} (h : d.toList = x ++ s ++ y) (ha : x.length = a) (hb : x.length + s.length = b) :
    ∃ s', (insertionSort lessN d a b).toList = x ++ s' ++ y ∧ s'.length = s.length ∧ Rising s' ∧ StEq s' s := by
  have hsz : d.size = x.length + s.length + y.length := by have := congrArg List.length h; simp at this; omega
  obtain ⟨⟨p1, p2, p3⟩, hs⟩ := insertionSort_holds (lt := lessN) swoN d a b (by omega) (by omega)
  have hst := insertion_steq a b d (by omega)
  generalize insertionSort lessN d a b = d' at *
  have hl : d'.toList.length = x.length + s.length + y.length := by simp; omega
  have hx : d'.toList.take a = x := by
    apply List.ext_getElem
    · simp; omega
    intro t h1 h2
    have h3 := p2 t (.inl (by omega))
    have h4 := get_at h t (by simp; omega)
    have h5 := get_at (d := d') rfl t (by omega)
    rw [List.getElem_take, ← h5.2, h3, h4.2]
    simp only [List.append_assoc]
    rw [List.getElem_append_left h2]
  have hy : d'.toList.drop b = y := by
    apply List.ext_getElem
    · simp; omega
    intro t h1 h2
    have h3 := p2 (b + t) (.inr (by omega))
    have h4 := get_at h (b + t) (by simp; omega)
    have h5 := get_at (d := d') rfl (b + t) (by omega)
    rw [List.getElem_drop, ← h5.2, h3, h4.2, List.getElem_append_right (by simp; omega)]
    congr 1
    simp; omega
  have e : d'.toList = x ++ (d'.toList.drop a).take (b - a) ++ y := by
    conv => lhs; rw [← List.take_append_drop a d'.toList, ← List.take_append_drop (b - a) (d'.toList.drop a)]
    rw [hx, List.drop_drop, show a + (b - a) = b by omega, hy, List.append_assoc]
  refine ⟨(d'.toList.drop a).take (b - a), e, by simp; omega, ?_, ?_⟩
  · rw [Rising, List.pairwise_iff_getElem]
    intro i j hi hj hij
    simp only [List.length_take, List.length_drop] at hi hj
    have h1 := hs (a + i) (a + j) (by omega) (by omega) (by omega)
    have h5 := get_at (d := d') rfl (a + i) (by omega)
    have h6 := get_at (d := d') rfl (a + j) (by omega)
    rw [h5.2, h6.2] at h1
    simp only [lessN, decide_eq_false_iff_not] at h1
    rw [List.getElem_take, List.getElem_take, List.getElem_drop, List.getElem_drop]
    grind
  · intro k
    have h1 := hst k
    rw [e, h] at h1
    simp only [List.filter_append] at h1
    exact List.append_cancel_left (List.append_cancel_right h1)

/-! Merging. -/
theorem rising_get {l : List Nt} (h : Rising l) {i j : Nat} (hj : j < l.length) (hij : i ≤ j) : (l[i]'(by omega)).key ≤ l[j].key := by
  by_cases e : i = j
  · subst e; grind
  · exact (List.pairwise_iff_getElem.1 h) i j (by omega) hj (by omega)
theorem rising_mem_take {l : List Nt} (h : Rising l) {n : Nat} (h0 : 0 < n) (hn : n ≤ l.length) : ∀ x ∈ l.take n, x.key ≤ (l[n - 1]'(by omega)).key := by
  intro x hx
  obtain ⟨i, hi, rfl⟩ := List.getElem_of_mem hx
  simp at hi
  rw [List.getElem_take]
  exact rising_get h (by omega) (by omega)
theorem rising_mem_drop {l : List Nt} (h : Rising l) {n : Nat} (hn : n < l.length) : ∀ x ∈ l.drop n, l[n].key ≤ x.key := by
  intro x hx
  obtain ⟨i, hi, rfl⟩ := List.getElem_of_mem hx
  simp at hi
  rw [List.getElem_drop]
  exact rising_get h (by omega) (by omega)
theorem rising_parts {l : List Nt} (h : Rising l) (n : Nat) : Rising (l.take n) ∧ Rising (l.drop n) ∧ ∀ x ∈ l.take n, ∀ y ∈ l.drop n, x.key ≤ y.key := by
  have h1 := h
  rw [← List.take_append_drop n l] at h1
  unfold Rising at h1
  rw [List.pairwise_append] at h1
  exact h1
theorem rising_join {a b : List Nt} (ha : Rising a) (hb : Rising b) (h : ∀ x ∈ a, ∀ y ∈ b, x.key ≤ y.key) : Rising (a ++ b) := by
  unfold Rising
  rw [List.pairwise_append]
  exact ⟨ha, hb, h⟩

/-- What the split of two rising lists in the middle comes to. -/
theorem sym_parts {u v : List Nt} (hu : Rising u) (hv : Rising v) {h st lo hi : Nat} (hst : st ≤ u.length) (hsh : st ≤ h) (hv1 : h - st ≤ v.length)
    (hlo : lo = 0 ∨ lo + v.length = h) (hhi : hi = h ∨ hi = u.length)
    (F1 : st = lo ∨ ∃ (h1 : st - 1 < u.length) (h2 : h - st < v.length), 0 < st ∧ ¬ v[h - st].key < u[st - 1].key)
    (F2 : st = hi ∨ ∃ (h1 : st < u.length) (h2 : h - 1 - st < v.length), st < h ∧ v[h - 1 - st].key < u[st].key) :
    (∀ x ∈ u.take st, ∀ y ∈ v.drop (h - st), x.key ≤ y.key) ∧ (∀ y ∈ v.take (h - st), ∀ x ∈ u.drop st, y.key < x.key) := by
  constructor
  · intro x hx y hy
    rcases F1 with F1 | ⟨h1, h2, h0, F1⟩
    · rcases hlo with hlo | hlo
      · have : st = 0 := by omega
        subst this; simp at hx
      · have : v.length ≤ h - st := by omega
        rw [List.drop_eq_nil_of_le this] at hy
        simp at hy
    · have a := rising_mem_take hu h0 hst x hx
      have b := rising_mem_drop hv h2 y hy
      grind
  · intro y hy x hx
    rcases F2 with F2 | ⟨h1, h2, h0, F2⟩
    · rcases hhi with hhi | hhi
      · have : h - st = 0 := by omega
        rw [this] at hy; simp at hy
      · have : st = u.length := by omega
        rw [this] at hx
        simp at hx
    · have a := rising_mem_drop hu h1 x hx
      have b := rising_mem_take hv (n := h - st) (by omega) hv1 y hy
      have e : v[h - st - 1]'(by omega) = v[h - 1 - st] := by congr 1; omega
      rw [e] at b
      grind

/-- A list that is what two rising ones are together, in order. -/
def Merged (s u v : List Nt) : Prop := s.length = u.length + v.length ∧ Rising s ∧ StEq s (u ++ v)
theorem Merged.left {u : List Nt} (h : Rising u) : Merged u u [] := ⟨by simp, h, by simpa using StEq.rfl' u⟩
theorem Merged.right {v : List Nt} (h : Rising v) : Merged v [] v := ⟨by simp, h, by simpa using StEq.rfl' v⟩
theorem merged_join {s1 s2 u1 u2 v1 v2 : List Nt} (h1 : Merged s1 u1 v1) (h2 : Merged s2 u2 v2) (hu : ∀ x ∈ u1, ∀ y ∈ u2, x.key ≤ y.key) (hv : ∀ x ∈ v1, ∀ y ∈ v2, x.key ≤ y.key)
    (huv : ∀ x ∈ u1, ∀ y ∈ v2, x.key ≤ y.key) (hvu : ∀ y ∈ v1, ∀ x ∈ u2, y.key < x.key) : Merged (s1 ++ s2) (u1 ++ u2) (v1 ++ v2) := by
  obtain ⟨a1, b1, c1⟩ := h1
  obtain ⟨a2, b2, c2⟩ := h2
  refine ⟨by simp; omega, rising_join b1 b2 fun x hx y hy => ?_, ?_⟩
  · have hx2 := c1.mem hx
    have hy2 := c2.mem hy
    rw [List.mem_append] at hx2 hy2
    rcases hx2 with hx2 | hx2 <;> rcases hy2 with hy2 | hy2
    · exact hu x hx2 y hy2
    · exact huv x hx2 y hy2
    · have := hvu x hx2 y hy2; grind
    · exact hv x hx2 y hy2
  · have e1 : StEq (s1 ++ s2) (u1 ++ (v1 ++ u2) ++ v2) := by have := c1.app c2; simpa [List.append_assoc] using this
    have e2 : StEq (u1 ++ (v1 ++ u2) ++ v2) (u1 ++ (u2 ++ v1) ++ v2) := ((StEq.rfl' u1).app (StEq.swap fun x hx y hy e => by have := hvu x hx y hy; grind)).app (StEq.rfl' v2)
    have := e1.trans e2
    simpa [List.append_assoc] using this

/-! Blocks. -/
def Bs (n : Nat) (l : List Nt) : Prop := ∀ c : Nat, Rising ((l.drop (c * n)).take n)
def Pre (n : Nat) (x : List Nt) : Prop := ∀ y, Bs n y → Bs n (x ++ y)
theorem Pre.nil (n : Nat) : Pre n [] := fun _ h => h
theorem Bs.cons {n : Nat} {s y : List Nt} (hs : Rising s) (hl : s.length = n) (h : Bs n y) : Bs n (s ++ y) := by
  intro c
  cases c with
  | zero => rw [Nat.zero_mul, List.drop_zero, List.take_append_of_le_length (by omega), List.take_of_length_le (by omega)]; exact hs
  | succ c =>
    have e : (c + 1) * n = s.length + c * n := by rw [hl, Nat.add_mul]; omega
    rw [e, ← List.drop_drop, List.drop_left]
    exact h c
theorem Pre.snoc {n : Nat} {x s : List Nt} (h : Pre n x) (hs : Rising s) (hl : s.length = n) : Pre n (x ++ s) := fun y hy => by
  rw [List.append_assoc]
  exact h _ (Bs.cons hs hl hy)
theorem Bs.one {n : Nat} {s : List Nt} (hs : Rising s) (hl : s.length ≤ n) : Bs n s := by
  intro c
  exact hs.sublist ((List.take_sublist _ _).trans (List.drop_sublist _ _))
theorem Bs.first {n : Nat} {l : List Nt} (h : Bs n l) : Rising (l.take n) ∧ Bs n (l.drop n) := by
  constructor
  · have := h 0
    simpa using this
  · intro c
    have := h (c + 1)
    rwa [Nat.add_mul, Nat.one_mul, Nat.add_comm, ← List.drop_drop] at this
theorem Bs.all {n : Nat} {l : List Nt} (h : Bs n l) (hl : l.length ≤ n) : Rising l := by
  have := h.first.1
  rwa [List.take_of_length_le hl] at this

end Go.Proofs.Ytggfegogjmckcaa
