/- The library's stable sort: plain facts on lists of notes. Nothing of the program. -/
import Derived.Test.YtgpjbajfkagdbaaLf
import Derived.Sort.WalkA
import Derived.Test.YtgpjbajfkagdbaaProg
import Derived.Shelf.SlSortCmp.KitK
import Derived.Lib.Hide
import Derived.Below
set_option linter.unusedVariables false
set_option linter.unusedSimpArgs false
namespace Go.Proofs.Ytgpjbajfkagdbaa
open Go.Sort

instance : Inhabited Nt := ⟨⟨0, noB, noB, 0⟩⟩

/-! Arrays as lists. -/
theorem get_list {d : Array Nt} {A B : List Nt} {e : Nt} {i : Nat} (h : d.toList = A ++ e :: B) (hi : A.length = i) : i < d.size ∧ d[i]! = e := by
  subst hi
  have hs : d.size = (A ++ e :: B).length := by rw [← h]; simp
  have h1 : A.length < d.size := by rw [hs]; simp
  refine ⟨h1, ?_⟩
  rw [getElem!_pos d _ h1, ← Array.getElem_toList h1]
  simp [h]
theorem get_at {d : Array Nt} {l : List Nt} (h : d.toList = l) (i : Nat) (hi : i < l.length) : i < d.size ∧ d[i]! = l[i] := by
  subst h
  have h1 : i < d.size := by simpa using hi
  exact ⟨h1, by rw [getElem!_pos d _ h1, Array.getElem_toList]⟩
theorem swp_list {d : Array Nt} {A B C : List Nt} {e f : Nt} {i j : Nat} (h : d.toList = A ++ e :: (B ++ f :: C)) (hi : A.length = i) (hj : A.length + 1 + B.length = j) : (swp d i j).toList = A ++ f :: (B ++ e :: C) := by
  obtain ⟨h1, h2⟩ := get_list h hi
  obtain ⟨h3, h4⟩ := get_list (A := A ++ e :: B) (B := C) (e := f) (i := j) (by rw [h]; simp) (by rw [← hj]; simp; omega)
  unfold swp
  rw [h2, h4]
  subst hi hj
  simp only [Array.toList_setIfInBounds, h]
  apply List.ext_getElem
  · simp
  intro t ht1 ht2
  simp only [List.getElem_set]
  by_cases e1 : A.length + 1 + B.length = t
  · subst e1
    rw [if_pos rfl, List.getElem_append_right (by omega)]
    simp only [show A.length + 1 + B.length - A.length = B.length + 1 by omega, List.getElem_cons_succ]
    rw [List.getElem_append_right (Nat.le_refl _)]
    simp
  · rw [if_neg e1]
    by_cases e2 : A.length = t
    · subst e2
      rw [if_pos rfl, List.getElem_append_right (Nat.le_refl _)]
      simp
    · rw [if_neg e2]
      by_cases e3 : t < A.length
      · rw [List.getElem_append_left e3, List.getElem_append_left e3]
      · rw [List.getElem_append_right (by omega), List.getElem_append_right (by omega)]
        obtain ⟨q, hq⟩ : ∃ q, t - A.length = q + 1 := ⟨t - A.length - 1, by omega⟩
        simp only [hq, List.getElem_cons_succ]
        by_cases e4 : q < B.length
        · rw [List.getElem_append_left e4, List.getElem_append_left e4]
        · rw [List.getElem_append_right (by omega), List.getElem_append_right (by omega)]
          obtain ⟨q2, hq2⟩ : ∃ q2, q - B.length = q2 + 1 := ⟨q - B.length - 1, by omega⟩
          simp only [hq2, List.getElem_cons_succ]
theorem take_drop1 (l : List Nt) (i : Nat) (h : i < l.length) : l.drop i = l[i] :: l.drop (i + 1) := List.drop_eq_getElem_cons h
theorem take_snoc1 (l : List Nt) (i : Nat) (h : i < l.length) : l.take (i + 1) = l.take i ++ [l[i]] := List.take_succ_eq_append_getElem h

/-! Insertion keeps the order of what is alike. -/
abbrev lessN (x y : Nt) : Bool := decide (x.key < y.key)
theorem swp_comm {d : Array Nt} {j : Nat} (hj : j + 1 < d.size) : swp d (j + 1) j = swp d j (j + 1) := by
  apply Array.ext
  · rw [size_swp, size_swp]
  intro t h1 h2
  rw [← getElem!_pos _ t h1, ← getElem!_pos _ t h2, swp_get d hj (by omega), swp_get d (by omega) hj]
  by_cases a : t = j
  · subst a; simp
  · by_cases b : t = j + 1
    · subst b; simp
    · simp [a, b]
theorem swp_next {d : Array Nt} {j : Nat} (hj : j + 1 < d.size) (hl : (d[j + 1]!).key ≠ (d[j]!).key) : StEq (swp d (j + 1) j).toList d.toList := by
  have e1 : d.toList = d.toList.take j ++ d[j]! :: d[j + 1]! :: d.toList.drop (j + 2) := by
    conv => lhs; rw [← List.take_append_drop j d.toList]
    rw [take_drop1 _ j (by simp; omega), take_drop1 _ (j + 1) (by simp; omega), getElem!_pos d (j + 1) hj, getElem!_pos d j (show j < d.size by omega)]
    simp
  have e2 : (swp d (j + 1) j).toList = d.toList.take j ++ d[j + 1]! :: d[j]! :: d.toList.drop (j + 2) := by
    rw [swp_comm hj]
    exact swp_list (A := d.toList.take j) (B := []) e1 (by simp; omega) (by simp; omega)
  rw [e2]
  generalize d[j + 1]! = p at *
  generalize d[j]! = q at *
  generalize d.toList.drop (j + 2) = R at *
  generalize d.toList.take j = X at *
  rw [e1]
  exact (StEq.rfl' X).app ((StEq.swap (a := [p]) (b := [q]) (by simpa using hl)).app (StEq.rfl' R))
theorem inner_steq (a : Nat) : ∀ (j : Nat) (d : Array Nt), j < d.size → StEq (insInner lessN a j d).toList d.toList ∧ (insInner lessN a j d).size = d.size := by
  intro j
  induction j with
  | zero => intro d _; exact ⟨StEq.rfl' _, rfl⟩
  | succ j ih =>
    intro d hj
    by_cases h : j + 1 > a ∧ lessN d[j + 1]! d[j]! = true
    · have hgo := insInner_go lessN a (j + 1) d h.1 (by simpa using h.2)
      simp only [Nat.add_sub_cancel] at hgo
      rw [hgo]
      obtain ⟨h1, h2⟩ := ih (swp d (j + 1) j) (by rw [size_swp]; omega)
      refine ⟨h1.trans (swp_next hj ?_), by rw [h2, size_swp]⟩
      have := of_decide_eq_true h.2
      grind
    · have hstop : j + 1 ≤ a ∨ lessN d[j + 1]! d[j + 1 - 1]! = false := by
        simp only [Nat.add_sub_cancel]
        by_cases h1 : j + 1 > a
        · cases e : lessN d[j + 1]! d[j]! with
          | false => exact .inr rfl
          | true => exact absurd ⟨h1, e⟩ h
        · exact .inl (by omega)
      rw [insInner_stop lessN a (j + 1) d hstop]
      exact ⟨StEq.rfl' _, rfl⟩
theorem outer_steq (a b : Nat) : ∀ (m i : Nat) (d : Array Nt), b - i = m → b ≤ d.size → StEq (insOuter lessN a b i d).toList d.toList := by
  intro m
  induction m with
  | zero => intro i d hm _; rw [insOuter_stop lessN a b i d (by omega)]; exact StEq.rfl' _
  | succ m ih =>
    intro i d hm hb
    rw [insOuter_go lessN a b i d (by omega)]
    obtain ⟨h1, h2⟩ := inner_steq a i d (by omega)
    exact (ih (i + 1) _ (by omega) (by omega)).trans h1
theorem insertion_steq (a b : Nat) (d : Array Nt) (hb : b ≤ d.size) : StEq (insertionSort lessN d a b).toList d.toList := outer_steq a b _ _ d rfl hb
theorem swoN : SWO lessN :=
  ⟨fun x => by simp only [lessN, decide_eq_false_iff_not]; grind, fun x y z h1 h2 => by simp only [lessN, decide_eq_true_eq] at *; grind, fun x y z h1 h2 => by simp only [lessN, decide_eq_false_iff_not] at *; grind⟩
/-- Insertion in the middle of a list. -/
theorem insertion_list {d : Array Nt} {x s y : List Nt} {a b : Nat} (h : d.toList = x ++ s ++ y) (ha : x.length = a) (hb : x.length + s.length = b) :
    ∃ s', (insertionSort lessN d a b).toList = x ++ s' ++ y ∧ s'.length = s.length ∧ Rising s' ∧ StEq s' s := by
  have hsz : d.size = x.length + s.length + y.length := by have := congrArg List.length h; simp at this; omega
  obtain ⟨⟨p1, p2, p3⟩, hs⟩ := insertionSort_holds (lt := lessN) swoN d a b (by omega) (by omega)
  have hst := insertion_steq a b d (by omega)
  generalize insertionSort lessN d a b = d' at *
  have hl : d'.toList.length = x.length + s.length + y.length := by simp; omega
  have hx : d'.toList.take a = x := by
    apply List.ext_getElem
    · simp; omega
    intro t h1 h2
    have h3 := p2 t (.inl (by omega))
    have h4 := get_at h t (by simp; omega)
    have h5 := get_at (d := d') rfl t (by omega)
    rw [List.getElem_take, ← h5.2, h3, h4.2]
    simp only [List.append_assoc]
    rw [List.getElem_append_left h2]
  have hy : d'.toList.drop b = y := by
    apply List.ext_getElem
    · simp; omega
    intro t h1 h2
    have h3 := p2 (b + t) (.inr (by omega))
    have h4 := get_at h (b + t) (by simp; omega)
    have h5 := get_at (d := d') rfl (b + t) (by omega)
    rw [List.getElem_drop, ← h5.2, h3, h4.2, List.getElem_append_right (by simp; omega)]
    congr 1
    simp; omega
  have e : d'.toList = x ++ (d'.toList.drop a).take (b - a) ++ y := by
    conv => lhs; rw [← List.take_append_drop a d'.toList, ← List.take_append_drop (b - a) (d'.toList.drop a)]
    rw [hx, List.drop_drop, show a + (b - a) = b by omega, hy, List.append_assoc]
  refine ⟨(d'.toList.drop a).take (b - a), e, by simp; omega, ?_, ?_⟩
  · rw [Rising, List.pairwise_iff_getElem]
    intro i j hi hj hij
    simp only [List.length_take, List.length_drop] at hi hj
    have h1 := hs (a + i) (a + j) (by omega) (by omega) (by omega)
    have h5 := get_at (d := d') rfl (a + i) (by omega)
    have h6 := get_at (d := d') rfl (a + j) (by omega)
    rw [h5.2, h6.2] at h1
    simp only [lessN, decide_eq_false_iff_not] at h1
    rw [List.getElem_take, List.getElem_take, List.getElem_drop, List.getElem_drop]
    grind
  · intro k
    have h1 := hst k
    rw [e, h] at h1
    simp only [List.filter_append] at h1
    exact List.append_cancel_left (List.append_cancel_right h1)

/-! Merging. -/
theorem rising_get {l : List Nt} (h : Rising l) {i j : Nat} (hj : j < l.length) (hij : i ≤ j) : (l[i]'(by omega)).key ≤ l[j].key := by
  by_cases e : i = j
  · subst e; grind
  · exact (List.pairwise_iff_getElem.1 h) i j (by omega) hj (by omega)
theorem rising_mem_take {l : List Nt} (h : Rising l) {n : Nat} (h0 : 0 < n) (hn : n ≤ l.length) : ∀ x ∈ l.take n, x.key ≤ (l[n - 1]'(by omega)).key := by
  intro x hx
  obtain ⟨i, hi, rfl⟩ := List.getElem_of_mem hx
  simp at hi
  rw [List.getElem_take]
  exact rising_get h (by omega) (by omega)
theorem rising_mem_drop {l : List Nt} (h : Rising l) {n : Nat} (hn : n < l.length) : ∀ x ∈ l.drop n, l[n].key ≤ x.key := by
  intro x hx
  obtain ⟨i, hi, rfl⟩ := List.getElem_of_mem hx
  simp at hi
  rw [List.getElem_drop]
  exact rising_get h (by omega) (by omega)
theorem rising_parts {l : List Nt} (h : Rising l) (n : Nat) : Rising (l.take n) ∧ Rising (l.drop n) ∧ ∀ x ∈ l.take n, ∀ y ∈ l.drop n, x.key ≤ y.key := by
  have h1 := h
  rw [← List.take_append_drop n l] at h1
  unfold Rising at h1
  rw [List.pairwise_append] at h1
  exact h1
theorem rising_join {a b : List Nt} (ha : Rising a) (hb : Rising b) (h : ∀ x ∈ a, ∀ y ∈ b, x.key ≤ y.key) : Rising (a ++ b) := by
  unfold Rising
  rw [List.pairwise_append]
  exact ⟨ha, hb, h⟩

/-- What the split of two rising lists in the middle comes to. -/
theorem sym_parts {u v : List Nt} (hu : Rising u) (hv : Rising v) {h st lo hi : Nat} (hst : st ≤ u.length) (hsh : st ≤ h) (hv1 : h - st ≤ v.length)
    (hlo : lo = 0 ∨ lo + v.length = h) (hhi : hi = h ∨ hi = u.length)
    (F1 : st = lo ∨ ∃ (h1 : st - 1 < u.length) (h2 : h - st < v.length), 0 < st ∧ ¬ v[h - st].key < u[st - 1].key)
    (F2 : st = hi ∨ ∃ (h1 : st < u.length) (h2 : h - 1 - st < v.length), st < h ∧ v[h - 1 - st].key < u[st].key) :
    (∀ x ∈ u.take st, ∀ y ∈ v.drop (h - st), x.key ≤ y.key) ∧ (∀ y ∈ v.take (h - st), ∀ x ∈ u.drop st, y.key < x.key) := by
  constructor
  · intro x hx y hy
    rcases F1 with F1 | ⟨h1, h2, h0, F1⟩
    · rcases hlo with hlo | hlo
      · have : st = 0 := by omega
        subst this; simp at hx
      · have : v.length ≤ h - st := by omega
        rw [List.drop_eq_nil_of_le this] at hy
        simp at hy
    · have a := rising_mem_take hu h0 hst x hx
      have b := rising_mem_drop hv h2 y hy
      grind
  · intro y hy x hx
    rcases F2 with F2 | ⟨h1, h2, h0, F2⟩
    · rcases hhi with hhi | hhi
      · have : h - st = 0 := by omega
        rw [this] at hy; simp at hy
      · have : st = u.length := by omega
        rw [this] at hx
        simp at hx
    · have a := rising_mem_drop hu h1 x hx
      have b := rising_mem_take hv (n := h - st) (by omega) hv1 y hy
      have e : v[h - st - 1]'(by omega) = v[h - 1 - st] := by congr 1; omega
      rw [e] at b
      grind

/-- A list that is what two rising ones are together, in order. -/
def Merged (s u v : List Nt) : Prop := s.length = u.length + v.length ∧ Rising s ∧ StEq s (u ++ v)
theorem Merged.left {u : List Nt} (h : Rising u) : Merged u u [] := ⟨by simp, h, by simpa using StEq.rfl' u⟩
theorem Merged.right {v : List Nt} (h : Rising v) : Merged v [] v := ⟨by simp, h, by simpa using StEq.rfl' v⟩
theorem merged_join {s1 s2 u1 u2 v1 v2 : List Nt} (h1 : Merged s1 u1 v1) (h2 : Merged s2 u2 v2) (hu : ∀ x ∈ u1, ∀ y ∈ u2, x.key ≤ y.key) (hv : ∀ x ∈ v1, ∀ y ∈ v2, x.key ≤ y.key)
    (huv : ∀ x ∈ u1, ∀ y ∈ v2, x.key ≤ y.key) (hvu : ∀ y ∈ v1, ∀ x ∈ u2, y.key < x.key) : Merged (s1 ++ s2) (u1 ++ u2) (v1 ++ v2) := by
  obtain ⟨a1, b1, c1⟩ := h1
  obtain ⟨a2, b2, c2⟩ := h2
  refine ⟨by simp; omega, rising_join b1 b2 fun x hx y hy => ?_, ?_⟩
  · have hx2 := c1.mem hx
    have hy2 := c2.mem hy
    rw [List.mem_append] at hx2 hy2
    rcases hx2 with hx2 | hx2 <;> rcases hy2 with hy2 | hy2
    · exact hu x hx2 y hy2
    · exact huv x hx2 y hy2
    · have := hvu x hx2 y hy2; grind
    · exact hv x hx2 y hy2
  · have e1 : StEq (s1 ++ s2) (u1 ++ (v1 ++ u2) ++ v2) := by have := c1.app c2; simpa [List.append_assoc] using this
    have e2 : StEq (u1 ++ (v1 ++ u2) ++ v2) (u1 ++ (u2 ++ v1) ++ v2) := ((StEq.rfl' u1).app (StEq.swap fun x hx y hy e => by have := hvu x hx y hy; grind)).app (StEq.rfl' v2)
    have := e1.trans e2
    simpa [List.append_assoc] using this

/-! Blocks. -/
def Bs (n : Nat) (l : List Nt) : Prop := ∀ c : Nat, Rising ((l.drop (c * n)).take n)
def Pre (n : Nat) (x : List Nt) : Prop := ∀ y, Bs n y → Bs n (x ++ y)
theorem Pre.nil (n : Nat) : Pre n [] := fun _ h => h
theorem Bs.cons {n : Nat} {s y : List Nt} (hs : Rising s) (hl : s.length = n) (h : Bs n y) : Bs n (s ++ y) := by
  intro c
  cases c with
  | zero => rw [Nat.zero_mul, List.drop_zero, List.take_append_of_le_length (by omega), List.take_of_length_le (by omega)]; exact hs
  | succ c =>
    have e : (c + 1) * n = s.length + c * n := by rw [hl, Nat.add_mul]; omega
    rw [e, ← List.drop_drop, List.drop_left]
    exact h c
theorem Pre.snoc {n : Nat} {x s : List Nt} (h : Pre n x) (hs : Rising s) (hl : s.length = n) : Pre n (x ++ s) := fun y hy => by
  rw [List.append_assoc]
  exact h _ (Bs.cons hs hl hy)
theorem Bs.one {n : Nat} {s : List Nt} (hs : Rising s) (hl : s.length ≤ n) : Bs n s := by
  intro c
  exact hs.sublist ((List.take_sublist _ _).trans (List.drop_sublist _ _))
theorem Bs.first {n : Nat} {l : List Nt} (h : Bs n l) : Rising (l.take n) ∧ Bs n (l.drop n) := by
  constructor
  · have := h 0
    simpa using this
  · intro c
    have := h (c + 1)
    rwa [Nat.add_mul, Nat.one_mul, Nat.add_comm, ← List.drop_drop] at this
theorem Bs.all {n : Nat} {l : List Nt} (h : Bs n l) (hl : l.length ≤ n) : Rising l := by
  have := h.first.1
  rwa [List.take_of_length_le hl] at this

end Go.Proofs.Ytgpjbajfkagdbaa

namespace Go.Proofs.Ytgpjbajfkagdbaa
open Go.Shelf Go.RowKit Go.Lib Go.Sort

/-- What a program bears, and what its types are. -/
structure Lk (P : Program) (k : Nat) : Prop where
  mixed : P.follows .mixedOrders = true
  f57 : P.funcs[88]? = some Try.f88
  f56 : P.funcs[87]? = some Try.f87
  f50 : P.funcs[83]? = some Try.f83
  t0 : P.underlying 0 = some (TypeDesc.tuple #[])
  a0 : ∀ w, (isAgg 0).run P w = .ok false w
  z0 : ∀ w, (Go.sizeOf 0).run P w = .ok 1 w
  v0 : ∀ w, (zeroValue 0).run P w = .ok (Value.tuple #[]) w
  t3 : P.underlying 3 = some (TypeDesc.int IntKind.i64)
  a3 : ∀ w, (isAgg 3).run P w = .ok false w
  z3 : ∀ w, (Go.sizeOf 3).run P w = .ok 1 w
  v3 : ∀ w, (zeroValue 3).run P w = .ok (Value.int IntKind.i64 0) w
  t4 : P.underlying 4 = some (TypeDesc.bool)
  a4 : ∀ w, (isAgg 4).run P w = .ok false w
  z4 : ∀ w, (Go.sizeOf 4).run P w = .ok 1 w
  v4 : ∀ w, (zeroValue 4).run P w = .ok (Value.bool false) w
  t23 : P.underlying 45 = some (TypeDesc.slice 48)
  a23 : ∀ w, (isAgg 45).run P w = .ok false w
  z23 : ∀ w, (Go.sizeOf 45).run P w = .ok 1 w
  v23 : ∀ w, (zeroValue 45).run P w = .ok (Value.slice none 0 0) w
  a46 : ∀ w, (isAgg 48).run P w = .ok true w
  z46 : ∀ w, (Go.sizeOf 48).run P w = .ok k w
  t62 : P.underlying 120 = some (TypeDesc.func #[48, 48] #[3] false)
  a62 : ∀ w, (isAgg 120).run P w = .ok false w
  z62 : ∀ w, (Go.sizeOf 120).run P w = .ok 1 w
  v62 : ∀ w, (zeroValue 120).run P w = .ok (Value.nilFunc) w
  t71 : P.underlying 114 = some (TypeDesc.int IntKind.u64)
  a71 : ∀ w, (isAgg 114).run P w = .ok false w
  z71 : ∀ w, (Go.sizeOf 114).run P w = .ok 1 w
  v71 : ∀ w, (zeroValue 114).run P w = .ok (Value.int IntKind.u64 0) w

/-- What the sort is told, once. -/
structure SCtx (P : Program) (k : Nat) (enc : Nt → List Value) (w0 : World) (blk off : Nat) (d0 : Array Nt) (g : Nat) (cb : Array Value) (cf : Nt → Nt → Int) : Prop where
  L : Lk P k
  R : RowK enc k w0 blk off d0
  hN : d0.size < 1152921504606846976
  eg : ∀ args w, (callFunc g args).run P w = .ok (.enter g args) w
  hcmp : CmpLays P g cb enc k cf blk off d0.size w0
  hcf : ∀ x y, cf x y < 0 ↔ x.key < y.key

variable {P : Program} {k : Nat} {enc : Nt → List Value} {w0 : World} {blk off : Nat} {d0 : Array Nt} {g : Nat} {cb : Array Value} {cf : Nt → Nt → Int}

set_option maxHeartbeats 4000000 in
set_option maxRecDepth 1000000 in
theorem swapRange_any (C : SCtx P k enc w0 blk off d0 g cb cf) (cap a b n : Nat) (x p q r y : List Nt) (dk : Array Nt) (W : World) (h : SWK enc k w0 blk off dk W) (hd : dk.toList = x ++ p ++ q ++ r ++ y)
    (ha : x.length = a) (hb : x.length + p.length + q.length = b) (hp : p.length = n) (hr : r.length = n) (hs : dk.size = d0.size) :
    Calls P 88 #[.slice (some ⟨blk, off, none⟩) d0.size cap, .int .i64 a, .int .i64 b, .int .i64 n, .func (.func g) #[] cb] W fun e w' => e = .returned (.tuple #[]) ∧ ∃ dk' : Array Nt, dk'.toList = x ++ r ++ q ++ p ++ y ∧ dk'.size = d0.size ∧ SWK enc k w0 blk off dk' w' := by
  have mixed := C.L.mixed; have t0 := C.L.t0; have a0 := C.L.a0; have z0 := C.L.z0; have v0 := C.L.v0; have t3 := C.L.t3; have a3 := C.L.a3; have z3 := C.L.z3; have v3 := C.L.v3; have t4 := C.L.t4; have a4 := C.L.a4; have z4 := C.L.z4; have v4 := C.L.v4
  have t23 := C.L.t23; have a23 := C.L.a23; have z23 := C.L.z23; have v23 := C.L.v23; have a46 := C.L.a46; have z46 := C.L.z46; have t62 := C.L.t62; have a62 := C.L.a62; have z62 := C.L.z62; have v62 := C.L.v62
  have u23 := run_underlying C.L.t23
  have F := C.L.f57
  have hsz : x.length + p.length + q.length + r.length + y.length = d0.size := by have h1 := congrArg List.length hd; simp at h1; omega
  have hN := C.hN
  have HC := Lib.hid C
  generalize hNe : d0.size = N at *
  have HD := Lib.hid hd
  have HS := Lib.hid h
  have HNE := Lib.hid hNe
  have HZ := Lib.hid hs
  clear C h hd hNe hs
  go_enter F, Try.ntmps88
  go_wp2
  go_loopw [10] (fun iv wr => ∃ (i : Nat) (dj : Array Nt), iv = .int .i64 i ∧ i ≤ n ∧ Hid (dj.toList = x ++ (r.take i ++ p.drop i) ++ q ++ (p.take i ++ r.drop i) ++ y) ∧ Hid (dj.size = N) ∧ Hid (SWK enc k w0 blk off dj wr)) (fun iv _ => (n - intOf iv).toNat)
  case atStart => exact ⟨0, dk, rfl, by omega, by show _ = _; rw [HD.out]; simp, HZ.out, HS.out⟩
  case round =>
    obtain ⟨i, dj, rfl, hi, HL, HJ, HW⟩ := hrel
    by_cases hlt : i < n
    · obtain ⟨s, hse⟩ : ∃ s, s = a + i := ⟨_, rfl⟩
      obtain ⟨t, hte⟩ : ∃ t, t = b + i := ⟨_, rfl⟩
      have ws : IntKind.i64.wrap ((a : Int) + (i : Int)) = (s : Int) := by rw [IntKind.wrap_i64]; omega
      have wt : IntKind.i64.wrap ((b : Int) + (i : Int)) = (t : Int) := by rw [IntKind.wrap_i64]; omega
      have s1 : (s : Int) < (N : Int) := by omega
      have t1 : (t : Int) < (N : Int) := by omega
      have e1 : dj.toList = (x ++ r.take i) ++ p[i]'(by omega) :: ((p.drop (i + 1) ++ q ++ p.take i) ++ r[i]'(by omega) :: (r.drop (i + 1) ++ y)) := by
        rw [HL.out, take_drop1 p i (by omega), take_drop1 r i (by omega)]
        simp only [List.append_assoc, List.cons_append, List.nil_append]
      have hsl : (x ++ r.take i).length = s := by simp; omega
      have htl : (x ++ r.take i).length + 1 + (p.drop (i + 1) ++ q ++ p.take i).length = t := by simp; omega
      have hsw := swp_list e1 hsl htl
      have hsd : s < dj.size := by rw [HJ.out]; omega
      have htd : t < dj.size := by rw [HJ.out]; omega
      have hjd : dj.size = d0.size := by rw [HJ.out, HNE.out]
      have lt1 := HW.out.ld1 HC.out.R hjd P t htd
      have ls1 := HW.out.ld1 HC.out.R hjd P s hsd
      have st1 := HW.out.st1 HC.out.R hjd P s hsd dj[t]!
      have st2 := HW.out.st2 HC.out.R hjd P s t hsd htd dj[t]! dj[s]!
      have hend := Lib.hid (HW.out.swapped HC.out.R s t hsd htd)
      have hkS : (enc dj[s]!).length = k := HC.out.R.hk _
      have hkT : (enc dj[t]!).length = k := HC.out.R.hk _
      have HN2 := Lib.hid (show (swp dj s t).toList = x ++ (r.take (i + 1) ++ p.drop (i + 1)) ++ q ++ (p.take (i + 1) ++ r.drop (i + 1)) ++ y by
        rw [hsw, take_snoc1 p i (by omega), take_snoc1 r i (by omega)]; simp only [List.append_assoc, List.cons_append, List.nil_append])
      have HSZ := Lib.hid (show (swp dj s t).size = N by rw [size_swp]; exact HJ.out)
      generalize enc dj[s]! = cS at *
      generalize enc dj[t]! = cT at *
      generalize swp dj s t = dn at *
      have HSE := Lib.hid hse
      have HTE := Lib.hid hte
      clear e1 hsw hsd htd hjd hsl htl hse hte
      go_wp2_with fail
      go_big_region_o
      all_goals go_wp2
      go_roundw
      case rel => exact ⟨i + 1, dn, by go_num, by omega, HN2, HSZ, hend⟩
      case measure => simp [intOf]; omega
    · have hin : i = n := by omega
      have HE := Lib.hid (show dj.toList = x ++ r ++ q ++ p ++ y by
        rw [HL.out, hin, List.take_of_length_le (by omega), List.drop_eq_nil_of_le (by omega), List.take_of_length_le (by omega), List.drop_eq_nil_of_le (by omega)]; simp [List.append_assoc])
      clear hin
      go_wp2
      go_end0
      exact ⟨rfl, dj, HE.out, HJ.out, HW.out⟩

set_option maxHeartbeats 4000000 in
set_option maxRecDepth 1000000 in
theorem rotate_any (C : SCtx P k enc w0 blk off d0 g cb cf) (cap a m b : Nat) (x u v y : List Nt) (dk : Array Nt) (W : World) (h : SWK enc k w0 blk off dk W) (hd : dk.toList = x ++ u ++ v ++ y)
    (ha : x.length = a) (hm : x.length + u.length = m) (hb : x.length + u.length + v.length = b) (hu : 0 < u.length) (hv : 0 < v.length) (hs : dk.size = d0.size) :
    Calls P 87 #[.slice (some ⟨blk, off, none⟩) d0.size cap, .int .i64 a, .int .i64 m, .int .i64 b, .func (.func g) #[] cb] W fun e w' => e = .returned (.tuple #[]) ∧ ∃ dk' : Array Nt, dk'.toList = x ++ v ++ u ++ y ∧ dk'.size = d0.size ∧ SWK enc k w0 blk off dk' w' := by
  have mixed := C.L.mixed; have t0 := C.L.t0; have a0 := C.L.a0; have z0 := C.L.z0; have v0 := C.L.v0; have t3 := C.L.t3; have a3 := C.L.a3; have z3 := C.L.z3; have v3 := C.L.v3; have t4 := C.L.t4; have a4 := C.L.a4; have z4 := C.L.z4; have v4 := C.L.v4
  have t23 := C.L.t23; have a23 := C.L.a23; have z23 := C.L.z23; have v23 := C.L.v23; have t62 := C.L.t62; have a62 := C.L.a62; have z62 := C.L.z62; have v62 := C.L.v62
  have e57 : ∀ args w, (callFunc 88 args).run P w = .ok (.enter 88 args) w := enters_of C.L.f57 (by kernel_rfl) rfl
  have F := C.L.f56
  have hsz : x.length + u.length + v.length + y.length = d0.size := by have h1 := congrArg List.length hd; simp at h1; omega
  have hN := C.hN
  have hsr := fun (a b n : Nat) (x p q r y : List Nt) (dk : Array Nt) (W : World) h hd ha hb hp hr hs => swapRange_any C cap a b n x p q r y dk W h hd ha hb hp hr hs
  have HSR := Lib.hid hsr
  have HD := Lib.hid hd
  have HS := Lib.hid h
  have HZ := Lib.hid hs
  clear C h hd hs hsr
  generalize d0.size = N at *
  go_enter F, Try.ntmps87
  go_wp2
  go_loopw [10, 11] (fun iv jv wr => ∃ (i j : Nat) (dj : Array Nt) (x' u' v' y' : List Nt), iv = .int .i64 i ∧ jv = .int .i64 j ∧ u'.length = i ∧ v'.length = j ∧ 0 < i ∧ 0 < j ∧ x'.length + i = m ∧ x'.length + i + j + y'.length = N ∧ Hid (dj.toList = x' ++ u' ++ v' ++ y') ∧ Hid (x' ++ v' ++ u' ++ y' = x ++ v ++ u ++ y) ∧ Hid (dj.size = N) ∧ Hid (SWK enc k w0 blk off dj wr)) (fun iv jv _ => (intOf iv + intOf jv).toNat)
  case atStart => exact ⟨u.length, v.length, dk, x, u, v, y, by first | rfl | go_num | (congr 1; omega), by first | rfl | go_num | (congr 1; omega), rfl, rfl, hu, hv, hm, by omega, HD.out, rfl, HZ.out, HS.out⟩
  case round =>
    obtain ⟨i, j, dj, x', u', v', y', rfl, rfl, hui, hvj, hi, hj, hxm, hxN, HL, HF, HJ, HW⟩ := hrel
    by_cases hij : i = j
    · have hne : ((i : Int) != (j : Int)) = false := by simp; omega
      have hc := HSR.out (m - i) m i x' u' [] v' y' dj _ HW.out (by rw [HL.out]; simp) (by omega) (by simp; omega) hui (by omega) HJ.out
      have wm : IntKind.i64.wrap ((m : Int) - (i : Int)) = ((m - i : Nat) : Int) := by rw [IntKind.wrap_i64]; omega
      obtain ⟨s, hse⟩ : ∃ s, s = m - i := ⟨_, rfl⟩
      rw [← hse] at hc wm
      have HSE := Lib.hid hse
      clear hse hij
      go_wp2_with fail
      refine hc.mono ?_
      rintro e w1 ⟨rfl, dn, hl, hz, hS⟩
      go_wp2
      go_end0
      exact ⟨rfl, dn, by rw [hl]; simpa using HF.out, hz, hS⟩
    · have hne : ((i : Int) != (j : Int)) = true := by simp; omega
      by_cases hgt : j < i
      · have hc := HSR.out (m - i) m j x' (u'.take j) (u'.drop j) v' y' dj _ HW.out (by rw [HL.out]; simp [List.append_assoc]) (by omega) (by simp; omega) (by simp; omega) (by omega) HJ.out
        have wm : IntKind.i64.wrap ((m : Int) - (i : Int)) = ((m - i : Nat) : Int) := by rw [IntKind.wrap_i64]; omega
        have wi : IntKind.i64.wrap ((i : Int) - (j : Int)) = ((i - j : Nat) : Int) := by rw [IntKind.wrap_i64]; omega
        obtain ⟨s, hse⟩ : ∃ s, s = m - i := ⟨_, rfl⟩
        obtain ⟨r, hre⟩ : ∃ r, r = i - j := ⟨_, rfl⟩
        rw [← hse] at hc wm
        rw [← hre] at wi
        have HSE := Lib.hid hse
        have HRE := Lib.hid hre
        clear hse hre hij
        go_wp2_with fail
        refine hc.mono ?_
        rintro e w1 ⟨rfl, dn, hl, hz, hS⟩
        have HL1 := Lib.hid hl
        have HZ1 := Lib.hid hz
        have HS1 := Lib.hid hS
        clear hl hz hS hc
        go_wp2
        go_roundw
        case rel => exact ⟨r, j, dn, x' ++ v', u'.drop j, u'.take j, y', by first | rfl | go_num | (congr 1; omega), rfl, by simp; have := HRE.out; omega, by simp; omega, by have := HRE.out; omega, hj, by simp; have := HRE.out; omega, by simp; have := HRE.out; omega, HL1.out, by show _ = _; rw [← HF.out]; simp [List.append_assoc], HZ1.out, HS1.out⟩
        case measure => have := HRE.out; simp [intOf]; omega
      · have hlt : i < j := by omega
        have hc := HSR.out (m - i) (m + j - i) i x' u' (v'.take (j - i)) (v'.drop (j - i)) y' dj _ HW.out (by rw [HL.out]; simp [List.append_assoc]) (by omega) (by simp; omega) hui (by simp; omega) HJ.out
        have wm : IntKind.i64.wrap ((m : Int) - (i : Int)) = ((m - i : Nat) : Int) := by rw [IntKind.wrap_i64]; omega
        have wj : IntKind.i64.wrap ((j : Int) - (i : Int)) = ((j - i : Nat) : Int) := by rw [IntKind.wrap_i64]; omega
        have w1' : IntKind.i64.wrap ((m : Int) + (j : Int)) = ((m + j : Nat) : Int) := by rw [IntKind.wrap_i64]; omega
        have w2' : IntKind.i64.wrap (((m + j : Nat) : Int) - (i : Int)) = ((m + j - i : Nat) : Int) := by rw [IntKind.wrap_i64]; omega
        obtain ⟨s, hse⟩ : ∃ s, s = m - i := ⟨_, rfl⟩
        obtain ⟨r, hre⟩ : ∃ r, r = j - i := ⟨_, rfl⟩
        obtain ⟨t, hte⟩ : ∃ t, t = m + j - i := ⟨_, rfl⟩
        obtain ⟨q, hqe⟩ : ∃ q, q = m + j := ⟨_, rfl⟩
        rw [← hse] at hc wm
        rw [← hre] at wj
        rw [← hte] at hc w2'
        rw [← hqe] at w1' w2'
        have HSE := Lib.hid hse
        have HRE := Lib.hid hre
        have HTE := Lib.hid hte
        have HQE := Lib.hid hqe
        clear hse hre hij hte hqe
        go_wp2_with fail
        refine hc.mono ?_
        rintro e w1 ⟨rfl, dn, hl, hz, hS⟩
        have HL1 := Lib.hid hl
        have HZ1 := Lib.hid hz
        have HS1 := Lib.hid hS
        clear hl hz hS hc
        go_wp2
        go_roundw
        case rel => exact ⟨i, r, dn, x', v'.drop (j - i), v'.take (j - i), u' ++ y', rfl, by first | rfl | go_num | (congr 1; omega), by simp; omega, by simp; have := HRE.out; omega, hi, by have := HRE.out; omega, hxm, by simp; have := HRE.out; omega, by show _ = _; rw [HL1.out]; simp [List.append_assoc], by show _ = _; rw [← HF.out]; simp [List.append_assoc], HZ1.out, HS1.out⟩
        case measure => have := HRE.out; simp [intOf]; omega

/-- What a merge hands back. -/
def MPost (enc : Nt → List Value) (k : Nat) (w0 : World) (blk off : Nat) (d0 : Array Nt) (x u v y : List Nt) (e : Ending) (w' : World) : Prop :=
  e = .returned (.tuple #[]) ∧ ∃ (dk' : Array Nt) (s : List Nt), dk'.toList = x ++ s ++ y ∧ Merged s u v ∧ dk'.size = d0.size ∧ SWK enc k w0 blk off dk' w'

end Go.Proofs.Ytgpjbajfkagdbaa

namespace Go.Proofs.Ytgpjbajfkagdbaa
open Go.Shelf Go.RowKit Go.Lib Go.Sort

variable {P : Program} {k : Nat} {enc : Nt → List Value} {w0 : World} {blk off : Nat} {d0 : Array Nt} {g : Nat} {cb : Array Value} {cf : Nt → Nt → Int}

set_option maxHeartbeats 4000000 in
set_option maxRecDepth 1000000 in
theorem sym_left (C : SCtx P k enc w0 blk off d0 g cb cf) (cap a m b : Nat) (x v y : List Nt) (e0 : Nt) (dk : Array Nt) (W : World) (h : SWK enc k w0 blk off dk W) (hd : dk.toList = x ++ [e0] ++ v ++ y)
    (ha : x.length = a) (hm : a + 1 = m) (hb : m + v.length = b) (hv : Rising v) (hs : dk.size = d0.size) :
    Calls P 83 #[.slice (some ⟨blk, off, none⟩) d0.size cap, .int .i64 a, .int .i64 m, .int .i64 b, .func (.func g) #[] cb] W (MPost enc k w0 blk off d0 x [e0] v y) := by
  have mixed := C.L.mixed; have t0 := C.L.t0; have a0 := C.L.a0; have z0 := C.L.z0; have v0 := C.L.v0; have t3 := C.L.t3; have a3 := C.L.a3; have z3 := C.L.z3; have v3 := C.L.v3; have t4 := C.L.t4; have a4 := C.L.a4; have z4 := C.L.z4; have v4 := C.L.v4
  have t23 := C.L.t23; have a23 := C.L.a23; have z23 := C.L.z23; have v23 := C.L.v23; have a46 := C.L.a46; have z46 := C.L.z46; have t62 := C.L.t62; have a62 := C.L.a62; have z62 := C.L.z62; have v62 := C.L.v62; have t71 := C.L.t71; have a71 := C.L.a71; have z71 := C.L.z71; have v71 := C.L.v71
  have u23 := run_underlying C.L.t23; have u3 := run_underlying C.L.t3; have u71 := run_underlying C.L.t71
  have eg := C.eg
  have F := C.L.f50
  have hsz : a + 1 + v.length + y.length = d0.size := by have h1 := congrArg List.length hd; simp at h1; omega
  have hN := C.hN
  have wm : IntKind.i64.wrap ((m : Int) - (a : Int)) = 1 := by rw [IntKind.wrap_i64]; omega
  have HC := Lib.hid C
  have HV := Lib.hid hv
  unfold MPost
  generalize hNe : d0.size = N at *
  have HD := Lib.hid hd
  have HS := Lib.hid h
  have HNE := Lib.hid hNe
  have HZ := Lib.hid (hs.trans hNe.symm)
  have ea : dk[a]! = e0 := (get_list (A := x) (B := v ++ y) (e := e0) (by rw [hd]; simp) ha).2
  have hav := Lib.hid (show ∀ i (h : i < v.length), dk[m + i]! = v[i] from fun i h => by
    have := (get_at (d := dk) hd (m + i) (by simp; omega)).2
    rw [this, List.getElem_append_left (by simp; omega), List.getElem_append_right (by simp; omega)]
    congr 1
    simp; omega)
  have HEA := Lib.hid ea
  clear C h hd hNe hs hv ea
  go_enter F, Try.ntmps83
  go_wp2
  go_loopw [10, 11] (fun iv jv wr => ∃ (i j : Nat), iv = .int .i64 i ∧ jv = .int .i64 j ∧ m ≤ i ∧ i ≤ j ∧ j ≤ b ∧ Hid (i = m ∨ ∃ h : i - m - 1 < v.length, m < i ∧ v[i - m - 1].key < e0.key) ∧ Hid (j = b ∨ ∃ h : j - m < v.length, ¬ v[j - m].key < e0.key) ∧ Hid (SWK enc k w0 blk off dk wr)) (fun iv jv _ => (intOf jv - intOf iv).toNat)
  case atStart => exact ⟨m, b, rfl, rfl, by omega, by omega, by omega, .inl rfl, .inl rfl, HS.out⟩
  case round =>
    obtain ⟨i, j, rfl, rfl, hmi, hij, hjb, HI, HJ, HW⟩ := hrel
    by_cases hlt : i < j
    · have hh1 : (i + j) / 2 < d0.size := by rw [HNE.out]; omega
      have hjd : dk.size = d0.size := by rw [HZ.out]
      have lh := fun n os => HW.out.ld HC.out.R hjd P ((i + j) / 2) (by rw [hjd]; exact hh1) n os
      have la := fun n os => HW.out.ld HC.out.R hjd P a (by rw [hjd, HNE.out]; omega) n os
      have hcg := fun n os => HW.out.cmp HC.out.hcmp hjd dk[(i + j) / 2]! dk[a]! n os
      have hgr := Lib.hid (fun n os => HW.out.grown n os)
      obtain ⟨h', hh'⟩ : ∃ h', h' = (i + j) / 2 := ⟨_, rfl⟩
      have hvh := hav.out (h' - m) (by omega)
      rw [show m + (h' - m) = h' by omega] at hvh
      rw [HEA.out] at la hcg
      have hx1 : h' - m < v.length := by omega
      obtain ⟨eh, heh⟩ : ∃ e, e = v[h' - m]'hx1 := ⟨_, rfl⟩
      rw [← hh', hvh, ← heh] at lh hcg
      have hb1 : (h' : Int) < (N : Int) := by omega
      have hb2 : (a : Int) < (N : Int) := by omega
      have wh : ((i : Int) + (j : Int)) / 2 = (h' : Int) := by omega
      generalize dk[a]! = ea at *
      have HH := Lib.hid hh'
      have HVH := Lib.hid heh.symm
      clear hh' hvh hh1 hjd heh
      by_cases hl : cf eh e0 < 0
      · have hke := (HC.out.hcf eh e0).1 hl
        have HX : ∃ h : h' + 1 - m - 1 < v.length, v[h' + 1 - m - 1].key < e0.key := ⟨by omega, by
          have e1 : v[h' + 1 - m - 1]'(by omega) = v[h' - m]'(by omega) := by congr 1; omega
          rw [e1, HVH.out]; exact hke⟩
        have HXX := Lib.hid HX
        clear hke HX
        go_wp2_with fail
        go_quiet_grown (first | (go_at_fn g; refine Calls.grown_of (hcg _ _)))
        go_wp2
        go_roundw
        case rel => exact ⟨h' + 1, j, by go_num, rfl, by omega, by omega, by omega, .inr (by obtain ⟨h1, h2⟩ := HXX.out; exact ⟨h1, by omega, h2⟩), HJ, hgr.out nq osq⟩
        case measure => simp [intOf]; omega
      · have hke : ¬ eh.key < e0.key := fun h => hl ((HC.out.hcf eh e0).2 h)
        have HX := Lib.hid (show ∃ h : h' - m < v.length, ¬ v[h' - m].key < e0.key from ⟨by omega, by rw [HVH.out]; exact hke⟩)
        clear hke
        go_wp2_with fail
        go_quiet_grown (first | (go_at_fn g; refine Calls.grown_of (hcg _ _)))
        go_wp2
        go_roundw
        case rel => exact ⟨i, h', rfl, by go_num, by omega, by omega, by omega, HI, .inr HX.out, hgr.out nq osq⟩
        case measure => simp [intOf]; omega
    · obtain rfl : i = j := by omega
      obtain ⟨c, hc⟩ : ∃ c, c = i - m := ⟨_, rfl⟩
      have hcv : c ≤ v.length := by omega
      have B1 := Lib.hid (show ∀ z ∈ v.take c, z.key < e0.key from fun z hz => by
        rcases HI.out with h1 | ⟨h1, h2, h3⟩
        · have : c = 0 := by omega
          subst this; simp at hz
        · have h4 := rising_mem_take HV.out (n := c) (by omega) hcv z hz
          have e1 : v[c - 1]'(by omega) = v[i - m - 1] := by congr 1; omega
          rw [e1] at h4
          grind)
      have B2 := Lib.hid (show ∀ z ∈ v.drop c, e0.key ≤ z.key from fun z hz => by
        rcases HJ.out with h1 | ⟨h1, h2⟩
        · rw [List.drop_eq_nil_of_le (by omega)] at hz
          simp at hz
        · have h4 := rising_mem_drop HV.out (n := c) (by omega) z hz
          have e1 : v[c]'(by omega) = v[i - m] := by congr 1
          rw [e1] at h4
          grind)
      have hi1 : IntKind.i64.wrap ((i : Int) - 1) = ((a + c : Nat) : Int) := by rw [IntKind.wrap_i64]; omega
      have hac : a + c < N := by omega
      obtain ⟨ac, hac2⟩ : ∃ ac, ac = a + c := ⟨_, rfl⟩
      rw [← hac2] at hi1 hac
      clear HI HJ
      go_wp2
      go_loopw [13] (fun kv wr => ∃ (q : Nat) (dj : Array Nt), kv = .int .i64 q ∧ a ≤ q ∧ q ≤ ac ∧ Hid (dj.toList = x ++ (v.take c).take (q - a) ++ e0 :: ((v.take c).drop (q - a) ++ v.drop c ++ y)) ∧ Hid (dj.size = N) ∧ Hid (SWK enc k w0 blk off dj wr)) (fun kv _ => (ac - intOf kv).toNat)
      case atStart => exact ⟨a, dk, rfl, by omega, by omega, by show _ = _; rw [HD.out]; simp, HZ.out.trans HNE.out, HW⟩
      case round =>
        obtain ⟨q, dj, rfl, haq, hqa, HL, HJ, HW⟩ := hrel
        by_cases hlt2 : q < ac
        · have e1 : dj.toList = (x ++ (v.take c).take (q - a)) ++ e0 :: ([] ++ (v.take c)[q - a]'(by simp; omega) :: ((v.take c).drop (q - a + 1) ++ v.drop c ++ y)) := by
            rw [HL.out, take_drop1 (v.take c) (q - a) (by simp; omega)]
            simp only [List.append_assoc, List.cons_append, List.nil_append]
          have hql : (x ++ (v.take c).take (q - a)).length = q := by simp; omega
          have hsw := swp_list e1 (j := q + 1) hql (by rw [hql]; simp)
          have hsd : q < dj.size := by rw [HJ.out]; omega
          have htd : q + 1 < dj.size := by rw [HJ.out]; omega
          have hjd : dj.size = d0.size := by rw [HJ.out, HNE.out]
          have lt1 := HW.out.ld1 HC.out.R hjd P (q + 1) htd
          have ls1 := HW.out.ld1 HC.out.R hjd P q hsd
          have st1 := HW.out.st1 HC.out.R hjd P q hsd dj[q + 1]!
          have st2 := HW.out.st2 HC.out.R hjd P q (q + 1) hsd htd dj[q + 1]! dj[q]!
          have hend := Lib.hid (HW.out.swapped HC.out.R q (q + 1) hsd htd)
          have hkS : (enc dj[q]!).length = k := HC.out.R.hk _
          have hkT : (enc dj[q + 1]!).length = k := HC.out.R.hk _
          have HN2 := Lib.hid (show (swp dj q (q + 1)).toList = x ++ (v.take c).take (q + 1 - a) ++ e0 :: ((v.take c).drop (q + 1 - a) ++ v.drop c ++ y) by
            rw [hsw, show q + 1 - a = q - a + 1 by omega, take_snoc1 (v.take c) (q - a) (by simp; omega)]; simp only [List.append_assoc, List.cons_append, List.nil_append])
          have HSZ := Lib.hid (show (swp dj q (q + 1)).size = N by rw [size_swp]; exact HJ.out)
          have q1 : (q : Int) < (N : Int) := by omega
          have q2 : (q : Int) + 1 < (N : Int) := by omega
          obtain ⟨t, hte⟩ : ∃ t, t = q + 1 := ⟨_, rfl⟩
          have wt : IntKind.i64.wrap ((q : Int) + 1) = (t : Int) := by rw [IntKind.wrap_i64]; omega
          have q3 : (t : Int) < (N : Int) := by omega
          rw [← hte] at lt1 st1 st2 hend hkT HN2 HSZ
          generalize enc dj[q]! = cS at *
          generalize enc dj[t]! = cT at *
          generalize swp dj q t = dn at *
          have HTE := Lib.hid hte
          have HAC := Lib.hid hac2
          have HCC := Lib.hid hc
          clear e1 hsw hsd htd hjd hql hte hac2 hc
          go_wp2_with fail
          go_big_region_o
          all_goals go_wp2
          go_roundw
          case rel => exact ⟨t, dn, by first | rfl | go_num | (congr 1; omega), by have := HTE.out; omega, by have := HTE.out; omega, HN2, HSZ, hend⟩
          case measure => have := HTE.out; simp [intOf]; omega
        · have hqe : q - a = c := by omega
          have HE := Lib.hid (show dj.toList = x ++ (v.take c ++ e0 :: v.drop c) ++ y by
            rw [HL.out, hqe, List.take_of_length_le (by simp; omega), List.drop_eq_nil_of_le (by simp; omega)]; simp only [List.append_assoc, List.cons_append, List.nil_append])
          have HM := Lib.hid (show Merged (v.take c ++ e0 :: v.drop c) [e0] v from by
            have hp := rising_parts HV.out c
            have h1 := merged_join (s1 := v.take c) (s2 := e0 :: v.drop c) (u1 := []) (u2 := [e0]) (v1 := v.take c) (v2 := v.drop c) (Merged.right hp.1)
              ⟨by simp; omega, by show List.Pairwise _ _; rw [List.pairwise_cons]; exact ⟨B2.out, hp.2.1⟩, StEq.rfl' _⟩ (by simp) hp.2.2 (by simp) (fun y hy x hx => by simp at hx; subst hx; exact B1.out y hy)
            simpa using h1)
          clear hqe
          go_wp2
          (try simp only [Exit.inBlock, Exit.then]); refine bodyPost_ret (results_none rfl _ _ _) rfl ?_
          exact ⟨rfl, dj, _, HE.out, HM.out, HJ.out, HW.out⟩

end Go.Proofs.Ytgpjbajfkagdbaa

namespace Go.Proofs.Ytgpjbajfkagdbaa
open Go.Shelf Go.RowKit Go.Lib Go.Sort

variable {P : Program} {k : Nat} {enc : Nt → List Value} {w0 : World} {blk off : Nat} {d0 : Array Nt} {g : Nat} {cb : Array Value} {cf : Nt → Nt → Int}


set_option maxHeartbeats 4000000 in
set_option maxRecDepth 1000000 in
theorem sym_right (C : SCtx P k enc w0 blk off d0 g cb cf) (cap a m b : Nat) (x u y : List Nt) (e0 : Nt) (dk : Array Nt) (W : World) (h : SWK enc k w0 blk off dk W) (hd : dk.toList = x ++ u ++ [e0] ++ y)
    (ha : x.length = a) (hm : a + u.length = m) (hb : m + 1 = b) (hu1 : u.length ≠ 1) (hu : Rising u) (hs : dk.size = d0.size) :
    Calls P 83 #[.slice (some ⟨blk, off, none⟩) d0.size cap, .int .i64 a, .int .i64 m, .int .i64 b, .func (.func g) #[] cb] W (MPost enc k w0 blk off d0 x u [e0] y) := by
  have mixed := C.L.mixed; have t0 := C.L.t0; have a0 := C.L.a0; have z0 := C.L.z0; have v0 := C.L.v0; have t3 := C.L.t3; have a3 := C.L.a3; have z3 := C.L.z3; have v3 := C.L.v3; have t4 := C.L.t4; have a4 := C.L.a4; have z4 := C.L.z4; have v4 := C.L.v4
  have t23 := C.L.t23; have a23 := C.L.a23; have z23 := C.L.z23; have v23 := C.L.v23; have a46 := C.L.a46; have z46 := C.L.z46; have t62 := C.L.t62; have a62 := C.L.a62; have z62 := C.L.z62; have v62 := C.L.v62; have t71 := C.L.t71; have a71 := C.L.a71; have z71 := C.L.z71; have v71 := C.L.v71
  have u23 := run_underlying C.L.t23; have u3 := run_underlying C.L.t3; have u71 := run_underlying C.L.t71
  have eg := C.eg
  have F := C.L.f50
  have hsz : a + u.length + 1 + y.length = d0.size := by have h1 := congrArg List.length hd; simp at h1; omega
  have hN := C.hN
  obtain ⟨lu, hlu⟩ : ∃ lu, lu = u.length := ⟨_, rfl⟩
  have wm : IntKind.i64.wrap ((m : Int) - (a : Int)) = (lu : Int) := by rw [IntKind.wrap_i64]; omega
  have wb : IntKind.i64.wrap ((b : Int) - (m : Int)) = 1 := by rw [IntKind.wrap_i64]; omega
  have wl : ((lu : Int) == 1) = false := by simp; omega
  have HLU := Lib.hid hlu
  have HU1 := Lib.hid hu1
  have HC := Lib.hid C
  have HV := Lib.hid hu
  unfold MPost
  generalize hNe : d0.size = N at *
  have HD := Lib.hid hd
  have HS := Lib.hid h
  have HNE := Lib.hid hNe
  have HZ := Lib.hid (hs.trans hNe.symm)
  have ea : dk[m]! = e0 := (get_list (A := x ++ u) (B := y) (e := e0) (by rw [hd]; simp) (by simp; omega)).2
  have hav := Lib.hid (show ∀ i (h : i < u.length), dk[a + i]! = u[i] from fun i h => by
    have := (get_at (d := dk) hd (a + i) (by simp; omega)).2
    rw [this, List.getElem_append_left (by simp; omega), List.getElem_append_left (by simp; omega), List.getElem_append_right (by omega)]
    congr 1
    omega)
  have HEA := Lib.hid ea
  clear C h hd hNe hs hu ea hlu hu1
  go_enter F, Try.ntmps83
  go_wp2
  go_loopw [14, 15] (fun iv jv wr => ∃ (i j : Nat), iv = .int .i64 i ∧ jv = .int .i64 j ∧ a ≤ i ∧ i ≤ j ∧ j ≤ m ∧ Hid (i = a ∨ ∃ h : i - a - 1 < u.length, a < i ∧ ¬ e0.key < u[i - a - 1].key) ∧ Hid (j = m ∨ ∃ h : j - a < u.length, e0.key < u[j - a].key) ∧ Hid (SWK enc k w0 blk off dk wr)) (fun iv jv _ => (intOf jv - intOf iv).toNat)
  case atStart => exact ⟨a, m, rfl, rfl, by omega, by omega, by omega, .inl rfl, .inl rfl, HS.out⟩
  case round =>
    obtain ⟨i, j, rfl, rfl, hmi, hij, hjb, HI, HJ, HW⟩ := hrel
    by_cases hlt : i < j
    · have hh1 : (i + j) / 2 < d0.size := by rw [HNE.out]; omega
      have hjd : dk.size = d0.size := by rw [HZ.out]
      have lh := fun n os => HW.out.ld HC.out.R hjd P ((i + j) / 2) (by rw [hjd]; exact hh1) n os
      have la := fun n os => HW.out.ld HC.out.R hjd P m (by rw [hjd, HNE.out]; omega) n os
      have hcg := fun n os => HW.out.cmp HC.out.hcmp hjd dk[m]! dk[(i + j) / 2]! n os
      have hgr := Lib.hid (fun n os => HW.out.grown n os)
      obtain ⟨h', hh'⟩ : ∃ h', h' = (i + j) / 2 := ⟨_, rfl⟩
      have hvh := hav.out (h' - a) (by omega)
      rw [show a + (h' - a) = h' by omega] at hvh
      rw [HEA.out] at la hcg
      have hx1 : h' - a < u.length := by omega
      obtain ⟨eh, heh⟩ : ∃ e, e = u[h' - a]'hx1 := ⟨_, rfl⟩
      rw [← hh', hvh, ← heh] at lh hcg
      have hb1 : (h' : Int) < (N : Int) := by omega
      have hb2 : (m : Int) < (N : Int) := by omega
      have wh : ((i : Int) + (j : Int)) / 2 = (h' : Int) := by omega
      generalize dk[m]! = ea at *
      have HH := Lib.hid hh'
      have HVH := Lib.hid heh.symm
      clear hh' hvh hh1 hjd heh
      by_cases hl : cf e0 eh < 0
      · have hke := (HC.out.hcf e0 eh).1 hl
        have HXX := Lib.hid (show ∃ h : h' - a < u.length, e0.key < u[h' - a].key from ⟨by omega, by rw [HVH.out]; exact hke⟩)
        clear hke
        go_wp2_with fail
        go_quiet_grown (first | (go_at_fn g; refine Calls.grown_of (hcg _ _)))
        go_wp2
        go_roundw
        case rel => exact ⟨i, h', rfl, by go_num, by omega, by omega, by omega, HI, .inr HXX.out, hgr.out nq osq⟩
        case measure => simp [intOf]; omega
      · have hle : 0 ≤ cf e0 eh := by omega
        have hlb : decide (cf e0 eh < 0) = false := decide_eq_false hl
        have hke : ¬ e0.key < eh.key := fun h => hl ((HC.out.hcf e0 eh).2 h)
        have HX : ∃ h : h' + 1 - a - 1 < u.length, ¬ e0.key < u[h' + 1 - a - 1].key := ⟨by omega, by
          have e1 : u[h' + 1 - a - 1]'(by omega) = u[h' - a]'(by omega) := by congr 1; omega
          rw [e1, HVH.out]; exact hke⟩
        have HXX := Lib.hid HX
        clear hke HX
        go_wp2_with fail
        go_quiet_grown (first | (go_at_fn g; refine Calls.grown_of (hcg _ _)))
        go_wp2
        go_roundw
        case rel => exact ⟨h' + 1, j, by go_num, rfl, by omega, by omega, by omega, .inr (by obtain ⟨h1, h2⟩ := HXX.out; exact ⟨h1, by omega, h2⟩), HJ, hgr.out nq osq⟩
        case measure => simp [intOf]; omega
    · obtain rfl : i = j := by omega
      obtain ⟨c, hc⟩ : ∃ c, c = i - a := ⟨_, rfl⟩
      have hcv : c ≤ u.length := by omega
      have B1 := Lib.hid (show ∀ z ∈ u.take c, z.key ≤ e0.key from fun z hz => by
        rcases HI.out with h1 | ⟨h1, h2, h3⟩
        · have : c = 0 := by omega
          subst this; simp at hz
        · have h4 := rising_mem_take HV.out (n := c) (by omega) hcv z hz
          have e1 : u[c - 1]'(by omega) = u[i - a - 1] := by congr 1; omega
          rw [e1] at h4
          grind)
      have B2 := Lib.hid (show ∀ z ∈ u.drop c, e0.key < z.key from fun z hz => by
        rcases HJ.out with h1 | ⟨h1, h2⟩
        · rw [List.drop_eq_nil_of_le (by omega)] at hz
          simp at hz
        · have h4 := rising_mem_drop HV.out (n := c) (by omega) z hz
          have e1 : u[c]'(by omega) = u[i - a] := by congr 1
          rw [e1] at h4
          grind)
      have H00 := Lib.hid (show dk.toList = x ++ u.take c ++ (u.drop c).take (m - i) ++ e0 :: ((u.drop c).drop (m - i) ++ y) by
        rw [HD.out, List.take_of_length_le (show (u.drop c).length ≤ m - i by simp; omega), List.drop_eq_nil_of_le (show (u.drop c).length ≤ m - i by simp; omega)]
        conv => lhs; rw [← List.take_append_drop c u]
        simp only [List.append_assoc, List.cons_append, List.nil_append])
      clear HI HJ
      go_wp2
      go_loopw [17] (fun kv wr => ∃ (q : Nat) (dj : Array Nt), kv = .int .i64 q ∧ i ≤ q ∧ q ≤ m ∧ Hid (dj.toList = x ++ u.take c ++ (u.drop c).take (q - i) ++ e0 :: ((u.drop c).drop (q - i) ++ y)) ∧ Hid (dj.size = N) ∧ Hid (SWK enc k w0 blk off dj wr)) (fun kv _ => (intOf kv - i).toNat)
      case atStart => exact ⟨m, dk, rfl, by omega, by omega, H00, HZ.out.trans HNE.out, HW⟩
      case round =>
        obtain ⟨q, dj, rfl, haq, hqa, HL, HJ, HW⟩ := hrel
        by_cases hlt2 : i < q
        · obtain ⟨t, hte⟩ : ∃ t, t = q - 1 := ⟨_, rfl⟩
          have e1 : dj.toList = (x ++ u.take c ++ (u.drop c).take (t - i)) ++ (u.drop c)[t - i]'(by simp; omega) :: ([] ++ e0 :: ((u.drop c).drop (q - i) ++ y)) := by
            rw [HL.out, show q - i = t - i + 1 by omega, take_snoc1 (u.drop c) (t - i) (by simp; omega)]
            simp only [List.append_assoc, List.cons_append, List.nil_append]
          have htl : (x ++ u.take c ++ (u.drop c).take (t - i)).length = t := by simp; omega
          have hsw := swp_list e1 (j := t + 1) htl (by rw [htl]; simp)
          have htd : t < dj.size := by rw [HJ.out]; omega
          have hqd : t + 1 < dj.size := by rw [HJ.out]; omega
          rw [← swp_comm hqd, show t + 1 = q by omega] at hsw
          have hsd : q < dj.size := by rw [HJ.out]; omega
          have hjd : dj.size = d0.size := by rw [HJ.out, HNE.out]
          have lt1 := HW.out.ld1 HC.out.R hjd P t htd
          have ls1 := HW.out.ld1 HC.out.R hjd P q hsd
          have st1 := HW.out.st1 HC.out.R hjd P q hsd dj[t]!
          have st2 := HW.out.st2 HC.out.R hjd P q t hsd htd dj[t]! dj[q]!
          have hend := Lib.hid (HW.out.swapped HC.out.R q t hsd htd)
          have hkS : (enc dj[q]!).length = k := HC.out.R.hk _
          have hkT : (enc dj[t]!).length = k := HC.out.R.hk _
          have HN2 := Lib.hid (show (swp dj q t).toList = x ++ u.take c ++ (u.drop c).take (t - i) ++ e0 :: ((u.drop c).drop (t - i) ++ y) by
            rw [hsw, take_drop1 (u.drop c) (t - i) (by simp; omega), show q - i = t - i + 1 by omega]; simp only [List.append_assoc, List.cons_append, List.nil_append])
          have HSZ := Lib.hid (show (swp dj q t).size = N by rw [size_swp]; exact HJ.out)
          have q1 : (q : Int) < (N : Int) := by omega
          have q3 : (t : Int) < (N : Int) := by omega
          have wt : IntKind.i64.wrap ((q : Int) - 1) = (t : Int) := by rw [IntKind.wrap_i64]; omega
          generalize enc dj[q]! = cS at *
          generalize enc dj[t]! = cT at *
          generalize swp dj q t = dn at *
          have HTE := Lib.hid hte
          have HCC := Lib.hid hc
          clear e1 hsw hsd htd hqd hjd htl hte hc
          go_wp2_with fail
          go_big_region_o
          all_goals go_wp2
          go_roundw
          case rel => exact ⟨t, dn, by first | rfl | go_num | (congr 1; omega), by have := HTE.out; omega, by have := HTE.out; omega, HN2, HSZ, hend⟩
          case measure => have := HTE.out; simp [intOf]; omega
        · have hqe : q - i = 0 := by omega
          have HE := Lib.hid (show dj.toList = x ++ (u.take c ++ e0 :: u.drop c) ++ y by
            rw [HL.out, hqe, List.take_zero, List.drop_zero]; simp only [List.append_assoc, List.cons_append, List.nil_append])
          have HM := Lib.hid (show Merged (u.take c ++ e0 :: u.drop c) u [e0] from by
            have hp := rising_parts HV.out c
            have h1 := merged_join (s1 := u.take c ++ [e0]) (s2 := u.drop c) (u1 := u.take c) (u2 := u.drop c) (v1 := [e0]) (v2 := [])
              ⟨by simp, rising_join hp.1 (by simp [Rising]) (fun z hz y hy => by simp at hy; subst hy; exact B1.out z hz), StEq.rfl' _⟩ (Merged.left hp.2.1) hp.2.2 (by simp) (by simp) (fun y hy z hz => by simp at hy; subst hy; exact B2.out z hz)
            simpa using h1)
          clear hqe
          go_wp2
          (try simp only [Exit.inBlock, Exit.then]); refine bodyPost_ret (results_none rfl _ _ _) rfl ?_
          exact ⟨rfl, dj, _, HE.out, HM.out, HJ.out, HW.out⟩

end Go.Proofs.Ytgpjbajfkagdbaa
