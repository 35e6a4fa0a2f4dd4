/- A slice of strings that reads as a list: nil, empty or not; one that is an argument, opened. -/
import Derived.WalkKit
import Derived.WalkSpells
import Derived.WalkLawsBesides
import Derived.Lib.Hide
import Derived.Deep.Draws
import Derived.ProofKit
import Derived.SliceStrings
import Derived.Laws.OwnMore
import Derived.Deep.Slices
import Derived.Deep.Fields
import Derived.Deep.Strs
import Derived.DataElems
import Derived.Below
import Derived.Laws.Rows
import Derived.Laws.AppendOwn
set_option linter.unusedVariables false
set_option linter.unusedSimpArgs false
namespace Go.Proofs.Ytgpjbajfkagdbaa
open Go.ChangeShapes Go.WideShapes Go.ChangeAt Go.RowKit

theorem ba_ext {x y : ByteArray} (h : x.data.toList = y.data.toList) : x = y := ByteArray.ext (Array.toList_inj.1 h)

theorem str_eq {x y : ByteArray} (h : x = y) : (x.toList == y.toList) = true := by simp [h]
theorem str_ne {x y : ByteArray} (h : x ≠ y) : (x.toList == y.toList) = false := by
  rw [beq_eq_false_iff_ne, ByteArray.toList_eq, ByteArray.toList_eq]
  exact fun e => h (ByteArray.ext (Array.toList_inj.1 e))

theorem block_of_add (a : Addr) (n : Nat) : (a.add n).block = a.block := by unfold Addr.add; split <;> rfl

/-- The slice value '.slice A n c' holds the strings ss, and lies below block B; of an empty one nothing is asked. -/
def Strs (w : World) (B : Nat) (A : Option Addr) (ss : List ByteArray) : Prop :=
  0 < ss.length → ∃ ad, A = some ad ∧ ad.block < B ∧ ∀ (i : Nat) (h : i < ss.length), w.cell? (ad.add i) = some (.string ss[i])

theorem Strs.nil (w : World) (B : Nat) (A : Option Addr) : Strs w B A [] := fun h => absurd h (by simp)
theorem Strs.below {w w' : World} {B : Nat} {A : Option Addr} {ss : List ByteArray} (h : Strs w B A ss) (hb : Below B w w') : Strs w' B A ss := fun hl => by
  obtain ⟨ad, e, hB, hc⟩ := h hl
  exact ⟨ad, e, hB, fun i hi => (hb.cell (by rw [block_of_add]; exact hB)).trans (hc i hi)⟩
theorem Strs.more {w : World} {B B' : Nat} {A : Option Addr} {ss : List ByteArray} (h : Strs w B A ss) (hB : B ≤ B') : Strs w B' A ss := fun hl => by
  obtain ⟨ad, e, hb, hc⟩ := h hl
  exact ⟨ad, e, by omega, hc⟩

theorem strs_one (w : World) (t : TypeId) (x : ByteArray) : Strs (w.alloc (.cells #[.string x] t)) (w.heap.size + 1) (some ⟨w.heap.size, 0, none⟩) [x] := by
  intro _
  refine ⟨_, rfl, by simp, fun i hi => ?_⟩
  match i, hi with
  | 0, _ => simp [Addr.add]

theorem strs_two (w : World) (t : TypeId) (x y : ByteArray) : Strs (w.alloc (.cells #[.string x, .string y] t)) (w.heap.size + 1) (some ⟨w.heap.size, 0, none⟩) [x, y] := by
  intro _
  refine ⟨_, rfl, by simp, fun i hi => ?_⟩
  match i, hi with
  | 0, _ => simp [Addr.add]
  | 1, _ => simp [Addr.add]

theorem lt_of_cell {w : World} {p : Addr} {v : Value} (h : w.cell? p = some v) : p.block < w.heap.size := by
  rcases Nat.lt_or_ge p.block w.heap.size with h1 | h1
  · exact h1
  · unfold World.cell? at h
    rw [Array.getElem?_eq_none h1] at h
    simp at h

theorem strs_open {H : Type} {enc : TypeId × Value → H} {P : Program} {t e : TypeId} {r : Reach} {b0 : Nat} {v : Value} {d : DataW H} {p : List MemPlace} (W : World) (ht : P.underlying t = some (.slice e)) (he : P.underlying e = some .string) (hc : P.cellsOf e = 1)
    (hv : Value.okWide P W r b0 t v) (h : DataW.Trod enc P W 0 (fun _ => true) true t v d p) :
    ∃ (A : Option Addr) (c : Nat) (ss : List ByteArray), v = .slice A ss.length c ∧ Strs W W.heap.size A ss ∧ ss.length ≤ maxLen ∧ (∀ x ∈ ss, x.size ≤ maxLen) ∧ (A = none → c = 0) := by
  obtain ⟨a0, len, cap, rfl⟩ := okWide_slice ht hv
  obtain ⟨fuel, hf⟩ := h
  rcases open_strings ht he hc hf with ⟨hcs, _⟩ | ⟨a, len', cap', ss, hcs, _, hl, hm, hz, _, hcell, hws⟩
  · simp [Value.cells] at hcs
    obtain ⟨rfl, rfl, rfl⟩ := hcs
    exact ⟨none, 0, [], rfl, Strs.nil _ _ _, by simp, by simp, fun _ => rfl⟩
  · simp [Value.cells] at hcs
    obtain ⟨rfl, rfl, rfl⟩ := hcs
    simp only [if_true] at hz
    refine ⟨some a, cap, ss.take len, by simp [hz, Nat.min_eq_left hl], ?_, by rw [List.length_take]; omega, fun x hx => hws x (List.mem_of_mem_take hx), fun h => by cases h⟩
    intro hpos
    rw [List.length_take] at hpos
    have h0 := hcell 0 (by omega)
    have hb := lt_of_cell h0
    rw [block_of_add] at hb
    refine ⟨a, rfl, hb, fun i hi => ?_⟩
    rw [List.length_take] at hi
    rw [hcell i (by omega)]
    have hi2 : i < ss.length := by omega
    simp [List.getD, List.getElem?_eq_getElem hi2]

end Go.Proofs.Ytgpjbajfkagdbaa

namespace Go.Proofs.Ytgpjbajfkagdbaa
open Go.ChangeShapes Go.WideShapes Go.ChangeAt Go.RowKit

section
variable {α : Type} {cs : α → List Value} {k : Nat} {w w' : World} {B B' : Nat} {A : Option Addr} {l : List α}

/-- '.slice A l.length c' holds the things l, each in k cells, and lies below block B; of an empty one nothing is asked. -/
def Lies (cs : α → List Value) (k : Nat) (w : World) (B : Nat) (A : Option Addr) (l : List α) : Prop :=
  0 < l.length → ∃ ad, A = some ad ∧ ad.block < B ∧ ∀ (i : Nat) (h : i < l.length) (j : Nat) (v : Value), (cs l[i])[j]? = some v → w.cell? ((ad.add (i * k)).add j) = some v

theorem Lies.nil : Lies cs k w B A [] := fun h => absurd h (by simp)
theorem Lies.keep (h : Lies cs k w B A l) (hk : ∀ p : Addr, p.block < B → w'.cell? p = w.cell? p) : Lies cs k w' B A l := fun hl => by
  obtain ⟨ad, e, hB, hc⟩ := h hl
  exact ⟨ad, e, hB, fun i hi j v hv => (hk _ (by rw [block_of_add, block_of_add]; exact hB)).trans (hc i hi j v hv)⟩
theorem Lies.below (h : Lies cs k w B A l) (hb : Below B w w') : Lies cs k w' B A l := h.keep fun _ hp => hb.cell hp
theorem Lies.more (h : Lies cs k w B A l) (hB : B ≤ B') : Lies cs k w B' A l := fun hl => by
  obtain ⟨ad, e, hb, hc⟩ := h hl
  exact ⟨ad, e, by omega, hc⟩
theorem Lies.on (h : Lies cs k w w.heap.size A l) (hb : Below w.heap.size w w') : Lies cs k w' w'.heap.size A l := (h.below hb).more hb.size

theorem flat_get (hk : ∀ x, (cs x).length = k) : ∀ (l : List α) (i : Nat) (h : i < l.length) (j : Nat), j < k → (l.flatMap cs)[i * k + j]? = (cs l[i])[j]? := by
  intro l
  induction l with
  | nil => intro i h; simp at h
  | cons x l ih =>
    intro i h j hj
    rw [List.flatMap_cons]
    cases i with
    | zero => rw [Nat.zero_mul, Nat.zero_add, List.getElem?_append_left (by rw [hk]; exact hj)]; rfl
    | succ i =>
      have e : (i + 1) * k + j = k + (i * k + j) := by rw [Nat.add_mul, Nat.one_mul]; omega
      rw [List.getElem?_append_right (by rw [hk, e]; omega), hk, e, Nat.add_sub_cancel_left]
      exact ih i (by simpa using h) j hj

/-- A row of the call's own reads as a list. -/
theorem Lies.own {base : Nat} {e : TypeId} {n c : Nat} (hk : ∀ x, (cs x).length = k) (h : w.ownsRow base e k (.slice A n c) l.length (l.flatMap cs)) : Lies cs k w w.heap.size A l := by
  intro hl
  rcases h.2 with ⟨_, h0⟩ | ⟨g, cap, cur, hv, hbg, hg, _⟩
  · omega
  · injection hv with hA
    subst hA
    refine ⟨_, rfl, (h.lt g rfl).2, fun i hi j v hv => ?_⟩
    have hj : j < k := by rw [← hk l[i]]; exact (List.getElem?_eq_some_iff.1 hv).1
    rw [Go.Addr.add_add]
    exact h.cells (g := g) rfl _ v (by rw [flat_get hk l i hi j hj]; exact hv)

/-- A literal. -/
theorem Lies.lit {C : Array Value} {t : TypeId} (hk : ∀ x, (cs x).length = k) (h : C.toList = l.flatMap cs) : Lies cs k (w.alloc (.cells C t)) (w.heap.size + 1) (some ⟨w.heap.size, 0, none⟩) l := by
  intro _
  refine ⟨_, rfl, by simp, fun i hi j v hv => ?_⟩
  have hj : j < k := by rw [← hk l[i]]; exact (List.getElem?_eq_some_iff.1 hv).1
  have h1 := flat_get hk l i hi j hj
  rw [← h, hv] at h1
  rw [Go.Addr.add_add, Addr.add_lit, Nat.zero_add]
  simpa using h1

theorem list_of {Q : Nat → α → Prop} : ∀ n : Nat, (∀ i, i < n → ∃ a, Q i a) → ∃ l : List α, l.length = n ∧ ∀ (i : Nat) (h : i < l.length), Q i l[i] := by
  intro n
  induction n with
  | zero => intro _; exact ⟨[], rfl, fun i h => absurd h (by simp)⟩
  | succ n ih =>
    intro h
    obtain ⟨l, hl, hq⟩ := ih fun i hi => h i (by omega)
    obtain ⟨a, ha⟩ := h n (by omega)
    refine ⟨l ++ [a], by simp [hl], fun i hi => ?_⟩
    by_cases h2 : i < l.length
    · rw [List.getElem_append_left h2]; exact hq i h2
    · have h3 : i = l.length := by simp at hi; omega
      subst h3
      rw [List.getElem_append_right (Nat.le_refl _)]
      simpa [hl] using ha

/-- An argument, opened: each element's cells are some thing's, of which G holds. -/
theorem lies_open {H : Type} {enc : TypeId × Value → H} {P : Program} {t e : TypeId} {r : Reach} {b0 : Nat} {v : Value} {d : DataW H} {p : List MemPlace} (W : World) (G : α → Prop) (ht : P.underlying t = some (.slice e)) (hc : P.cellsOf e = k) (hk0 : 0 < k)
    (hel : ∀ (n : Nat) (xs : List Value) (y : DataW H × List MemPlace), xs.length = k → DataW.trod enc P W 0 (fun _ => true) true n e xs = some y → ∃ a, xs = cs a ∧ G a)
    (hv : Value.okWide P W r b0 t v) (h : DataW.Trod enc P W 0 (fun _ => true) true t v d p) :
    ∃ (A : Option Addr) (c : Nat) (l : List α), v = .slice A l.length c ∧ Lies cs k W W.heap.size A l ∧ l.length ≤ maxLen ∧ (∀ x ∈ l, G x) ∧ (A = none → c = 0) := by
  obtain ⟨a0, len, cap, rfl⟩ := okWide_slice ht hv
  obtain ⟨fuel, hf⟩ := h
  rcases Deep.open_slice ht hf with ⟨hcs, _⟩ | ⟨a, len', cap', m, n, D, Pl, hcs, _, hl, hm, hmm, _, hi⟩
  · simp [Value.cells] at hcs
    obtain ⟨rfl, rfl, rfl⟩ := hcs
    exact ⟨none, 0, [], rfl, Lies.nil, by simp, by simp, fun _ => rfl⟩
  · simp [Value.cells] at hcs
    obtain ⟨rfl, rfl, rfl⟩ := hcs
    simp only [if_true] at hmm
    subst hmm
    have hall : ∀ i, i < len → ∃ x : α, G x ∧ ∀ (j : Nat) (u : Value), (cs x)[j]? = some u → W.cell? ((a.add (i * k)).add j) = some u := by
      intro i hlt
      obtain ⟨xs, hx, htr⟩ := hi i (by omega)
      rw [hc] at hx
      obtain ⟨_, hlen, hat⟩ := World.cells?_some hx
      obtain ⟨x, rfl, hg⟩ := hel _ _ _ hlen htr
      refine ⟨x, hg, fun j u hu => ?_⟩
      rw [hat j (by rw [← hlen]; exact (List.getElem?_eq_some_iff.1 hu).1)]
      exact hu
    obtain ⟨l, hll, hq⟩ := list_of len hall
    refine ⟨some a, m, l, by rw [hll], ?_, by omega, fun x hx => ?_, fun h => by cases h⟩
    · intro hpos
      obtain ⟨xs, hx, _⟩ := hi 0 (by omega)
      rw [hc] at hx
      obtain ⟨_, hlen, hat⟩ := World.cells?_some hx
      have h0 := hat 0 hk0
      rw [List.getElem?_eq_getElem (by omega : 0 < xs.length)] at h0
      have hlt := lt_of_cell h0
      rw [block_of_add, block_of_add] at hlt
      exact ⟨a, rfl, hlt, fun i h j u hu => (hq i h).2 j u hu⟩
    · obtain ⟨i, h, rfl⟩ := List.getElem_of_mem hx
      exact (hq i h).1
end

end Go.Proofs.Ytgpjbajfkagdbaa

namespace Go.Proofs.Ytgpjbajfkagdbaa
open Go.RowKit

/-- The block g is there, holds the cells C of type t, and all of them may be written. -/
def Box (w : World) (g : Nat) (t : TypeId) (C : Array Value) : Prop := w.heap[g]? = some (.cells C t (0, 0))

section
variable {w w' : World} {g : Nat} {t : TypeId} {C : Array Value}
theorem Box.lt (h : Box w g t C) : g < w.heap.size := (Array.getElem?_eq_some_iff.1 (show w.heap[g]? = some _ from h)).1
theorem Box.cell (h : Box w g t C) (i : Nat) {v : Value} (hv : C[i]? = some v) : w.cell? ⟨g, i, none⟩ = some v := (cell_of_row w g i C t (0, 0) h).trans hv
theorem Box.free (h : Box w g t C) (i : Nat) : w.frozen? ⟨g, i, none⟩ = false := by
  have h1 : w.heap[g]? = some (.cells C t (0, 0)) := h
  simp only [World.frozen?, h1]
  simp
theorem Box.fresh (w : World) (t : TypeId) (C : Array Value) : Box (w.alloc (.cells C t)) w.heap.size t C := heap_alloc_new w _
theorem Box.at_ (w : World) (t : TypeId) (C : Array Value) {g : Nat} (hg : g = w.heap.size) : Box (w.alloc (.cells C t)) g t C := by subst hg; exact Box.fresh w t C
theorem Box.push (h : Box w g t C) (o : Obj) : Box (w.alloc o) g t C := by
  have h1 := Below.heap_alloc w o g h.lt
  exact h1.trans h
theorem Box.set (h : Box w g t C) (i : Nat) (v : Value) : Box (w.setCell ⟨g, i, none⟩ v) g t (C.setIfInBounds i v) := by
  have h1 : w.heap[g]? = some (.cells C t (0, 0)) := h
  show (w.setCell ⟨g, i, none⟩ v).heap[g]? = _
  simp only [World.setCell, Array.getElem?_modify, h1, if_true]
  rfl
theorem Box.away (h : Box w g t C) {p : Addr} (hp : g ≠ p.block) (v : Value) : Box (w.setCell p v) g t C := by
  have h1 := Below.heap_setCell w p v g hp
  exact h1.trans h
theorem Box.below {B : Nat} (h : Box w g t C) (hb : Below B w w') (hg : g < B) : Box w' g t C := by
  have h1 := hb.block g hg
  exact h1.trans h
theorem Box.on (h : Box w g t C) (hb : Below w.heap.size w w') : Box w' g t C := h.below hb h.lt
theorem Box.grown {row : Option Nat} (h : Box w g t C) (hb : w.grownBy w' row) (hg : some g ≠ row) : Box w' g t C := by
  have h1 := hb.block g h.lt hg
  exact h1.trans h
end

end Go.Proofs.Ytgpjbajfkagdbaa
