/- A slice of structs of one-cell fields that reads as a list of things: nil, empty or not; one that is an argument, opened; one of the call's own; a literal. Nothing of the program. -/
import Derived.Test.YtidigbjlglomhaaStrs
import Derived.Laws.OwnMore
import Derived.Deep.Slices
import Derived.Deep.Fields
import Derived.Deep.Strs
import Derived.DataElems
set_option linter.unusedVariables false
set_option linter.unusedSimpArgs false
namespace Go.Proofs.Ytidigbjlglomhaa
open Go.ChangeShapes Go.WideShapes Go.ChangeAt Go.RowKit

section
variable {α : Type} {cs : α → List Value} {k : Nat} {w w' : World} {B B' : Nat} {A : Option Addr} {l : List α}

/-- '.slice A l.length c' holds the things l, each in k cells, and lies below block B; of an empty one nothing is asked. -/
def Lies (cs : α → List Value) (k : Nat) (w : World) (B : Nat) (A : Option Addr) (l : List α) : Prop :=
  0 < l.length → ∃ ad, A = some ad ∧ ad.block < B ∧ ∀ (i : Nat) (h : i < l.length) (j : Nat) (v : Value), (cs l[i])[j]? = some v → w.cell? ((ad.add (i * k)).add j) = some v

theorem Lies.nil : Lies cs k w B A [] := fun h => absurd h (by simp)
theorem Lies.keep (h : Lies cs k w B A l) (hk : ∀ p : Addr, p.block < B → w'.cell? p = w.cell? p) : Lies cs k w' B A l := fun hl => by
  obtain ⟨ad, e, hB, hc⟩ := h hl
  exact ⟨ad, e, hB, fun i hi j v hv => (hk _ (by rw [block_of_add, block_of_add]; exact hB)).trans (hc i hi j v hv)⟩
theorem Lies.below (h : Lies cs k w B A l) (hb : Below B w w') : Lies cs k w' B A l := h.keep fun _ hp => hb.cell hp
theorem Lies.more (h : Lies cs k w B A l) (hB : B ≤ B') : Lies cs k w B' A l := fun hl => by
  obtain ⟨ad, e, hb, hc⟩ := h hl
  exact ⟨ad, e, by omega, hc⟩
theorem Lies.on (h : Lies cs k w w.heap.size A l) (hb : Below w.heap.size w w') : Lies cs k w' w'.heap.size A l := (h.below hb).more hb.size

theorem flat_get (hk : ∀ x, (cs x).length = k) : ∀ (l : List α) (i : Nat) (h : i < l.length) (j : Nat), j < k → (l.flatMap cs)[i * k + j]? = (cs l[i])[j]? := by
  intro l
  induction l with
  | nil => intro i h; simp at h
  | cons x l ih =>
    intro i h j hj
    rw [List.flatMap_cons]
    cases i with
    | zero => rw [Nat.zero_mul, Nat.zero_add, List.getElem?_append_left (by rw [hk]; exact hj)]; rfl
    | succ i =>
      have e : (i + 1) * k + j = k + (i * k + j) := by rw [Nat.add_mul, Nat.one_mul]; omega
      rw [List.getElem?_append_right (by rw [hk, e]; omega), hk, e, Nat.add_sub_cancel_left]
      exact ih i (by simpa using h) j hj

/-- A row of the call's own reads as a list. -/
theorem Lies.own {base : Nat} {e : TypeId} {n c : Nat} (hk : ∀ x, (cs x).length = k) (h : w.ownsRow base e k (.slice A n c) l.length (l.flatMap cs)) : Lies cs k w w.heap.size A l := by
  intro hl
  rcases h.2 with ⟨_, h0⟩ | ⟨g, cap, cur, hv, hbg, hg, _⟩
  · omega
  · injection hv with hA
    subst hA
    refine ⟨_, rfl, (h.lt g rfl).2, fun i hi j v hv => ?_⟩
    have hj : j < k := by rw [← hk l[i]]; exact (List.getElem?_eq_some_iff.1 hv).1
    rw [Go.Addr.add_add]
    exact h.cells (g := g) rfl _ v (by rw [flat_get hk l i hi j hj]; exact hv)

/-- A literal. -/
theorem Lies.lit {C : Array Value} {t : TypeId} (hk : ∀ x, (cs x).length = k) (h : C.toList = l.flatMap cs) : Lies cs k (w.alloc (.cells C t)) (w.heap.size + 1) (some ⟨w.heap.size, 0, none⟩) l := by
  intro _
  refine ⟨_, rfl, by simp, fun i hi j v hv => ?_⟩
  have hj : j < k := by rw [← hk l[i]]; exact (List.getElem?_eq_some_iff.1 hv).1
  have h1 := flat_get hk l i hi j hj
  rw [← h, hv] at h1
  rw [Go.Addr.add_add, Addr.add_lit, Nat.zero_add]
  simpa using h1

theorem list_of {Q : Nat → α → Prop} : ∀ n : Nat, (∀ i, i < n → ∃ a, Q i a) → ∃ l : List α, l.length = n ∧ ∀ (i : Nat) (h : i < l.length), Q i l[i] := by
  intro n
  induction n with
  | zero => intro _; exact ⟨[], rfl, fun i h => absurd h (by simp)⟩
  | succ n ih =>
    intro h
    obtain ⟨l, hl, hq⟩ := ih fun i hi => h i (by omega)
    obtain ⟨a, ha⟩ := h n (by omega)
    refine ⟨l ++ [a], by simp [hl], fun i hi => ?_⟩
    by_cases h2 : i < l.length
    · rw [List.getElem_append_left h2]; exact hq i h2
    · have h3 : i = l.length := by simp at hi; omega
      subst h3
      rw [List.getElem_append_right (Nat.le_refl _)]
      simpa [hl] using ha

/-- An argument, opened: each element's cells are some thing's, of which G holds. -/
theorem lies_open {H : Type} {enc : TypeId × Value → H} {P : Program} {t e : TypeId} {r : Reach} {b0 : Nat} {v : Value} {d : DataW H} {p : List MemPlace} (W : World) (G : α → Prop) (ht : P.underlying t = some (.slice e)) (hc : P.cellsOf e = k) (hk0 : 0 < k)
    (hel : ∀ (n : Nat) (xs : List Value) (y : DataW H × List MemPlace), xs.length = k → DataW.trod enc P W 0 (fun _ => true) true n e xs = some y → ∃ a, xs = cs a ∧ G a)
    (hv : Value.okWide P W r b0 t v) (h : DataW.Trod enc P W 0 (fun _ => true) true t v d p) :
    ∃ (A : Option Addr) (c : Nat) (l : List α), v = .slice A l.length c ∧ Lies cs k W W.heap.size A l ∧ l.length ≤ maxLen ∧ (∀ x ∈ l, G x) ∧ (A = none → c = 0) := by
  obtain ⟨a0, len, cap, rfl⟩ := okWide_slice ht hv
  obtain ⟨fuel, hf⟩ := h
  rcases Deep.open_slice ht hf with ⟨hcs, _⟩ | ⟨a, len', cap', m, n, D, Pl, hcs, _, hl, hm, hmm, _, hi⟩
  · simp [Value.cells] at hcs
    obtain ⟨rfl, rfl, rfl⟩ := hcs
    exact ⟨none, 0, [], rfl, Lies.nil, by simp, by simp, fun _ => rfl⟩
  · simp [Value.cells] at hcs
    obtain ⟨rfl, rfl, rfl⟩ := hcs
    simp only [if_true] at hmm
    subst hmm
    have hall : ∀ i, i < len → ∃ x : α, G x ∧ ∀ (j : Nat) (u : Value), (cs x)[j]? = some u → W.cell? ((a.add (i * k)).add j) = some u := by
      intro i hlt
      obtain ⟨xs, hx, htr⟩ := hi i (by omega)
      rw [hc] at hx
      obtain ⟨_, hlen, hat⟩ := World.cells?_some hx
      obtain ⟨x, rfl, hg⟩ := hel _ _ _ hlen htr
      refine ⟨x, hg, fun j u hu => ?_⟩
      rw [hat j (by rw [← hlen]; exact (List.getElem?_eq_some_iff.1 hu).1)]
      exact hu
    obtain ⟨l, hll, hq⟩ := list_of len hall
    refine ⟨some a, m, l, by rw [hll], ?_, by omega, fun x hx => ?_, fun h => by cases h⟩
    · intro hpos
      obtain ⟨xs, hx, _⟩ := hi 0 (by omega)
      rw [hc] at hx
      obtain ⟨_, hlen, hat⟩ := World.cells?_some hx
      have h0 := hat 0 hk0
      rw [List.getElem?_eq_getElem (by omega : 0 < xs.length)] at h0
      have hlt := lt_of_cell h0
      rw [block_of_add, block_of_add] at hlt
      exact ⟨a, rfl, hlt, fun i h j u hu => (hq i h).2 j u hu⟩
    · obtain ⟨i, h, rfl⟩ := List.getElem_of_mem hx
      exact (hq i h).1
end

end Go.Proofs.Ytidigbjlglomhaa
