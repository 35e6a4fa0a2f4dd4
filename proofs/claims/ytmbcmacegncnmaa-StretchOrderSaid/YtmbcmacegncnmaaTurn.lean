/- The ranges, turned: which they are; a row of ranges that is appended to, and read on. -/
import Derived.Test.YtmbcmacegncnmaaAwake
import Derived.Test.YtmbcmacegncnmaaKeep
import Derived.Test.YtmbcmacegncnmaaWPick
namespace Go.Proofs.Ytmbcmacegncnmaa
open Go.RowKit

/-- Where the i-th one comes from. -/
def turnAt (n b i : Nat) : Nat := (n - i + b) % n
theorem turnAt_lt {n b i : Nat} (h : 0 < n) : turnAt n b i < n := Nat.mod_lt _ h
theorem turnAt_int {n b i : Nat} (h : i ≤ n) : ((n : Int) - i + b) % n = (turnAt n b i : Int) := by
  unfold turnAt
  rw [Int.natCast_emod, Int.natCast_add, Int.natCast_sub h]
theorem turnAt_onto {n b j : Nat} (hj : j < n) : ∃ i, i < n ∧ turnAt n b i = j := by
  refine ⟨(b + n - j) % n, Nat.mod_lt _ (by omega), ?_⟩
  unfold turnAt
  have h1 := Nat.div_add_mod (b + n - j) n
  have h2 := Nat.mod_lt (b + n - j) (show 0 < n by omega)
  generalize (b + n - j) / n = q at *
  generalize (b + n - j) % n = i at *
  have h3 : n - i + b = j + n * q := by
    generalize n * q = z at *
    omega
  rw [h3, Nat.add_mul_mod_self_left, Nat.mod_eq_of_lt hj]

def turnL (l : List Rng) (b k : Nat) : List Rng := (List.range k).map fun i => l.getD (turnAt l.length b i) allR
theorem turnL_length (l : List Rng) (b k : Nat) : (turnL l b k).length = k := by simp [turnL]
theorem turnL_succ (l : List Rng) (b k : Nat) : turnL l b (k + 1) = turnL l b k ++ [l.getD (turnAt l.length b k) allR] := by
  unfold turnL; rw [List.range_succ, List.map_append]; rfl
theorem turnL_step (l : List Rng) (b k j : Nat) (hj : j = turnAt l.length b k) (h : j < l.length) : turnL l b (k + 1) = turnL l b k ++ [l[j]] := by
  rw [turnL_succ, ← hj, List.getD_eq_getElem?_getD, List.getElem?_eq_getElem h]; rfl
theorem turnL_mem (l : List Rng) (b : Nat) (r : Rng) : r ∈ turnL l b l.length ↔ r ∈ l := by
  unfold turnL
  rw [List.mem_map]
  constructor
  · rintro ⟨i, hi, rfl⟩
    have hn : 0 < l.length := by have := List.mem_range.1 hi; omega
    have h1 := turnAt_lt (b := b) (i := i) hn
    rw [List.getD_eq_getElem?_getD, List.getElem?_eq_getElem h1]
    exact List.getElem_mem h1
  · intro h
    obtain ⟨j, hj, rfl⟩ := List.getElem_of_mem h
    obtain ⟨i, hi, e⟩ := turnAt_onto (b := b) hj
    refine ⟨i, List.mem_range.2 hi, ?_⟩
    rw [e, List.getD_eq_getElem?_getD, List.getElem?_eq_getElem hj]; rfl
theorem turn_meet (l : List Rng) (b : Nat) : meetL (turnL l b l.length) = meetL l := meetL_same (turnL_mem l b)
theorem turn_meet1 (l : List Rng) (b : Nat) (h : 0 < l.length) : meetL (turnL l b l.length ++ [l[0]]) = meetL l := meetL_same fun r => by
  rw [List.mem_append, turnL_mem]
  constructor
  · rintro (h1 | h1)
    · exact h1
    · have : r = l[0] := by simpa using h1
      subst this; exact List.getElem_mem h
  · exact .inl

theorem rng_info : (Try.prog.info? 25).map (fun i => (i.zero, i.size, i.bytes)) = some (some (.agg #[.string ⟨#[]⟩, .string ⟨#[]⟩, .bool false]), 3, 40) := by kernel_rfl

theorem lies_cells {α : Type} {cs : α → List Value} {k : Nat} {w : World} {g : Nat} {l : List α} (hk : ∀ x, (cs x).length = k) (hlt : g < w.heap.size) (h : ∀ j u, (l.flatMap cs)[j]? = some u → w.cell? ⟨g, j, none⟩ = some u) : Lies cs k w w.heap.size (some ⟨g, 0, none⟩) l := by
  intro _
  refine ⟨_, rfl, hlt, fun i hi j v hv => ?_⟩
  have hj : j < k := by rw [← hk l[i]]; exact (List.getElem?_eq_some_iff.1 hv).1
  rw [Go.Addr.add_add, Addr.add_lit, Nat.zero_add]
  exact h _ v (by rw [flat_get hk l i hi j hj]; exact hv)

section
variable (w0 : World) (g n cap g8 : Nat) (m : Rng) (ts : List Rng) (x0 : Rng)

/-- What stays true while the last line goes on. -/
def OrdS (w : World) : Prop := w.ownsRow w0.heap.size 25 3 (.slice (some ⟨g, 0, none⟩) n cap) n (ts.flatMap Rng.cells) ∧ RBlk w g8 m ∧ Below w0.heap.size w0 w
/-- What an operation of it may do. -/
def OrdR (w w' : World) : Prop := w.grownBy w' (some g) ∧ (∀ j u, (ts.flatMap Rng.cells ++ x0.cells)[j]? = some u → w.cell? ⟨g, j, none⟩ = some u → w'.cell? ⟨g, j, none⟩ = some u) ∧ (OrdS w0 g n cap g8 m ts w → OrdS w0 g n cap g8 m ts w')

theorem OrdR.of {w w' : World} (hb : Below w.heap.size w w') : OrdR w0 g n cap g8 m ts x0 w w' :=
  ⟨⟨hb.os, hb.tape, hb.output, hb.size, fun k hk _ => hb.block k hk⟩, fun _ _ _ h => (hb.cell (lt_of_cell h)).trans h, fun h => ⟨own_below h.1 hb, cells_of h.2.1 hb, h.2.2.trans (hb.mono h.2.2.size)⟩⟩

/-- The row that is made of all, and one more. -/
def Ord58 (v : Value) (w : World) : Prop := ∃ g' c', v = .slice (some ⟨g', 0, none⟩) (n + 1) c' ∧ g' < w.heap.size ∧ ∀ j u, (ts.flatMap Rng.cells ++ x0.cells)[j]? = some u → w.cell? ⟨g', j, none⟩ = some u
/-- A row of its own. -/
def OrdLit (C : Array Value) (k : Nat) (v : Value) (w : World) : Prop := ∃ b, b ≠ g ∧ v = .slice (some ⟨b, 0, none⟩) k k ∧ Box w b 25 C

variable {w0 g n cap g8 m ts x0}
theorem Ord58.on {v : Value} {w w' : World} (h : Ord58 n ts x0 v w) (hr : OrdR w0 g n cap g8 m ts x0 w w') : Ord58 n ts x0 v w' := by
  obtain ⟨g', c', e, hlt, hc⟩ := h
  refine ⟨g', c', e, Nat.lt_of_lt_of_le hlt hr.1.size, fun j u hu => ?_⟩
  by_cases hg : g' = g
  · subst hg; exact hr.2.1 j u hu (hc j u hu)
  · have h1 := hc j u hu
    rw [← h1]
    exact World.cell?_of_block (hr.1.block g' hlt (by simpa using hg))
theorem OrdLit.on {C : Array Value} {k : Nat} {v : Value} {w w' : World} (h : OrdLit g C k v w) (hr : OrdR w0 g n cap g8 m ts x0 w w') : OrdLit g C k v w' := by
  obtain ⟨b, hne, e, hb⟩ := h
  exact ⟨b, hne, e, Box.grown hb hr.1 (by simpa using hne)⟩
end

end Go.Proofs.Ytmbcmacegncnmaa
