/- A struct, or a row, that lies in a block which is known whole. Nothing of the program. -/
import Derived.Below
import Derived.Laws.Rows
import Derived.Laws.AppendOwn
set_option linter.unusedVariables false
set_option linter.unusedSimpArgs false
namespace Go.Proofs.Ytidigbjlglomhaa
open Go.RowKit

/-- The block g is there, holds the cells C of type t, and all of them may be written. -/
def Box (w : World) (g : Nat) (t : TypeId) (C : Array Value) : Prop := w.heap[g]? = some (.cells C t (0, 0))

section
variable {w w' : World} {g : Nat} {t : TypeId} {C : Array Value}
theorem Box.lt (h : Box w g t C) : g < w.heap.size := (Array.getElem?_eq_some_iff.1 (show w.heap[g]? = some _ from h)).1
theorem Box.cell (h : Box w g t C) (i : Nat) {v : Value} (hv : C[i]? = some v) : w.cell? ⟨g, i, none⟩ = some v := (cell_of_row w g i C t (0, 0) h).trans hv
theorem Box.free (h : Box w g t C) (i : Nat) : w.frozen? ⟨g, i, none⟩ = false := by
  have h1 : w.heap[g]? = some (.cells C t (0, 0)) := h
  simp only [World.frozen?, h1]
  simp
theorem Box.fresh (w : World) (t : TypeId) (C : Array Value) : Box (w.alloc (.cells C t)) w.heap.size t C := heap_alloc_new w _
theorem Box.at_ (w : World) (t : TypeId) (C : Array Value) {g : Nat} (hg : g = w.heap.size) : Box (w.alloc (.cells C t)) g t C := by subst hg; exact Box.fresh w t C
theorem Box.push (h : Box w g t C) (o : Obj) : Box (w.alloc o) g t C := by
  have h1 := Below.heap_alloc w o g h.lt
  exact h1.trans h
theorem Box.set (h : Box w g t C) (i : Nat) (v : Value) : Box (w.setCell ⟨g, i, none⟩ v) g t (C.setIfInBounds i v) := by
  have h1 : w.heap[g]? = some (.cells C t (0, 0)) := h
  show (w.setCell ⟨g, i, none⟩ v).heap[g]? = _
  simp only [World.setCell, Array.getElem?_modify, h1, if_true]
  rfl
theorem Box.away (h : Box w g t C) {p : Addr} (hp : g ≠ p.block) (v : Value) : Box (w.setCell p v) g t C := by
  have h1 := Below.heap_setCell w p v g hp
  exact h1.trans h
theorem Box.below {B : Nat} (h : Box w g t C) (hb : Below B w w') (hg : g < B) : Box w' g t C := by
  have h1 := hb.block g hg
  exact h1.trans h
theorem Box.on (h : Box w g t C) (hb : Below w.heap.size w w') : Box w' g t C := h.below hb h.lt
theorem Box.grown {row : Option Nat} (h : Box w g t C) (hb : w.grownBy w' row) (hg : some g ≠ row) : Box w' g t C := by
  have h1 := hb.block g h.lt hg
  exact h1.trans h
end

end Go.Proofs.Ytidigbjlglomhaa
