/- Arguments that are slices of strings, opened with all that is known of them; the world of the witnesses: Go's two tables of utf8 lie in it. -/
import Derived.Test.YtdgjnjhmjgdhnaaDoorOpenD
import Derived.Test.YtdgjnjhmjgdhnaaDoorRows
import GoSem.PinnedTables
import Derived.LaidLaws
import Derived.Stop.Joined
namespace Go.Proofs.YtdgjnjhmjgdhnaaDoor
open Go.ChangeShapes Go.WideShapes Go.ChangeAt Go.RowKit

/-- All that is known of an argument that is a slice of strings. -/
def AV (w : World) (A : Option Addr) (c : Nat) (l : List ByteArray) : Prop := Strs w w.heap.size A l ∧ l.length ≤ c ∧ c ≤ maxLen ∧ (∀ x ∈ l, x.size ≤ maxLen) ∧ (A = none → c = 0)
section
variable {H : Type} {enc : TypeId × Value → H} {W : World}
set_option maxRecDepth 100000 in
theorem av_open {r : Reach} {b0 : Nat} {v : Value} {d : DataW H} {p : List MemPlace} (hv : Value.okWide Tryd.prog W r b0 22 v) (h : DataW.Trod enc Tryd.prog W 0 (fun _ => true) true 22 v d p) :
    ∃ (A : Option Addr) (c : Nat) (l : List ByteArray), v = .slice A l.length c ∧ AV W A c l := by
  obtain ⟨a0, len, cap, rfl⟩ := okWide_slice Tryd.underlying22 hv
  obtain ⟨fuel, hf⟩ := h
  rcases open_strings Tryd.underlying22 Tryd.underlying9 (by kernel_rfl) hf with ⟨hcs, _⟩ | ⟨a, len', cap', ss, hcs, _, hl, hm, hz, _, hcell, hws⟩
  · simp [Value.cells] at hcs
    obtain ⟨rfl, rfl, rfl⟩ := hcs
    exact ⟨none, 0, [], rfl, Strs.nil _ _ _, Nat.le_refl _, Nat.zero_le _, by simp, fun _ => rfl⟩
  · simp [Value.cells] at hcs
    obtain ⟨rfl, rfl, rfl⟩ := hcs
    simp only [if_true] at hz
    refine ⟨some a, cap, ss.take len, by simp [hz, Nat.min_eq_left hl], ?_, by rw [List.length_take]; omega, hm, fun x hx => hws x (List.mem_of_mem_take hx), fun h => by cases h⟩
    intro hpos
    rw [List.length_take] at hpos
    have h0 := hcell 0 (by omega)
    have hb := lt_of_cell h0
    rw [block_of_add] at hb
    refine ⟨a, rfl, hb, fun i hi => ?_⟩
    rw [List.length_take] at hi
    rw [hcell i (by omega)]
    have hi2 : i < ss.length := by omega
    simp [List.getD, List.getElem?_eq_getElem hi2]
end
theorem AV.sv {w : World} {A : Option Addr} {c : Nat} {l : List ByteArray} (h : AV w A c l) : SV w (.slice A l.length c) l := ⟨A, c, rfl, h.1⟩
theorem AV.len {w : World} {A : Option Addr} {c : Nat} {l : List ByteArray} (h : AV w A c l) : l.length ≤ maxLen := Nat.le_trans h.2.1 h.2.2.1

/-- A block that holds these bytes. -/
noncomputable def laidBytes (l : List Nat) : Obj → Obj
  | .cells _ t frozen => .cells (l.map fun n : Nat => Value.int .u8 (n : Int)).toArray t frozen
  | o => o
/-- A world for the witnesses: the settled one, the two tables holding what Go's text lays. -/
noncomputable def laidWorld (os : Os) : World :=
  { World.holding Tryd.prog os ⟨#[], #[], []⟩ with heap := ((World.holding Tryd.prog os ⟨#[], #[], []⟩).heap.modify 1 (laidBytes Go.Pinned.utf8FirstZ)).modify 2 (laidBytes [128, 191, 160, 191, 128, 159, 144, 191, 128, 143, 0, 0, 0, 0, 0, 0, 0, 0, 0, 0, 0, 0, 0, 0, 0, 0, 0, 0, 0, 0, 0, 0]) }

end Go.Proofs.YtdgjnjhmjgdhnaaDoor
