/- A row of bytes of the call's own, turned into a string; of whatever program. -/
import Derived.WalkKit
import Derived.WalkSpells
import Derived.Laws.BytesArg
import Derived.Lib.Hide
import Derived.Lib.UnsafeStr
import Derived.Lib.ConvBytes
import Derived.Below
namespace Go.Proofs.Ytaodhghpphpflaa
open Go.RowKit

theorem conv_row {P : Program} {w : World} {base g cap : Nat} {l : List UInt8} {ts te tt : TypeId} (h1 : P.underlying ts = some (.slice te)) (h2 : P.underlying te = some (.int .u8)) (h3 : P.underlying tt = some .string)
    (h : w.ownsRow base te 1 (.slice (some ⟨g, 0, none⟩) l.length cap) l.length (Lib.byteCells l)) :
    (convert ts tt (.slice (some ⟨g, 0, none⟩) l.length cap)).run P w = .ok (.string ⟨l.toArray⟩) w := by
  have h4 := run_convert_bytes_arg (P := P) w ts te h1 h2 g 0 l.length cap (l.map fun c => (c.toNat : Int)) (by simp) (fun i hi => by
    rw [Nat.zero_add, h.cellAt i (by omega)]
    simp [Lib.byteCells, hi]) tt h3
  rw [h4]
  simp only [strOfNums, List.map_map]
  congr 3
  apply congrArg List.toArray
  conv => rhs; rw [← List.map_id l]
  apply List.map_congr_left
  intro c _
  simp

/-- Bytes that lie in cells, whoever made them. -/
theorem conv_cells {P : Program} {w : World} {g cap n : Nat} {l : List UInt8} {ts te tt : TypeId} (h1 : P.underlying ts = some (.slice te)) (h2 : P.underlying te = some (.int .u8)) (h3 : P.underlying tt = some .string)
    (hl : l.length = n) (h : ∀ i, i < n → w.cell? ⟨g, i, none⟩ = some (.int .u8 ((l.getD i 0).toNat : Int))) :
    (convert ts tt (.slice (some ⟨g, 0, none⟩) n cap)).run P w = .ok (.string ⟨l.toArray⟩) w := by
  subst hl
  have h4 := run_convert_bytes_arg (P := P) w ts te h1 h2 g 0 l.length cap (l.map fun c => (c.toNat : Int)) (by simp) (fun i hi => by
    rw [Nat.zero_add, h i (by omega)]
    simp [hi]) tt h3
  rw [h4]
  simp only [strOfNums, List.map_map]
  congr 3
  apply congrArg List.toArray
  conv => rhs; rw [← List.map_id l]
  apply List.map_congr_left
  intro c _
  simp

/-- The bytes l lie in block g, from its beginning on, and may be written. -/
def BytesAt (w : World) (g : Nat) (l : List UInt8) : Prop := ∀ i, i < l.length → w.cell? ⟨g, i, none⟩ = some (.int .u8 ((l.getD i 0).toNat : Int)) ∧ w.frozen? ⟨g, i, none⟩ = false

theorem BytesAt.drew {w : World} {g : Nat} {l : List UInt8} (h : BytesAt w g l) : BytesAt w.drew g l := h

theorem BytesAt.set {w : World} {g : Nat} {l : List UInt8} (h : BytesAt w g l) (k : Nat) (c : UInt8) (hk : k < l.length) : BytesAt (w.setCell ⟨g, k, none⟩ (.int .u8 (c.toNat : Int))) g (l.set k c) := by
  intro i hi
  rw [List.length_set] at hi
  have h1 := h i hi
  have hf : (w.setCell ⟨g, k, none⟩ (.int .u8 (c.toNat : Int))).frozen? ⟨g, i, none⟩ = false := by simpa using h1.2
  refine ⟨?_, hf⟩
  by_cases hik : i = k
  · subst hik
    have h2 := World.cell?_setCell_same w ⟨g, i, none⟩ (.int .u8 (c.toNat : Int)) h1.1
    rw [h2]; simp [hi]
  · rw [World.cell?_setCell_other w _ _ _ (by intro e; injection e with _ e2; exact hik e2.symm), h1.1]
    simp [Ne.symm hik]

/-- A string's bytes, laid in a block of their own. -/
theorem conv_bytes {P : Program} {ts tt te : TypeId} (h1 : P.underlying ts = some .string) (h2 : P.underlying tt = some (.slice te)) (h3 : P.underlying te = some (.int .u8)) (s : ByteArray) (w : World) :
    ∃ cap w1, (convert ts tt (.string s)).run P w = .ok (.slice (some ⟨w.heap.size, 0, none⟩) s.size cap) w1 ∧ Below w.heap.size w w1 ∧ BytesAt w1 w.heap.size s.data.toList := by
  refine ⟨_, _, Lib.run_convert_string_bytes w ts tt te s h1 h2 h3, ⟨?_, ?_, ?_, ?_, ?_⟩, ?_⟩
  · simp [Lib.bytesWorld, World.freeze, World.alloc, World.drew, -World.alloc_eq, -World.drew_eq]
  · simp [Lib.bytesWorld, World.freeze, World.alloc, World.drew, -World.alloc_eq, -World.drew_eq]
  · simp [Lib.bytesWorld, World.freeze, World.alloc, World.drew, -World.alloc_eq, -World.drew_eq]
  · rw [Lib.bytesWorld_size]; omega
  · intro k hk; exact Lib.bytesWorld_at_old w te s k hk
  · intro i hi
    have hi' : i < s.size := by simpa using hi
    refine ⟨Lib.bytesWorld_cell w te s i hi', ?_⟩
    unfold World.frozen?
    rw [Lib.bytesWorld_at_new]
    simp [Lib.bytesCells]
    omega

end Go.Proofs.Ytaodhghpphpflaa
