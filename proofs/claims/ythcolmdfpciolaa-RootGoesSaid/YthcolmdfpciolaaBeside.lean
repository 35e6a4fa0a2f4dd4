/- Disks beside roots' blocks: content tells blocks apart. -/
import Derived.Test.YthcolmdfpciolaaAwake
namespace Go.Proofs.Ythcolmdfpciolaa
open Go.RowKit

/-- A cell that holds a string lies in no root's block. -/
theorem rcell_apart {w : World} {g : Nat} {r : Rt} (h : RBlk w g r) {p : Addr} {s : ByteArray} (hv : w.cell? p = some (.string s)) : p.block ≠ g := by
  intro e
  have h1 : w.heap[p.block]? = some (.cells #[.int .i64 r.g, .int .i64 r.a, .int .i64 r.n] 27 (0, 0)) := by rw [e]; exact h
  unfold World.cell? at hv
  rw [h1] at hv
  rcases Nat.lt_or_ge p.off 3 with ho | ho
  · rcases (by omega : p.off = 0 ∨ p.off = 1 ∨ p.off = 2) with h0 | h0 | h0 <;> simp [h0] at hv
  · simp [ho] at hv
theorem Strs.rbeside {w : World} {B0 g : Nat} {A0 : Option Addr} {l : List ByteArray} {r : Rt} (h : Strs w B0 A0 l) (hd : RBlk w g r) (i : Nat) (v : Value) : Strs (w.setCell ⟨g, i, none⟩ v) B0 A0 l := fun hl => by
  obtain ⟨ad, e, hB, hc⟩ := h hl
  exact ⟨ad, e, hB, fun j hj => (World.cell?_of_block (Below.heap_setCell w _ v _ (rcell_apart hd (hc j hj)))).trans (hc j hj)⟩
theorem Wrs.rbeside {w : World} {B0 g : Nat} {A0 : Option Addr} {l : List Wr} {r : Rt} (h : Wrs w B0 A0 l) (hd : RBlk w g r) (i : Nat) (v : Value) : Wrs (w.setCell ⟨g, i, none⟩ v) B0 A0 l := fun hl => by
  obtain ⟨ad, e, hB, hc⟩ := h hl
  refine ⟨ad, e, hB, fun j hj k u hu => (World.cell?_of_block (Below.heap_setCell w _ v _ ?_)).trans (hc j hj k u hu)⟩
  have h1 := rcell_apart hd (hc j hj 1 (.string l[j].tx) rfl)
  rw [block_of_add, block_of_add] at h1 ⊢
  exact h1
theorem DV.rbeside1 {w : World} {g : Nat} {v : Value} {S : List ByteArray} {W : List Wr} {r : Rt} (h : DV w v S W) (hd : RBlk w g r) (i : Nat) (x : Value) : DV (w.setCell ⟨g, i, none⟩ x) v S W := by
  obtain ⟨A0, c0, B0, d0, e, h1, h2⟩ := h
  refine ⟨A0, c0, B0, d0, e, ?_, ?_⟩
  · simpa using h1.rbeside hd i x
  · simpa using Wrs.rbeside h2 hd i x
theorem DV.rbeside {w : World} {g : Nat} {v : Value} {S : List ByteArray} {W : List Wr} {r : Rt} (h : DV w v S W) (hd : RBlk w g r) (x y z : Int) : DV (((w.setCell ⟨g, 0, none⟩ (.int .i64 x)).setCell ⟨g, 1, none⟩ (.int .i64 y)).setCell ⟨g, 2, none⟩ (.int .i64 z)) v S W := by
  have h0 := h.rbeside1 hd 0 (.int .i64 x)
  have d0 : RBlk (w.setCell ⟨g, 0, none⟩ (.int .i64 x)) g ⟨x, r.a, r.n⟩ := Box.set hd 0 _
  have h1 := h0.rbeside1 d0 1 (.int .i64 y)
  have d1 : RBlk ((w.setCell ⟨g, 0, none⟩ (.int .i64 x)).setCell ⟨g, 1, none⟩ (.int .i64 y)) g ⟨x, y, r.n⟩ := Box.set d0 1 _
  exact h1.rbeside1 d1 2 (.int .i64 z)
theorem DBlk.rbeside {w : World} {g gr : Nat} {A : Option Addr} {n c : Nat} {B : Option Addr} {m d : Nat} {r : Rt} (h : DBlk w g A n c B m d) (hd : RBlk w gr r) (x y z : Value) : DBlk (((w.setCell ⟨gr, 0, none⟩ x).setCell ⟨gr, 1, none⟩ y).setCell ⟨gr, 2, none⟩ z) g A n c B m d :=
  Box.away (Box.away (Box.away h (fun e => hd.apart h e.symm) _) (fun e => hd.apart h e.symm) _) (fun e => hd.apart h e.symm) _
theorem Holds.rbeside {w0 w : World} {g gr : Nat} {A : Option Addr} {n c : Nat} {B : Option Addr} {m d : Nat} {S : List ByteArray} {W : List Wr} {r : Rt} (h : Holds w0 w g A n c B m d S W) (hd : RBlk w gr r) (hg : w0.heap.size ≤ gr) (x y z : Int) :
    Holds w0 (((w.setCell ⟨gr, 0, none⟩ (.int .i64 x)).setCell ⟨gr, 1, none⟩ (.int .i64 y)).setCell ⟨gr, 2, none⟩ (.int .i64 z)) g A n c B m d S W :=
  ⟨h.dv.rbeside hd x y z, DBlk.rbeside h.blk hd _ _ _, h.low, below3 h.below hg⟩
/-- One root's block beside another one. -/
theorem RBlk.away3 {w : World} {g gr : Nat} {r : Rt} (h : RBlk w g r) (hne : g ≠ gr) (x y z : Value) : RBlk (((w.setCell ⟨gr, 0, none⟩ x).setCell ⟨gr, 1, none⟩ y).setCell ⟨gr, 2, none⟩ z) g r :=
  Box.away (Box.away (Box.away h hne _) hne _) hne _

end Go.Proofs.Ythcolmdfpciolaa
