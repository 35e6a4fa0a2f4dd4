/- Blocks that wait for a disk, blocks that have it: for lines that make disks in an order that is drawn. -/
import Derived.Test.YthcolmdfpciolaaHold
import Derived.Test.YthcolmdfpciolaaPhase
namespace Go.Proofs.Ythcolmdfpciolaa
open Go.RowKit

def ptr (g : Nat) : Value := .pointer (some ⟨g, 0, none⟩)
theorem ptr_inj {g h : Nat} (e : ptr g = ptr h) : g = h := by unfold ptr at e; simpa using e

/-- A pointer to a block that waits for a disk; to one that has it. -/
def Zero (base : Nat) (w : World) (v : Value) : Prop := ∃ g, v = ptr g ∧ base ≤ g ∧ DBlk w g none 0 0 none 0 0
def Fill (base n m : Nat) (S : List ByteArray) (W : List Wr) (w : World) (v : Value) : Prop := ∃ g A c B d, v = ptr g ∧ base ≤ g ∧ DBlk w g A n c B m d ∧ DV w (.agg #[.slice A n c, .slice B m d]) S W
theorem Zero.on {base : Nat} {w w' : World} {v : Value} (h : Zero base w v) (hb : Below w.heap.size w w') : Zero base w' v := by
  obtain ⟨g, e, h1, h2⟩ := h
  exact ⟨g, e, h1, Box.on h2 hb⟩
theorem Fill.on {base n m : Nat} {S : List ByteArray} {W : List Wr} {w w' : World} {v : Value} (h : Fill base n m S W w v) (hb : Below w.heap.size w w') : Fill base n m S W w' v := by
  obtain ⟨g, A, c, B, d, e, h1, h2, h3⟩ := h
  exact ⟨g, A, c, B, d, e, h1, Box.on h2 hb, h3.on hb⟩
theorem Zero.fresh {base : Nat} (w : World) (h : base ≤ w.heap.size) : Zero base (w.alloc (.cells #[.slice none 0 0, .slice none 0 0] 25)) (ptr w.heap.size) := ⟨w.heap.size, rfl, h, Box.fresh _ _ _⟩

/-- The world when a disk was stored. -/
def laidD (w : World) (g : Nat) (A : Option Addr) (n c : Nat) (B : Option Addr) (m d : Nat) : World := (w.setCell ⟨g, 0, none⟩ (.slice A n c)).setCell ⟨g, 1, none⟩ (.slice B m d)
theorem laid_fill {base g n m c d : Nat} {A B : Option Addr} {S : List ByteArray} {W : List Wr} {w : World} (hg : base ≤ g) (hz : DBlk w g none 0 0 none 0 0) (hv : DV w (.agg #[.slice A n c, .slice B m d]) S W) : Fill base n m S W (laidD w g A n c B m d) (ptr g) :=
  ⟨g, A, c, B, d, rfl, hg, Box.set (Box.set hz 0 _) 1 _, hv.apart hz A n c B m d⟩
theorem laid_dv {g n m c d : Nat} {A B : Option Addr} {S : List ByteArray} {W : List Wr} {w : World} {v : Value} (hz : DBlk w g none 0 0 none 0 0) (hv : DV w v S W) : DV (laidD w g A n c B m d) v S W := hv.apart hz A n c B m d
theorem laid_zero {base g h n m c d : Nat} {A B : Option Addr} {w : World} (hh : base ≤ h) (hz : DBlk w h none 0 0 none 0 0) (hne : g ≠ h) : Zero base (laidD w g A n c B m d) (ptr h) :=
  ⟨h, rfl, hh, Box.away (Box.away hz (fun e => hne e.symm) _) (fun e => hne e.symm) _⟩
theorem laid_old {base g n m c d n2 m2 : Nat} {A B : Option Addr} {S : List ByteArray} {W : List Wr} {w : World} {v : Value} (hz : DBlk w g none 0 0 none 0 0) (hf : Fill base n2 m2 S W w v) (hne : ∀ h, v = ptr h → g ≠ h) : Fill base n2 m2 S W (laidD w g A n c B m d) v := by
  obtain ⟨h, A', c', B', d', e, h1, h2, h3⟩ := hf
  exact ⟨h, A', c', B', d', e, h1, Box.away (Box.away h2 (fun e' => hne h e e'.symm) _) (fun e' => hne h e e'.symm) _, laid_dv hz h3⟩
theorem laid_below {base g n m c d : Nat} {A B : Option Addr} {w0 w : World} (hb : Below base w0 w) (hg : base ≤ g) : Below base w0 (laidD w g A n c B m d) := (hb.setCell hg _).setCell hg _
theorem laid_size {g n m c d : Nat} {A B : Option Addr} {w : World} : (laidD w g A n c B m d).heap.size = w.heap.size := by unfold laidD; simp

theorem phase1 {F : Nat → Nat → Oper → Prop} {l : List Oper} (h : Steps1 (F 0) 0 l) (h1 : Steps1 (F 1) 0 l) : ∀ (p i : Nat) (o : Oper), l.toArray[i]? = some o → p ≤ 1 → F p i o := fun p i o hi hp => by
  match p, hp with
  | 0, _ => exact steps_of h i o hi
  | 1, _ => exact steps_of h1 i o hi

theorem laid_strs {g n m c d B0 : Nat} {A B A0 : Option Addr} {w : World} {l : List ByteArray} (hz : DBlk w g none 0 0 none 0 0) (h : Strs w B0 A0 l) : Strs (laidD w g A n c B m d) B0 A0 l := by
  have h1 := h.apart hz 0 (.slice A n c)
  have hz1 : DBlk (w.setCell ⟨g, 0, none⟩ (.slice A n c)) g A n c none 0 0 := Box.set hz 0 _
  exact h1.apart hz1 1 _
theorem laid_row {g n m c d : Nat} {A B : Option Addr} {w : World} {v : Value} {l : List ByteArray} (hz : DBlk w g none 0 0 none 0 0) (h : RowV w v l) : RowV (laidD w g A n c B m d) v l := by
  obtain ⟨A0, c0, e, hs, hc⟩ := h
  exact ⟨A0, c0, e, by rw [laid_size]; exact laid_strs hz hs, hc⟩

/-- An answer of Put: a disk, and no error. -/
def Tup (n m : Nat) (S : List ByteArray) (W : List Wr) (w : World) (v : Value) : Prop := ∃ A c B d, v = .tuple #[.agg #[.slice A n c, .slice B m d], .int .i64 0] ∧ DV w (.agg #[.slice A n c, .slice B m d]) S W
theorem Tup.on {n m : Nat} {S : List ByteArray} {W : List Wr} {w w' : World} {v : Value} (h : Tup n m S W w v) (hb : Below w.heap.size w w') : Tup n m S W w' v := by
  obtain ⟨A, c, B, d, e, h⟩ := h
  exact ⟨A, c, B, d, e, h.on hb⟩
theorem laid_tup {g n m c d n' m' : Nat} {A B : Option Addr} {S : List ByteArray} {W : List Wr} {w : World} {v : Value} (hz : DBlk w g none 0 0 none 0 0) (h : Tup n m S W w v) : Tup n m S W (laidD w g A n' c B m' d) v := by
  obtain ⟨A1, c1, B1, d1, e, h⟩ := h
  exact ⟨A1, c1, B1, d1, e, laid_dv hz h⟩
/-- A disk of so many. -/
def Dsk (n m : Nat) (S : List ByteArray) (W : List Wr) (w : World) (v : Value) : Prop := ∃ A c B d, v = .agg #[.slice A n c, .slice B m d] ∧ DV w (.agg #[.slice A n c, .slice B m d]) S W
theorem Dsk.on {n m : Nat} {S : List ByteArray} {W : List Wr} {w w' : World} {v : Value} (h : Dsk n m S W w v) (hb : Below w.heap.size w w') : Dsk n m S W w' v := by
  obtain ⟨A, c, B, d, e, h⟩ := h
  exact ⟨A, c, B, d, e, h.on hb⟩
theorem laid_dsk {g n m c d n' m' : Nat} {A B : Option Addr} {S : List ByteArray} {W : List Wr} {w : World} {v : Value} (hz : DBlk w g none 0 0 none 0 0) (h : Dsk n m S W w v) : Dsk n m S W (laidD w g A n' c B m' d) v := by
  obtain ⟨A1, c1, B1, d1, e, h⟩ := h
  exact ⟨A1, c1, B1, d1, e, laid_dv hz h⟩

end Go.Proofs.Ythcolmdfpciolaa
