/- The walks of Flush and Crash, of disks that are right. -/
import Derived.Test.YtdgjnjhmjgdhnaaDoorWDone
namespace Go.Proofs.YtdgjnjhmjgdhnaaDoor
open Go.RowKit

/-- A value that is a disk with these sectors and these writes waiting. -/
def DV (w : World) (v : Value) (S : List ByteArray) (W : List Wr) : Prop := ∃ A c B d, v = .agg #[.slice A S.length c, .slice B W.length d] ∧ Strs w w.heap.size A S ∧ Wrs w w.heap.size B W
theorem DV.on {w w' : World} {v : Value} {S : List ByteArray} {W : List Wr} (h : DV w v S W) (hb : Below w.heap.size w w') : DV w' v S W := by
  obtain ⟨A, c, B, d, e, h1, h2⟩ := h
  exact ⟨A, c, B, d, e, h1.on hb, h2.on hb⟩

/-- The blocks of a call that takes a disk and answers one: the disk, and the answer's place. -/
def Two (w : World) (g : Nat) (A : Option Addr) (n c : Nat) (B : Option Addr) (m d : Nat) : Prop :=
  DBlk w g A n c B m d ∧ DBlk w (g + 1) none 0 0 none 0 0
theorem Two.laid (w : World) (A : Option Addr) (n c : Nat) (B : Option Addr) (m d : Nat) :
    Two ((w.alloc (.cells #[.slice A n c, .slice B m d] 36)).alloc (.cells #[.slice none 0 0, .slice none 0 0] 36)) w.heap.size A n c B m d :=
  ⟨Box.push (Box.fresh _ _ _) _, Box.at_ (w.alloc _) _ _ (by simp)⟩
theorem Two.on {w w' : World} {g : Nat} {A : Option Addr} {n c : Nat} {B : Option Addr} {m d : Nat} (h : Two w g A n c B m d) (hb : Below w.heap.size w w') : Two w' g A n c B m d := ⟨Box.on h.1 hb, Box.on h.2 hb⟩
theorem below_two (w : World) (o p : Obj) : Below w.heap.size w ((w.alloc o).alloc p) := ((Below.refl _ _).alloc (Nat.le_refl _) _).alloc (by simp) _
theorem below_of_two {w w' : World} {o p : Obj} (h : Below ((w.alloc o).alloc p).heap.size ((w.alloc o).alloc p) w') : Below w.heap.size w w' := (below_two w o p).trans (h.mono (by simp; omega))

theorem size_two (w : World) (o p : Obj) : ((w.alloc o).alloc p).heap.size = w.heap.size + 2 := by simp

/-- What lies in the answer's place behind the last store. -/
theorem ans_cells {w : World} {g : Nat} {A : Option Addr} {n c : Nat} {B : Option Addr} {m d : Nat} (x y : Value) (h : DBlk w g A n c B m d) :
    ((w.setCell ⟨g, 0, none⟩ x).setCell ⟨g, 1, none⟩ y).cell? ⟨g, 0, none⟩ = some x ∧ ((w.setCell ⟨g, 0, none⟩ x).setCell ⟨g, 1, none⟩ y).cell? ⟨g, 1, none⟩ = some y := by
  have h2 := Box.set (Box.set h 0 x) 1 y
  exact ⟨Box.cell h2 0 rfl, Box.cell h2 1 rfl⟩

/-- A row of the call's own that is answered, in a world whose other blocks alone were written since. -/
theorem Strs.answered {w : World} {base g cap n g' : Nat} {l : List ByteArray} {x y : Value} (h : w.ownsRow base 9 1 (.slice (some ⟨g, 0, none⟩) n cap) n (l.map Value.string)) (hl : l.length = n) (hg : g' < base) :
    Strs ((w.setCell ⟨g', 0, none⟩ x).setCell ⟨g', 1, none⟩ y) ((w.setCell ⟨g', 0, none⟩ x).setCell ⟨g', 1, none⟩ y).heap.size (some ⟨g, 0, none⟩) l := by
  have h1 := ownsRow_setCell_below (ownsRow_setCell_below h (a := ⟨g', 0, none⟩) hg x) (a := ⟨g', 1, none⟩) hg y
  rw [← hl] at h1
  exact Strs.own h1

theorem Strs.away {w : World} {B : Nat} {A : Option Addr} {l : List ByteArray} {p : Addr} (h : Strs w B A l) (hp : ∀ ad, A = some ad → ad.block ≠ p.block) (v : Value) : Strs (w.setCell p v) B A l := fun hl => by
  obtain ⟨ad, e, hB, hc⟩ := h hl
  exact ⟨ad, e, hB, fun i hi => (World.cell?_of_block (Below.heap_setCell w p v _ (by rw [block_of_add]; exact hp ad e))).trans (hc i hi)⟩

/-- A cell that holds no slice lies in no block of slices alone. -/
theorem cell_apart {w : World} {g : Nat} {A : Option Addr} {n c : Nat} {B : Option Addr} {m d : Nat} (h : DBlk w g A n c B m d) {p : Addr} {v : Value} (hv : w.cell? p = some v) (hs : ∀ x y z, v ≠ .slice x y z) : p.block ≠ g := by
  intro e
  have h1 : w.heap[p.block]? = some (.cells #[.slice A n c, .slice B m d] 36 (0, 0)) := by rw [e]; exact h
  unfold World.cell? at hv
  rw [h1] at hv
  rcases Nat.lt_or_ge p.off 2 with ho | ho
  · rcases (by omega : p.off = 0 ∨ p.off = 1) with h0 | h0 <;> (simp [h0] at hv; exact hs _ _ _ hv.2.symm)
  · simp [ho] at hv
theorem Strs.apart {w : World} {B0 g : Nat} {A0 : Option Addr} {l : List ByteArray} {A : Option Addr} {n c : Nat} {B : Option Addr} {m d : Nat} (h : Strs w B0 A0 l) (hd : DBlk w g A n c B m d) (i : Nat) (v : Value) : Strs (w.setCell ⟨g, i, none⟩ v) B0 A0 l := fun hl => by
  obtain ⟨ad, e, hB, hc⟩ := h hl
  refine ⟨ad, e, hB, fun j hj => (World.cell?_of_block (Below.heap_setCell w _ v _ ?_)).trans (hc j hj)⟩
  exact cell_apart hd (hc j hj) (by intro x y z; simp)
theorem Wrs.apart {w : World} {B0 g : Nat} {A0 : Option Addr} {l : List Wr} {A : Option Addr} {n c : Nat} {B : Option Addr} {m d : Nat} (h : Wrs w B0 A0 l) (hd : DBlk w g A n c B m d) (i : Nat) (v : Value) : Wrs (w.setCell ⟨g, i, none⟩ v) B0 A0 l := fun hl => by
  obtain ⟨ad, e, hB, hc⟩ := h hl
  refine ⟨ad, e, hB, fun j hj k u hu => (World.cell?_of_block (Below.heap_setCell w _ v _ ?_)).trans (hc j hj k u hu)⟩
  refine cell_apart hd (hc j hj k u hu) ?_
  have := wrs_plain [l[j]] u (by simpa [Wr.cells] using List.mem_of_getElem? hu)
  unfold Wr.cells at hu
  match k, hu with
  | 0, hu => (simp at hu; subst hu; intro x y z; simp)
  | 1, hu => (simp at hu; subst hu; intro x y z; simp)
  | k + 2, hu => simp at hu
/-- A disk stays as it is when one is stored in a block of its own. -/
theorem DV.apart {w : World} {g : Nat} {v : Value} {S : List ByteArray} {W : List Wr} {A : Option Addr} {n c : Nat} {B : Option Addr} {m d : Nat} (h : DV w v S W) (hd : DBlk w g A n c B m d) (A' : Option Addr) (n' c' : Nat) (B' : Option Addr) (m' d' : Nat) :
    DV ((w.setCell ⟨g, 0, none⟩ (.slice A' n' c')).setCell ⟨g, 1, none⟩ (.slice B' m' d')) v S W := by
  obtain ⟨A0, c0, B0, d0, e, h1, h2⟩ := h
  have hd2 : DBlk (w.setCell ⟨g, 0, none⟩ (.slice A' n' c')) g A' n' c' B m d := Box.set hd 0 _
  refine ⟨A0, c0, B0, d0, e, ?_, ?_⟩
  · simpa using (h1.apart hd 0 _).apart hd2 1 _
  · simpa using (Wrs.apart (Wrs.apart h2 hd 0 _) hd2 1 _)

set_option maxHeartbeats 1000000 in
theorem flush_right (A : Option Addr) (c : Nat) (S : List ByteArray) (B : Option Addr) (d : Nat) (W : List Wr) (w : World) (hA : Strs w w.heap.size A S) (hB : Wrs w w.heap.size B W) (hm : W.length ≤ 1000000) (hR : rightB S W = true) :
    Calls Tryd.prog 25 #[.agg #[.slice A S.length c, .slice B W.length d]] w fun e w' => ∃ v', e = .returned v' ∧ DV w' v' (doneL S W) [] ∧ Below w.heap.size w w' := by
  obtain ⟨r1, r2, r3, r4⟩ := right_parts hR
  have hA0 := hA.on (below_two w (.cells #[.slice A S.length c, .slice B W.length d] 36) (.cells #[.slice none 0 0, .slice none 0 0] 36))
  have hB0 := Lies.on hB (below_two w (.cells #[.slice A S.length c, .slice B W.length d] 36) (.cells #[.slice none 0 0, .slice none 0 0] 36))
  have HT := Lib.hid (Two.laid w A S.length c B W.length d)
  have hrt := right_any A c S B d W _ hA0 hB0 (by omega) hm
  rw [hR] at hrt
  have HWR := Lib.hid (fun (w1 : World) (h : Below _ _ w1) => written_any A c S B d W w1 (hA0.on h) (hB0.on h) (by omega) hm r1 (fun x hx => (r4 x hx).2))
  have HDL := Lib.hid (done_len S W)
  generalize S.length = n at *
  generalize W.length = m at *
  clear hA hB hA0 hB0 r1 r2 r3 r4 hR
  go_enter Tryd.func25, Tryd.ntmps25
  go_wp2_with fail
  refine hrt.mono ?_
  clear hrt
  rintro e w1 ⟨rfl, hb1⟩
  have hw := HWR.out w1 hb1
  have HT1 := Lib.hid (HT.out.on hb1)
  have hz1 : w.heap.size + 1 < w1.heap.size := Box.lt HT1.out.2
  obtain ⟨d1, d2⟩ := DBlk.cells HT1.out.1
  have HB1 := Lib.hid (below_of_two hb1)
  clear HT HWR hb1
  go_wp2_with fail
  refine hw.mono ?_
  clear hw d1 d2
  rintro e w2 ⟨g, cap, rfl, hown, hb2⟩
  have hT2 := HT1.out.on hb2
  have f0 := Box.free hT2.2 0
  have f1 := Box.free hT2.2 1
  obtain ⟨k0, k1⟩ := DBlk.cells hT2.2
  have HO := Lib.hid hown
  have HT2 := Lib.hid hT2
  have hz2 : w.heap.size + 1 < w2.heap.size := Box.lt hT2.2
  have HB2 := Lib.hid (HB1.out.trans (hb2.mono HB1.out.size))
  clear hown hb2 hT2 HB1 HT1
  go_wp2
  have hp := ans_cells (.slice (some ⟨g, 0, none⟩) n cap) (.slice none 0 0) HT2.out.2
  exact bodyPost_ret (v := .agg #[.slice (some ⟨g, 0, none⟩) n cap, .slice none 0 0]) (by simp [results, Tryd.results25, go_sem, hp.1, hp.2]) rfl
    ⟨_, rfl, ⟨some ⟨g, 0, none⟩, cap, none, 0, by rw [HDL.out]; rfl, Strs.answered HO.out HDL.out hz1, Lies.nil⟩, (HB2.out.setCell (by simp) _).setCell (by simp) _⟩

end Go.Proofs.YtdgjnjhmjgdhnaaDoor
