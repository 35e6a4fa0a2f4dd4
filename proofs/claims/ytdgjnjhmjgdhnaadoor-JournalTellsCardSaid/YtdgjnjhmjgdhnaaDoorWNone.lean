/- The walk of disk.Read of what is no disk, or of places that it does not have (layer 6's). -/
import Derived.Test.YtdgjnjhmjgdhnaaDoorDv
namespace Go.Proofs.YtdgjnjhmjgdhnaaDoor
open Go.RowKit

set_option maxHeartbeats 1000000 in
theorem read_bad {v : Value} {S : List ByteArray} {W : List Wr} {a k : Int} {w : World} (h : DV w v S W) (hn : S.length ≤ 1000000) (hm : W.length ≤ 1000000) (hbad : rightB S W = false ∨ hasB S.length a k = false) :
    Calls Tryd.prog 37 #[v, .int .i64 a, .int .i64 k] w fun e w' => e = .returned (.tuple #[.string ⟨#[]⟩, .int .i64 1]) ∧ Below w.heap.size w w' := by
  obtain ⟨A, c, B, d, rfl, hA, hB⟩ := h
  have hb0 : Below w.heap.size w (w.alloc (.cells #[.slice A S.length c, .slice B W.length d] 36)) := (Below.refl _ _).alloc (Nat.le_refl _) _
  have HD := Lib.hid (show DBlk (w.alloc (.cells #[.slice A S.length c, .slice B W.length d] 36)) w.heap.size A S.length c B W.length d from Box.fresh _ _ _)
  have hrt := right_any A c S B d W _ (hA.on hb0) (Lies.on hB hb0) hn hm
  have HB0 := Lib.hid hb0
  generalize S.length = n at *
  generalize W.length = m at *
  clear hA hB hb0
  go_enter Tryd.func37, Tryd.ntmps37
  go_wp2_with fail
  refine hrt.mono ?_
  clear hrt
  rintro e w1 ⟨rfl, hb1⟩
  have HD1 := Lib.hid (show DBlk w1 w.heap.size A n c B m d from Box.on HD.out hb1)
  have HB1 := Lib.hid (HB0.out.trans (hb1.mono HB0.out.size))
  have hz1 : w.heap.size < w1.heap.size := Box.lt HD1.out
  obtain ⟨d1, d2⟩ := DBlk.cells HD1.out
  clear HD HB0 hb1
  cases hR : rightB S W with
  | false =>
    clear hR hbad
    go_wp2
    go_ret2
    exact ⟨rfl, HB1.out⟩
  | true =>
    have hh : hasB n a k = false := by rcases hbad with h | h; (rw [hR] at h; cases h); exact h
    have hhas := has_any A c B n m d a k w1 hn
    rw [hh] at hhas
    clear hbad hR hh
    go_wp2_with fail
    refine hhas.mono ?_
    clear hhas d1 d2
    rintro e w2 ⟨rfl, hb2⟩
    go_wp2
    go_ret2
    exact ⟨rfl, HB1.out.trans (hb2.mono HB1.out.size)⟩

end Go.Proofs.YtdgjnjhmjgdhnaaDoor
