/- The walk of Best: the newer one of the roots that there are. -/
import Derived.Test.YthcolmdfpciolaaWRead7
namespace Go.Proofs.Ythcolmdfpciolaa
open Go.RowKit

def bestE (S : List ByteArray) (W : List Wr) : Int := if bestB S W then 0 else 3
/-- The best one behind k sectors, and the error's number. -/
def bst (r0 : Rt) (b0 : Bool) (r1 : Rt) (b1 : Bool) : Nat → Rt
  | 0 => rt0
  | 1 => r0
  | _ => if b1 && (!b0 || decide (r0.g < r1.g)) then r1 else r0
def bse (b0 b1 : Bool) : Nat → Int
  | 0 => 3
  | 1 => if b0 then 0 else 3
  | _ => if b0 || b1 then 0 else 3

set_option maxHeartbeats 4000000 in
set_option maxRecDepth 100000 in
theorem rbest_any {v : Value} {S : List ByteArray} {W : List Wr} {w : World} (h : DV w v S W) (hn : S.length ≤ 1000000) (hm : W.length ≤ 1000000) :
    Calls Try.prog 15 #[v] w fun e w' => e = .returned (.tuple #[(bestR S W).v, .int .i64 (bestE S W)]) ∧ Below w.heap.size w w' := by
  have HR0 := Lib.hid (fun (wx : World) (hx : Below w.heap.size w wx) => rread_any (a := 0) (h.on hx) hn hm)
  have HR1 := Lib.hid (fun (wx : World) (hx : Below w.heap.size w wx) => rread_any (a := 1) (h.on hx) hn hm)
  have HE := Lib.hid (show bestR S W = bst (readR S W 0) (readB S W 0) (readR S W 1) (readB S W 1) 2 ∧ bestE S W = bse (readB S W 0) (readB S W 1) 2 from ⟨rfl, rfl⟩)
  have HN0 := Lib.hid (fun hb => readR_none (S := S) (W := W) (a := 0) hb)
  rw [HE.out.1, HE.out.2]
  clear HE
  obtain ⟨A, c, B, d, rfl, hA, hB⟩ := h
  have hb0 : Below w.heap.size w (((w.alloc (.cells #[.slice A S.length c, .slice B W.length d] 25)).alloc (.cells #[.int .i64 0, .int .i64 0, .int .i64 0] 27)).alloc (.cells #[.int .i64 0, .int .i64 0, .int .i64 0] 27)) := (below_two w _ _).alloc (below_two w _ _).size _
  have HD0 := Lib.hid (show DBlk (((w.alloc (.cells #[.slice A S.length c, .slice B W.length d] 25)).alloc (.cells #[.int .i64 0, .int .i64 0, .int .i64 0] 27)).alloc (.cells #[.int .i64 0, .int .i64 0, .int .i64 0] 27)) w.heap.size A S.length c B W.length d from Box.push (Box.push (Box.fresh _ _ _) _) _)
  have HZ0 := Lib.hid (show RBlk (((w.alloc (.cells #[.slice A S.length c, .slice B W.length d] 25)).alloc (.cells #[.int .i64 0, .int .i64 0, .int .i64 0] 27)).alloc (.cells #[.int .i64 0, .int .i64 0, .int .i64 0] 27)) (w.heap.size + 1) rt0 from Box.push (Box.at_ (w.alloc _) _ _ (by simp)) _)
  have HT0 := Lib.hid (show RBlk (((w.alloc (.cells #[.slice A S.length c, .slice B W.length d] 25)).alloc (.cells #[.int .i64 0, .int .i64 0, .int .i64 0] 27)).alloc (.cells #[.int .i64 0, .int .i64 0, .int .i64 0] 27)) (w.heap.size + 1 + 1) rt0 from Box.at_ ((w.alloc _).alloc _) _ _ (by simp))
  have HB0 := Lib.hid hb0
  clear hb0 hA hB
  generalize readB S W 0 = b0 at *
  generalize readB S W 1 = b1 at *
  generalize readR S W 0 = r0 at *
  generalize readR S W 1 = r1 at *
  generalize S.length = n at *
  generalize W.length = m at *
  obtain ⟨x0, y0, z0⟩ := r0
  obtain ⟨x1, y1, z1⟩ := r1
  obtain ⟨rr, hrr⟩ : ∃ rr, rr = bst ⟨x0, y0, z0⟩ b0 ⟨x1, y1, z1⟩ b1 2 := ⟨_, rfl⟩
  obtain ⟨ee, hee⟩ : ∃ ee, ee = bse b0 b1 2 := ⟨_, rfl⟩
  rw [← hrr, ← hee]
  obtain ⟨x, y, z⟩ := rr
  simp only [Rt.v] at HR0 HR1 ⊢
  have HRR := Lib.hid hrr
  have HEE := Lib.hid hee
  clear hrr hee
  go_enter Try.func15, Try.ntmps15
  go_wp2
  go_loopw [5, 10] (fun t i wr => ∃ (k : Nat), i = .int .i64 k ∧ k ≤ 2 ∧ t = .int .i64 (bse b0 b1 k) ∧ DBlk wr w.heap.size A n c B m d ∧ RBlk wr (w.heap.size + 1) rt0 ∧ RBlk wr (w.heap.size + 1 + 1) (bst ⟨x0, y0, z0⟩ b0 ⟨x1, y1, z1⟩ b1 k) ∧ Below w.heap.size w wr) (fun _ i _ => (2 - intOf i).toNat)
  case atStart => exact ⟨0, rfl, by omega, rfl, HD0.out, HZ0.out, HT0.out, HB0.out⟩
  case round =>
    obtain ⟨k, rfl, hk, rfl, hd, hz, ht, hb⟩ := hrel
    have HD := Lib.hid hd
    have HZ := Lib.hid hz
    have HT := Lib.hid ht
    have HB := Lib.hid hb
    have hl1 := Box.lt hd
    have hl2 := Box.lt hz
    have hl3 := Box.lt ht
    clear hd hz ht hb HD0 HZ0 HT0 HB0
    rcases (show k = 0 ∨ k = 1 ∨ k = 2 by omega) with rfl | rfl | rfl
    · obtain ⟨d0, d1⟩ := DBlk.cells HD.out
      have hrd := HR0.out wr HB.out
      go_wp2_with fail
      refine hrd.mono ?_
      clear hrd d0 d1 hl1 hl2 hl3
      rintro e w1 ⟨rfl, hb1⟩
      have HDw := Lib.hid (show DBlk w1 w.heap.size A n c B m d from Box.on HD.out hb1)
      have HZw := Lib.hid (show RBlk w1 (w.heap.size + 1) rt0 from Box.on HZ.out hb1)
      have HTw := Lib.hid (show RBlk w1 (w.heap.size + 1 + 1) (bst ⟨x0, y0, z0⟩ b0 ⟨x1, y1, z1⟩ b1 0) from Box.on HT.out hb1)
      have HBw := Lib.hid (HB.out.trans (hb1.mono HB.out.size))
      have hba : Below wr.heap.size wr (w1.alloc (.cells #[.int .i64 x0, .int .i64 y0, .int .i64 z0] 27)) := hb1.alloc hb1.size _
      have HD1 := Lib.hid (show DBlk (w1.alloc (.cells #[.int .i64 x0, .int .i64 y0, .int .i64 z0] 27)) w.heap.size A n c B m d from Box.on HD.out hba)
      have HZ1 := Lib.hid (show RBlk (w1.alloc (.cells #[.int .i64 x0, .int .i64 y0, .int .i64 z0] 27)) (w.heap.size + 1) rt0 from Box.on HZ.out hba)
      have HT1 := Lib.hid (show RBlk (w1.alloc (.cells #[.int .i64 x0, .int .i64 y0, .int .i64 z0] 27)) (w.heap.size + 1 + 1) (bst ⟨x0, y0, z0⟩ b0 ⟨x1, y1, z1⟩ b1 0) from Box.on HT.out hba)
      have HN1 := Lib.hid (show RBlk (w1.alloc (.cells #[.int .i64 x0, .int .i64 y0, .int .i64 z0] 27)) w1.heap.size ⟨x0, y0, z0⟩ from Box.fresh _ _ _)
      have HB1 := Lib.hid (HB.out.trans (hba.mono HB.out.size))
      have hl4 : w.heap.size + 2 < w1.heap.size := Nat.lt_of_lt_of_le (Box.lt HT.out) hb1.size
      have hl5 := Box.lt HN1.out
      clear hb1 hba HD HZ HT HB
      obtain ⟨n0, n1, n2⟩ := RBlk.cells HN1.out
      cases b0 with
      | true =>
        simp only [bst, bse, rt0] at HTw ⊢
        have f0 := Box.free HTw.out 0
        have f1 := Box.free HTw.out 1
        have f2 := Box.free HTw.out 2
        obtain ⟨c0, c1, c2⟩ := RBlk.cells HTw.out
        go_wp2
        obtain ⟨wz, hwz, hrz, hbz⟩ := HTw.out.put3 HBw.out (by omega) x0 y0 z0
        have hdz : DBlk wz w.heap.size A n c B m d := by rw [← hwz]; exact Box.away (Box.away (Box.away HDw.out (by simp only [ne_eq]; omega) _) (by simp only [ne_eq]; omega) _) (by simp only [ne_eq]; omega) _
        have hzz : RBlk wz (w.heap.size + 1) rt0 := by rw [← hwz]; exact Box.away (Box.away (Box.away HZw.out (by simp) _) (by simp) _) (by simp) _
        rw [hwz]
        go_roundw
        case rel => exact ⟨1, rfl, by omega, rfl, Box.push hdz _, Box.push hzz _, Box.push hrz _, hbz.alloc hbz.size _⟩
        case measure => simp [intOf]
      | false =>
        have hq := HN0.out (by trivial)
        obtain ⟨rfl, rfl, rfl⟩ : x0 = 0 ∧ y0 = 0 ∧ z0 = 0 := by simpa [rt0] using hq
        clear hq
        go_wp2
        go_roundw
        case rel => exact ⟨1, rfl, by omega, rfl, HD1.out, HZ1.out, HT1.out, HB1.out⟩
        case measure => simp [intOf]
    · obtain ⟨d0, d1⟩ := DBlk.cells HD.out
      have hrd := HR1.out wr HB.out
      go_wp2_with fail
      refine hrd.mono ?_
      clear hrd d0 d1 hl1 hl2 hl3
      rintro e w1 ⟨rfl, hb1⟩
      have HDw := Lib.hid (show DBlk w1 w.heap.size A n c B m d from Box.on HD.out hb1)
      have HZw := Lib.hid (show RBlk w1 (w.heap.size + 1) rt0 from Box.on HZ.out hb1)
      have HTw := Lib.hid (show RBlk w1 (w.heap.size + 1 + 1) (bst ⟨x0, y0, z0⟩ b0 ⟨x1, y1, z1⟩ b1 1) from Box.on HT.out hb1)
      have HBw := Lib.hid (HB.out.trans (hb1.mono HB.out.size))
      have hba : Below wr.heap.size wr (w1.alloc (.cells #[.int .i64 x1, .int .i64 y1, .int .i64 z1] 27)) := hb1.alloc hb1.size _
      have HD1 := Lib.hid (show DBlk (w1.alloc (.cells #[.int .i64 x1, .int .i64 y1, .int .i64 z1] 27)) w.heap.size A n c B m d from Box.on HD.out hba)
      have HZ1 := Lib.hid (show RBlk (w1.alloc (.cells #[.int .i64 x1, .int .i64 y1, .int .i64 z1] 27)) (w.heap.size + 1) rt0 from Box.on HZ.out hba)
      have HT1 := Lib.hid (show RBlk (w1.alloc (.cells #[.int .i64 x1, .int .i64 y1, .int .i64 z1] 27)) (w.heap.size + 1 + 1) (bst ⟨x0, y0, z0⟩ b0 ⟨x1, y1, z1⟩ b1 1) from Box.on HT.out hba)
      have HN1 := Lib.hid (show RBlk (w1.alloc (.cells #[.int .i64 x1, .int .i64 y1, .int .i64 z1] 27)) w1.heap.size ⟨x1, y1, z1⟩ from Box.fresh _ _ _)
      have HB1 := Lib.hid (HB.out.trans (hba.mono HB.out.size))
      have hl4 : w.heap.size + 2 < w1.heap.size := Nat.lt_of_lt_of_le (Box.lt HT.out) hb1.size
      have hl5 := Box.lt HN1.out
      clear hb1 hba HD HZ HT HB
      obtain ⟨n0, n1, n2⟩ := RBlk.cells HN1.out
      cases b1 with
      | false =>
        have hee : bse b0 false 2 = bse b0 false 1 := by cases b0 <;> rfl
        go_wp2
        go_roundw
        case rel => exact ⟨2, rfl, by omega, by rw [hee], HD1.out, HZ1.out, HT1.out, HB1.out⟩
        case measure => simp [intOf]
      | true =>
      cases b0 with
      | false =>
        simp only [bst, bse] at HTw ⊢
        have f0 := Box.free HTw.out 0
        have f1 := Box.free HTw.out 1
        have f2 := Box.free HTw.out 2
        obtain ⟨c0, c1, c2⟩ := RBlk.cells HTw.out
        go_wp2
        obtain ⟨wz, hwz, hrz, hbz⟩ := HTw.out.put3 HBw.out (by omega) x1 y1 z1
        have hdz : DBlk wz w.heap.size A n c B m d := by rw [← hwz]; exact Box.away (Box.away (Box.away HDw.out (by simp only [ne_eq]; omega) _) (by simp only [ne_eq]; omega) _) (by simp only [ne_eq]; omega) _
        have hzz : RBlk wz (w.heap.size + 1) rt0 := by rw [← hwz]; exact Box.away (Box.away (Box.away HZw.out (by simp) _) (by simp) _) (by simp) _
        rw [hwz]
        go_roundw
        case rel => exact ⟨2, rfl, by omega, rfl, Box.push hdz _, Box.push hzz _, Box.push hrz _, hbz.alloc hbz.size _⟩
        case measure => simp [intOf]
      | true =>
        have hgt : x0 < x1 ∨ ¬ x0 < x1 := by omega
        have t0 := (RBlk.cells HT1.out).1
        simp only [bst] at t0
        rcases hgt with hgt | hgt
        · have hd1 : decide (x0 < x1) = true := decide_eq_true hgt
          have hq : bst ⟨x0, y0, z0⟩ true ⟨x1, y1, z1⟩ true 2 = ⟨x1, y1, z1⟩ := by simp [bst, hgt]
          clear t0
          simp only [bst, bse] at HTw ⊢
          have f0 := Box.free HTw.out 0
          have f1 := Box.free HTw.out 1
          have f2 := Box.free HTw.out 2
          obtain ⟨c0, c1, c2⟩ := RBlk.cells HTw.out
          go_wp2
          obtain ⟨wz, hwz, hrz, hbz⟩ := HTw.out.put3 HBw.out (by omega) x1 y1 z1
          have hdz : DBlk wz w.heap.size A n c B m d := by rw [← hwz]; exact Box.away (Box.away (Box.away HDw.out (by simp only [ne_eq]; omega) _) (by simp only [ne_eq]; omega) _) (by simp only [ne_eq]; omega) _
          have hzz : RBlk wz (w.heap.size + 1) rt0 := by rw [← hwz]; exact Box.away (Box.away (Box.away HZw.out (by simp) _) (by simp) _) (by simp) _
          rw [hwz]
          go_roundw
          case rel => exact ⟨2, rfl, by omega, rfl, Box.push hdz _, Box.push hzz _, by rw [hq]; exact Box.push hrz _, hbz.alloc hbz.size _⟩
          case measure => simp [intOf]
        · have hd1 : decide (x0 < x1) = false := decide_eq_false hgt
          have hq : bst ⟨x0, y0, z0⟩ true ⟨x1, y1, z1⟩ true 2 = ⟨x0, y0, z0⟩ := by simp [bst, hgt]
          simp only [bse]
          go_wp2
          go_roundw
          case rel => exact ⟨2, rfl, by omega, rfl, HD1.out, HZ1.out, by rw [hq]; exact HT1.out, HB1.out⟩
          case measure => simp [intOf]
    · rw [← HRR.out] at HT
      rw [← HEE.out]
      obtain ⟨d0, d1⟩ := DBlk.cells HD.out
      obtain ⟨t0, t1, t2⟩ := RBlk.cells HT.out
      have f0 := Box.free HZ.out 0
      have f1 := Box.free HZ.out 1
      have f2 := Box.free HZ.out 2
      obtain ⟨c0, c1, c2⟩ := RBlk.cells HZ.out
      go_wp2
      obtain ⟨wz, hwz, hrz, hbz⟩ := HZ.out.put3 HB.out (by omega) x y z
      rw [hwz]
      obtain ⟨p0, p1, p2⟩ := RBlk.cells hrz
      exact bodyPost_ret (v := .tuple #[(⟨x, y, z⟩ : Rt).v, .int .i64 ee]) (by simp [results, Try.results15, go_sem, Rt.v, p0, p1, p2]) rfl ⟨rfl, hbz⟩

end Go.Proofs.Ythcolmdfpciolaa
