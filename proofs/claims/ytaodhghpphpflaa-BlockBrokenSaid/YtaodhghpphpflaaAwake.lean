/- The walk of 'awake', the fixed answer at each statement's end: it is true. -/
import Derived.Test.YtaodhghpphpflaaWTell
namespace Go.Proofs.Ytaodhghpphpflaa
open Go.RowKit

def abcS : ByteArray := ⟨#[97, 98, 99]⟩
def azS : ByteArray := ⟨#[97, 98, 99, 100, 101, 102, 103, 104, 105, 106, 107, 108, 109, 110, 111, 112, 113, 114, 115, 116, 117, 118, 119, 120, 121, 122]⟩
def aw0 : List ByteArray := [zeroS, zeroS, zeroS]
def awW : List Wr := putL 1 (secsL [97, 98, 99])
theorem aw_r0 : rightB aw0 [] = true := by decide +kernel
theorem aw_r1 : rightB aw0 awW = true := by decide +kernel
theorem aw_len : awW.length = 1 := by decide +kernel
theorem aw_t1 : tellT (readS aw0 awW 1 1).data.toList 1 = [97, 98, 99] ∧ tellE (readS aw0 awW 1 1).data.toList 1 = 0 := by decide +kernel
theorem aw_t2 : tellT (readS aw0 awW 1 2).data.toList 2 = [] ∧ tellE (readS aw0 awW 1 2).data.toList 2 = 2 := by decide +kernel
theorem aw_t0 : tellT (readS aw0 [] 0 1).data.toList 1 = [] ∧ tellE (readS aw0 [] 0 1).data.toList 1 = 4 := by decide +kernel

theorem aw_new (w : World) : Calls Try.prog 17 #[.int .i64 3] w fun e w' => ∃ v', e = .returned (.tuple #[v', .int .i64 0]) ∧ DV w' v' aw0 [] ∧ Below w.heap.size w w' := new_ok 3 w (by decide) (by decide)
theorem aw_write {v : Value} {w : World} (h : DV w v aw0 []) :
    Calls Try.prog 11 #[v, .int .i64 1, .string abcS] w fun e w' => ∃ v', e = .returned (.tuple #[v', .int .i64 0]) ∧ DV w' v' aw0 awW ∧ Below w.heap.size w w' :=
  write_ok (a := 1) (t := abcS) h (by decide) (by decide +kernel) aw_r0 (by decide +kernel)
theorem aw_write2 {v : Value} {w : World} (h : DV w v aw0 []) :
    Calls Try.prog 11 #[v, .int .i64 2, .string azS] w fun e w' => e = .returned (.tuple #[v, .int .i64 1]) ∧ Below w.heap.size w w' :=
  write_bad (a := 2) (t := azS) h (by decide) (by decide) (by decide +kernel) (.inr (by decide +kernel))
theorem aw_read1 {v : Value} {w : World} (h : DV w v aw0 awW) :
    Calls Try.prog 14 #[v, .int .i64 1, .int .i64 1] w fun e w' => e = .returned (.tuple #[.string abcS, .int .i64 0]) ∧ Below w.heap.size w w' := by
  have h1 := tell_any (a := 1) (k := 1) h (by rw [aw_len]; omega) aw_r1 (by decide)
  rw [aw_t1.1, aw_t1.2] at h1
  exact h1
theorem aw_read2 {v : Value} {w : World} (h : DV w v aw0 awW) :
    Calls Try.prog 14 #[v, .int .i64 1, .int .i64 2] w fun e w' => e = .returned (.tuple #[.string ⟨#[]⟩, .int .i64 2]) ∧ Below w.heap.size w w' := by
  have h1 := tell_any (a := 1) (k := 2) h (by rw [aw_len]; omega) aw_r1 (by decide)
  rw [aw_t2.1, aw_t2.2] at h1
  exact h1
theorem aw_read0 {v : Value} {w : World} (h : DV w v aw0 []) :
    Calls Try.prog 14 #[v, .int .i64 0, .int .i64 1] w fun e w' => e = .returned (.tuple #[.string ⟨#[]⟩, .int .i64 4]) ∧ Below w.heap.size w w' := by
  have h1 := tell_any (a := 0) (k := 1) h (by decide) aw_r0 (by decide)
  rw [aw_t0.1, aw_t0.2] at h1
  exact h1
theorem aw_cut (w : World) : Calls Try.prog 19 #[.string ⟨#[]⟩] w fun e w' => (∃ A c, e = .returned (.slice A 0 c)) ∧ Below w.heap.size w w' := by
  refine (cut_any ⟨#[]⟩ w (by decide)).mono ?_
  rintro e w' ⟨v', rfl, hv, hb⟩
  obtain ⟨A, c, rfl, _⟩ := hv
  exact ⟨⟨A, c, rfl⟩, hb⟩

set_option maxHeartbeats 4000000 in
set_option maxRecDepth 100000 in
theorem awake_true (w : World) :
    Calls Try.prog 10 #[] w fun e w' => e = .returned (.bool true) ∧ Below w.heap.size w w' := by
  go_enter Try.func10, Try.ntmps10
  go_wp2_with fail
  refine (aw_new w).mono ?_
  rintro e w1 ⟨v1, rfl, hv1, hb1⟩
  obtain ⟨A1, c1, B1, d1, rfl, hA1, hB1⟩ := hv1
  have HV1 := Lib.hid (show DV w1 (.agg #[.slice A1 3 c1, .slice B1 0 d1]) aw0 [] from ⟨A1, c1, B1, d1, rfl, hA1, hB1⟩)
  rw [show aw0.length = 3 from rfl, show ([] : List Wr).length = 0 from rfl]
  clear hA1 hB1
  have HB1 := Lib.hid hb1
  clear hb1
  have HD1 := Lib.hid (show DBlk (w1.alloc (.cells #[.slice A1 3 c1, .slice B1 0 d1] 25)) w1.heap.size A1 3 c1 B1 0 d1 from Box.fresh _ _ _)
  have HV1b := Lib.hid (HV1.out.on ((Below.refl _ _).alloc (Nat.le_refl _) (.cells #[.slice A1 3 c1, .slice B1 0 d1] 25)))
  have HB1b := Lib.hid (HB1.out.alloc HB1.out.size (.cells #[.slice A1 3 c1, .slice B1 0 d1] 25))
  have hp1 := aw_write HV1b.out
  unfold abcS at hp1
  go_wp2_with fail
  refine hp1.mono ?_
  clear hp1
  rintro e w2 ⟨v2, rfl, hv2, hb2⟩
  obtain ⟨A2, c2, B2, d2, rfl, hA2, hB2⟩ := hv2
  have HV2 := Lib.hid (show DV w2 _ aw0 awW from ⟨A2, c2, B2, d2, rfl, hA2, hB2⟩)
  rw [show aw0.length = 3 from rfl, aw_len] at HV2 ⊢
  have HD2 := Lib.hid (show DBlk w2 w1.heap.size A1 3 c1 B1 0 d1 from Box.on HD1.out hb2)
  have HV12 := Lib.hid (HV1b.out.on hb2)
  have HB2 := Lib.hid (HB1b.out.trans (hb2.mono HB1b.out.size))
  clear hA2 hB2 hb2 HD1 HV1b HB1b HV1 HB1
  have hba : Below w2.heap.size w2 (w2.alloc (.cells #[.slice A2 3 c2, .slice B2 1 d2] 25)) := (Below.refl _ _).alloc (Nat.le_refl _) _
  have HE3 := Lib.hid (show DBlk (w2.alloc (.cells #[.slice A2 3 c2, .slice B2 1 d2] 25)) w2.heap.size A2 3 c2 B2 1 d2 from Box.fresh _ _ _)
  have HD3 := Lib.hid (show DBlk _ w1.heap.size A1 3 c1 B1 0 d1 from Box.on HD2.out hba)
  have HV3 := Lib.hid (HV2.out.on hba)
  have HV13 := Lib.hid (HV12.out.on hba)
  have HB3 := Lib.hid (HB2.out.trans (hba.mono HB2.out.size))
  clear hba HV12 HV2 HB2 HD2
  have hr := aw_read1 HV3.out
  unfold abcS at hr
  go_wp2_with fail
  refine hr.mono ?_
  clear hr
  rintro e w4 ⟨rfl, hb4⟩
  have HE4 := Lib.hid (show DBlk w4 w2.heap.size A2 3 c2 B2 1 d2 from Box.on HE3.out hb4)
  have HD4 := Lib.hid (show DBlk w4 w1.heap.size A1 3 c1 B1 0 d1 from Box.on HD3.out hb4)
  have HV4 := Lib.hid (HV3.out.on hb4)
  have HV14 := Lib.hid (HV13.out.on hb4)
  have HB4 := Lib.hid (HB3.out.trans (hb4.mono HB3.out.size))
  clear hb4 HE3 HD3 HV3 HV13 HB3
  obtain ⟨k0, k1⟩ := DBlk.cells HE4.out
  have hz4 := Box.lt HE4.out
  have hr := aw_read2 HV4.out
  go_wp2_with fail
  refine hr.mono ?_
  clear hr k0 k1 hz4
  rintro e w5 ⟨rfl, hb5⟩
  have HD5 := Lib.hid (show DBlk w5 w1.heap.size A1 3 c1 B1 0 d1 from Box.on HD4.out hb5)
  have HV15 := Lib.hid (HV14.out.on hb5)
  have HB5 := Lib.hid (HB4.out.trans (hb5.mono HB4.out.size))
  clear hb5 HE4 HD4 HV4 HV14 HB4
  obtain ⟨k0, k1⟩ := DBlk.cells HD5.out
  have hz5 := Box.lt HD5.out
  have hr := aw_read0 HV15.out
  go_wp2_with fail
  refine hr.mono ?_
  clear hr k0 k1 hz5
  rintro e w6 ⟨rfl, hb6⟩
  have HD6 := Lib.hid (show DBlk w6 w1.heap.size A1 3 c1 B1 0 d1 from Box.on HD5.out hb6)
  have HV16 := Lib.hid (HV15.out.on hb6)
  have HB6 := Lib.hid (HB5.out.trans (hb6.mono HB5.out.size))
  clear hb6 HD5 HV15 HB5
  obtain ⟨k0, k1⟩ := DBlk.cells HD6.out
  have hz6 := Box.lt HD6.out
  have hr := aw_write2 HV16.out
  unfold azS at hr
  go_wp2_with fail
  refine hr.mono ?_
  clear hr k0 k1 hz6
  rintro e w7 ⟨rfl, hb7⟩
  have HB7 := Lib.hid (HB6.out.trans (hb7.mono HB6.out.size))
  have HB7a := Lib.hid (HB7.out.alloc HB7.out.size (.cells #[.slice A1 3 c1, .slice B1 0 d1] 25))
  clear hb7 HD6 HV16 HB6
  have hnd25 : needN 25 = 1 := by decide +kernel
  have hnd26 : needN 26 = 2 := by decide +kernel
  have h25 := fun wx => need_in 25 wx (by decide)
  have h26 := fun wx => need_in 26 wx (by decide)
  have hm1 := fun wx => need_out (-1) wx (.inl (by decide))
  rw [hnd25] at h25
  rw [hnd26] at h26
  have H25 := Lib.hid h25
  have H26 := Lib.hid h26
  have HM1 := Lib.hid hm1
  clear h25 h26 hm1 hnd25 hnd26
  go_wp2_with fail
  refine (H25.out _).mono ?_
  rintro e w8 ⟨rfl, rfl⟩
  go_wp2_with fail
  refine (H26.out _).mono ?_
  rintro e w8 ⟨rfl, rfl⟩
  go_wp2_with fail
  refine (HM1.out _).mono ?_
  rintro e w8 ⟨rfl, rfl⟩
  go_wp2_with fail
  refine (aw_cut _).mono ?_
  rintro e w8 ⟨⟨A9, c9, rfl⟩, hb8⟩
  go_wp2
  go_ret
  exact ⟨rfl, HB7a.out.trans (hb8.mono HB7a.out.size)⟩

end Go.Proofs.Ytaodhghpphpflaa
