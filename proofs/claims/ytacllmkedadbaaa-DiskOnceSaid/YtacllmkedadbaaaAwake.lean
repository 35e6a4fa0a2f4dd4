/- The walk of 'awake', the fixed answer at each statement's end: it is true. -/
import Derived.Test.YtacllmkedadbaaaDv
import Derived.Test.YtacllmkedadbaaaWNew
namespace Go.Proofs.Ytacllmkedadbaaa
open Go.RowKit

/-- The text of 'awake'. -/
def abcS : ByteArray := ⟨#[97, 98, 99, 100, 101, 102, 103, 104, 105, 106, 107, 108, 109, 110, 111, 112, 113, 114, 115, 116, 117, 118, 119, 120, 121, 122, 48, 49, 50, 51, 52, 53]⟩
theorem abc_size : abcS.size = 32 := by decide +kernel
def aw0 : List ByteArray := [zeroS, zeroS]
def awW : List Wr := [⟨1, abcS⟩]
theorem aw_fill1 : fillB [abcS] = true := by decide +kernel
theorem aw_fill2 : fillB [abcS, abcS] = true := by decide +kernel
theorem aw_r0 : rightB aw0 [] = true := by decide +kernel
theorem aw_r1 : rightB aw0 awW = true := by decide +kernel
theorem aw_done : doneL aw0 awW = [zeroS, abcS] := by decide +kernel

theorem aw_new (w : World) : Calls Try.prog 7 #[.int .i64 2] w fun e w' => ∃ v', e = .returned (.tuple #[v', .int .i64 0]) ∧ DV w' v' aw0 [] ∧ Below w.heap.size w w' := new_ok 2 w (by decide) (by decide)
theorem aw_put {v : Value} {w : World} (g : Nat) (hg : g = w.heap.size) (h : DV w v aw0 []) :
    Calls Try.prog 13 #[v, .int .i64 1, .slice (some ⟨g, 0, none⟩) 1 1] (w.alloc (.cells #[.string abcS] 9)) fun e w' => ∃ v', e = .returned (.tuple #[v', .int .i64 0]) ∧ DV w' v' aw0 awW ∧ Below w.heap.size w w' := by
  subst hg
  have hb : Below w.heap.size w (w.alloc (.cells #[.string abcS] 9)) := (Below.refl _ _).alloc (Nat.le_refl _) _
  have hs : SV (w.alloc (.cells #[.string abcS] 9)) (.slice (some ⟨w.heap.size, 0, none⟩) 1 1) [abcS] := ⟨_, 1, rfl, by simpa using strs_one w 9 abcS⟩
  refine (put_dv_ok (a := 1) (h.on hb) hs (by decide) (by decide) aw_r0 aw_fill1 (by decide)).mono ?_
  rintro e w' ⟨v', he, hv, hb2⟩
  exact ⟨v', he, hv, hb.trans (hb2.mono hb.size)⟩
theorem aw_put2 {v : Value} {w : World} (g : Nat) (hg : g = w.heap.size) (h : DV w v aw0 awW) :
    Calls Try.prog 13 #[v, .int .i64 1, .slice (some ⟨g, 0, none⟩) 2 2] (w.alloc (.cells #[.string abcS, .string abcS] 9)) fun e w' => e = .returned (.tuple #[v, .int .i64 1]) ∧ Below w.heap.size w w' := by
  subst hg
  have hb : Below w.heap.size w (w.alloc (.cells #[.string abcS, .string abcS] 9)) := (Below.refl _ _).alloc (Nat.le_refl _) _
  have hs : SV (w.alloc (.cells #[.string abcS, .string abcS] 9)) (.slice (some ⟨w.heap.size, 0, none⟩) 2 2) [abcS, abcS] := ⟨_, 2, rfl, by simpa using strs_two w 9 abcS abcS⟩
  refine (put_dv_bad (a := 1) (h.on hb) hs (by decide) (by decide) aw_r1 (.inr (by decide))).mono ?_
  rintro e w' ⟨he, hb2⟩
  exact ⟨he, hb.trans (hb2.mono hb.size)⟩
theorem aw_read {v : Value} {w : World} (h : DV w v aw0 awW) :
    Calls Try.prog 9 #[v, .int .i64 1, .int .i64 1] w fun e w' => e = .returned (.tuple #[.string abcS, .int .i64 0]) ∧ Below w.heap.size w w' := by
  have h1 := read_one (i := 1) h (by decide) aw_r1 (by decide)
  have e : (doneL aw0 awW)[1]'(by rw [aw_done]; decide) = abcS := by simp only [aw_done]; rfl
  rw [e] at h1
  exact h1
theorem aw_crash0 {v : Value} {w : World} (h : DV w v aw0 awW) :
    Calls Try.prog 16 #[v, .slice none 0 0] w fun e w' => ∃ v', e = .returned v' ∧ DV w' v' [zeroS, zeroS] [] ∧ Below w.heap.size w w' :=
  crash_dv (ks := []) h (BV.nil w) (by decide) (by decide) aw_r1
theorem aw_crash1 {v : Value} {w : World} (g : Nat) (hg : g = w.heap.size) (h : DV w v aw0 awW) :
    Calls Try.prog 16 #[v, .slice (some ⟨g, 0, none⟩) 1 1] (w.alloc (.cells #[.bool true] 4)) fun e w' => ∃ v', e = .returned v' ∧ DV w' v' [zeroS, abcS] [] ∧ Below w.heap.size w w' := by
  subst hg
  have hb : Below w.heap.size w (w.alloc (.cells #[.bool true] 4)) := (Below.refl _ _).alloc (Nat.le_refl _) _
  have hk : BV (w.alloc (.cells #[.bool true] 4)) (.slice (some ⟨w.heap.size, 0, none⟩) 1 1) [true] := ⟨_, 1, rfl, by simpa using Lies.lit (w := w) (C := #[.bool true]) (t := 4) (cs := boolC) (k := 1) (l := [true]) (fun _ => rfl) rfl⟩
  have h1 := crash_dv (h.on hb) hk (by decide) (by decide) aw_r1
  have e : doneL aw0 (keptL [true] awW) = [zeroS, abcS] := aw_done
  rw [e] at h1
  refine h1.mono ?_
  rintro e w' ⟨v', he, hv, hb2⟩
  exact ⟨v', he, hv, hb.trans (hb2.mono hb.size)⟩
theorem aw_flush {v : Value} {w : World} (h : DV w v aw0 awW) :
    Calls Try.prog 15 #[v] w fun e w' => ∃ v', e = .returned v' ∧ DV w' v' (doneL aw0 awW) [] ∧ Below w.heap.size w w' := flush_dv h (by decide) aw_r1
theorem aw_right {v : Value} {w : World} (h : DV w v aw0 awW) :
    Calls Try.prog 10 #[v] w fun e w' => e = .returned (.bool true) ∧ Below w.heap.size w w' := by
  have h1 := right_dv h (by decide) (by decide)
  rw [aw_r1] at h1
  exact h1

set_option maxHeartbeats 4000000 in
set_option maxRecDepth 100000 in
theorem awake_true (w : World) :
    Calls Try.prog 8 #[] w fun e w' => e = .returned (.bool true) ∧ Below w.heap.size w w' := by
  go_enter Try.func8, Try.ntmps8
  go_wp2_with fail
  refine (aw_new w).mono ?_
  rintro e w1 ⟨v1, rfl, hv1, hb1⟩
  obtain ⟨A1, c1, B1, d1, rfl, hA1, hB1⟩ := hv1
  have hl : aw0.length = 2 := rfl
  have hl0 : ([] : List Wr).length = 0 := rfl
  have HV1 := Lib.hid (show DV w1 (.agg #[.slice A1 2 c1, .slice B1 0 d1]) aw0 [] from ⟨A1, c1, B1, d1, rfl, hA1, hB1⟩)
  rw [hl, hl0]
  clear hl hl0 hA1 hB1
  have HB1 := Lib.hid hb1
  clear hb1
  have HD1 := Lib.hid (show DBlk (w1.alloc (.cells #[.slice A1 2 c1, .slice B1 0 d1] 25)) w1.heap.size A1 2 c1 B1 0 d1 from Box.fresh _ _ _)
  have HV1b := Lib.hid (HV1.out.on ((Below.refl _ _).alloc (Nat.le_refl _) (.cells #[.slice A1 2 c1, .slice B1 0 d1] 25)))
  have HB1b := Lib.hid (HB1.out.alloc HB1.out.size (.cells #[.slice A1 2 c1, .slice B1 0 d1] 25))
  have hp1 := aw_put (w1.heap.size + 1) (by simp) HV1b.out
  unfold abcS at hp1
  go_wp2_with fail
  refine hp1.mono ?_
  clear hp1
  rintro e w2 ⟨v2, rfl, hv2, hb2⟩
  obtain ⟨A2, c2, B2, d2, rfl, hA2, hB2⟩ := hv2
  have HV2 := Lib.hid (show DV w2 (.agg #[.slice A2 2 c2, .slice B2 1 d2]) aw0 awW from ⟨A2, c2, B2, d2, rfl, hA2, hB2⟩)
  rw [show aw0.length = 2 from rfl, show awW.length = 1 from rfl]
  rw [show (⟨#[97, 98, 99, 100, 101, 102, 103, 104, 105, 106, 107, 108, 109, 110, 111, 112, 113, 114, 115, 116, 117, 118, 119, 120, 121, 122, 48, 49, 50, 51, 52, 53]⟩ : ByteArray) = abcS from rfl]
  have HD2 := Lib.hid (show DBlk w2 w1.heap.size A1 2 c1 B1 0 d1 from Box.on HD1.out hb2)
  have HB2 := Lib.hid (HB1b.out.trans (hb2.mono HB1b.out.size))
  have f0 := Box.free HD2.out 0
  have f1 := Box.free HD2.out 1
  obtain ⟨k0, k1⟩ := DBlk.cells HD2.out
  have hz2 := Box.lt HD2.out
  have hz1 := HB1.out.size
  clear hA2 hB2 hb2 HD1 HV1b HB1b HV1 HB1
  have HD3 := Lib.hid (show DBlk ((w2.setCell ⟨w1.heap.size, 0, none⟩ (.slice A2 2 c2)).setCell ⟨w1.heap.size, 1, none⟩ (.slice B2 1 d2)) w1.heap.size A2 2 c2 B2 1 d2 from Box.set (Box.set HD2.out 0 _) 1 _)
  have HV3 := Lib.hid (HV2.out.apart HD2.out A2 2 c2 B2 1 d2)
  have HB3 := Lib.hid (show Below w.heap.size w ((w2.setCell ⟨w1.heap.size, 0, none⟩ (.slice A2 2 c2)).setCell ⟨w1.heap.size, 1, none⟩ (.slice B2 1 d2)) from (HB2.out.setCell hz1 _).setCell hz1 _)
  have hr := aw_read HV3.out
  go_wp2_with fail
  refine hr.mono ?_
  clear hr
  rintro e w4 ⟨rfl, hb4⟩
  have HD4 := Lib.hid (show DBlk w4 w1.heap.size A2 2 c2 B2 1 d2 from Box.on HD3.out hb4)
  have HV4 := Lib.hid (HV3.out.on hb4)
  have HB4 := Lib.hid (HB3.out.trans (hb4.mono HB3.out.size))
  clear f0 f1 k0 k1 hb4 HD3 HV3 HB3 HD2 HV2 HB2 hz2
  obtain ⟨k0, k1⟩ := DBlk.cells HD4.out
  have hz4 := Box.lt HD4.out
  have hr := aw_crash0 HV4.out
  go_wp2_with fail
  refine hr.mono ?_
  clear hr k0 k1 hz4
  rintro e w5 ⟨v5, rfl, hv5, hb5⟩
  obtain ⟨A5, c5, B5, d5, rfl, hA5, hB5⟩ := hv5
  rw [show [zeroS, zeroS].length = 2 from rfl, show ([] : List Wr).length = 0 from rfl]
  have HD5 := Lib.hid (show DBlk w5 w1.heap.size A2 2 c2 B2 1 d2 from Box.on HD4.out hb5)
  have HV5 := Lib.hid (HV4.out.on hb5)
  have HB5 := Lib.hid (HB4.out.trans (hb5.mono HB4.out.size))
  have HA5 := Lib.hid hA5
  clear hb5 hA5 hB5 HD4 HV4 HB4
  have hb6 : Below w5.heap.size w5 (w5.alloc (.cells #[.slice A5 2 c5, .slice B5 0 d5] 25)) := (Below.refl _ _).alloc (Nat.le_refl _) _
  have HC6 := Lib.hid (show DBlk (w5.alloc (.cells #[.slice A5 2 c5, .slice B5 0 d5] 25)) w5.heap.size A5 2 c5 B5 0 d5 from Box.fresh _ _ _)
  have HA6 := Lib.hid (HA5.out.on hb6)
  have HD6 := Lib.hid (show DBlk _ w1.heap.size A2 2 c2 B2 1 d2 from Box.on HD5.out hb6)
  have HV6 := Lib.hid (HV5.out.on hb6)
  have HB6 := Lib.hid (HB5.out.trans (hb6.mono HB5.out.size))
  obtain ⟨k0, k1⟩ := DBlk.cells HD5.out
  have hz5 := Box.lt HD5.out
  have hr := aw_crash1 (w5.heap.size + 1) (by simp) HV6.out
  clear hb6
  go_wp2_with fail
  refine hr.mono ?_
  clear hr k0 k1
  rintro e w7 ⟨v7, rfl, hv7, hb7⟩
  obtain ⟨A7, c7, B7, d7, rfl, hA7, hB7⟩ := hv7
  rw [show [zeroS, abcS].length = 2 from rfl, show ([] : List Wr).length = 0 from rfl]
  have HD7 := Lib.hid (show DBlk w7 w1.heap.size A2 2 c2 B2 1 d2 from Box.on HD6.out hb7)
  have HC7 := Lib.hid (show DBlk w7 w5.heap.size A5 2 c5 B5 0 d5 from Box.on HC6.out hb7)
  have HA75 := Lib.hid (HA6.out.on hb7)
  have HV7 := Lib.hid (HV6.out.on hb7)
  have HB7 := Lib.hid (HB6.out.trans (hb7.mono HB6.out.size))
  have HA7 := Lib.hid hA7
  clear hb7 hA7 hB7 HD5 HV5 HB5 HC6 HA6 HA5 HD6 HV6 HB6
  have hb8 : Below w7.heap.size w7 (w7.alloc (.cells #[.slice A7 2 c7, .slice B7 0 d7] 25)) := (Below.refl _ _).alloc (Nat.le_refl _) _
  have HE8 := Lib.hid (show DBlk (w7.alloc (.cells #[.slice A7 2 c7, .slice B7 0 d7] 25)) w7.heap.size A7 2 c7 B7 0 d7 from Box.fresh _ _ _)
  have HA87 := Lib.hid (HA7.out.on hb8)
  have HA85 := Lib.hid (HA75.out.on hb8)
  have HC8 := Lib.hid (show DBlk _ w5.heap.size A5 2 c5 B5 0 d5 from Box.on HC7.out hb8)
  have HD8 := Lib.hid (show DBlk _ w1.heap.size A2 2 c2 B2 1 d2 from Box.on HD7.out hb8)
  have HV8 := Lib.hid (HV7.out.on hb8)
  have HB8 := Lib.hid (HB7.out.trans (hb8.mono HB7.out.size))
  obtain ⟨k0, k1⟩ := DBlk.cells HD7.out
  have hz7 := Box.lt HD7.out
  have hz75 := Box.lt HC7.out
  have hr := aw_put2 (w7.heap.size + 1) (by simp) HV8.out
  clear hb8
  go_wp2_with fail
  refine hr.mono ?_
  clear hr k0 k1
  rintro e w9 ⟨rfl, hb9⟩
  have HE9 := Lib.hid (show DBlk w9 w7.heap.size A7 2 c7 B7 0 d7 from Box.on HE8.out hb9)
  have HC9 := Lib.hid (show DBlk w9 w5.heap.size A5 2 c5 B5 0 d5 from Box.on HC8.out hb9)
  have HD9 := Lib.hid (show DBlk w9 w1.heap.size A2 2 c2 B2 1 d2 from Box.on HD8.out hb9)
  have HA97 := Lib.hid (HA87.out.on hb9)
  have HA95 := Lib.hid (HA85.out.on hb9)
  have HV9 := Lib.hid (HV8.out.on hb9)
  have HB9 := Lib.hid (HB8.out.trans (hb9.mono HB8.out.size))
  clear hb9 HE8 HA87 HA85 HC8 HD8 HV8 HB8 HD7 HC7 HA75 HV7 HB7 HA7
  obtain ⟨k0, k1⟩ := DBlk.cells HD9.out
  obtain ⟨m0, m1⟩ := DBlk.cells HC9.out
  obtain ⟨n0, n1⟩ := DBlk.cells HE9.out
  have hz9 := Box.lt HD9.out
  have hz95 := Box.lt HC9.out
  have hz97 := Box.lt HE9.out
  obtain ⟨a5, rfl, hab5, hca5⟩ := HA95.out (by decide)
  have x5 := hca5 1 (by decide)
  obtain ⟨a7, rfl, hab7, hca7⟩ := HA97.out (by decide)
  have x7 := hca7 1 (by decide)
  have x5' : w9.cell? ⟨a5.block, a5.off + 1, none⟩ = some (.string zeroS) := x5
  have x7' : w9.cell? ⟨a7.block, a7.off + 1, none⟩ = some (.string abcS) := x7
  have hl5 : (a5.add 1).block < w9.heap.size := by rw [block_of_add]; exact hab5
  have hl7 : (a7.add 1).block < w9.heap.size := by rw [block_of_add]; exact hab7
  clear x5 x7 hca5 hca7
  have hzz : zeroS.size = 32 := zero_size
  have hbx : Below w9.heap.size w9 (w9.alloc (.cells #[.slice A2 2 c2, .slice B2 1 d2] 25)) := (Below.refl _ _).alloc (Nat.le_refl _) _
  have HVx := Lib.hid (HV9.out.on hbx)
  have HBx := Lib.hid (HB9.out.trans (hbx.mono HB9.out.size))
  have HDx := Lib.hid (show DBlk _ w1.heap.size A2 2 c2 B2 1 d2 from Box.on HD9.out hbx)
  have hr := aw_right HVx.out
  clear hbx
  have hidx : ∀ wq : World, (Instr.index 9 (.string zeroS) (.int .i64 0)).run Try.prog wq = .ok (.int .u8 0) wq := fun wq => by unfold zeroS; kernel_rfl
  have hss := str_eq (x := abcS) rfl
  go_wp2_with fail
  refine hr.mono ?_
  clear hr k0 k1 m0 m1 n0 n1 x5' x7' hidx hss hzz
  rintro e wA ⟨rfl, hbA⟩
  have HDA := Lib.hid (show DBlk wA w1.heap.size A2 2 c2 B2 1 d2 from Box.on HDx.out hbA)
  have HVA := Lib.hid (HVx.out.on hbA)
  have HBA := Lib.hid (HBx.out.trans (hbA.mono HBx.out.size))
  obtain ⟨k0, k1⟩ := DBlk.cells HDA.out
  have hzA := Box.lt HDA.out
  have hr := aw_flush HVA.out
  clear hbA
  go_wp2_with fail
  refine hr.mono ?_
  clear hr k0 k1
  rintro e wB ⟨vB, rfl, hvB, hbB⟩
  obtain ⟨A8, c8, B8, d8, rfl, hA8, hB8⟩ := hvB
  rw [show ([] : List Wr).length = 0 from rfl]
  have HBB := Lib.hid (HBA.out.trans (hbB.mono HBA.out.size))
  clear hA8 hB8 hbB
  generalize (doneL aw0 awW).length = nn
  have hfd : ∀ wq : World, (Instr.field 25 (.agg #[.slice A8 nn c8, .slice B8 0 d8]) 1).run Try.prog wq = .ok (.slice B8 0 d8) wq := fun _ => by kernel_rfl
  go_wp2
  go_ret
  exact ⟨rfl, HBB.out⟩

end Go.Proofs.Ytacllmkedadbaaa
