/- The walk of FlatWrites: the bytes of any notes, pairs, changes, and any range, are what the document says, or refused. -/
import Derived.Test.YtfbcmcckgjfdhaaRLists
set_option linter.unusedVariables false
set_option linter.unusedSimpArgs false
namespace Go.Proofs.Ytfbcmcckgjfdhaa
open Go.RowKit Go.Sort

theorem Kd.told {α : Type} (K : Kd α) (l : List α) : (if K.may l then decide (K.listS l = K.listS l) && decide (K.listE l = 0) else decide (K.listS l = noB) && decide (K.listE l = 1)) = true := by
  cases h : K.may l with
  | true => rw [if_pos rfl, (K.yes_S h).2]; simp
  | false => rw [if_neg (by decide), (K.no_S h).1, (K.no_S h).2]; simp
theorem told_rng (r : Rng) : (if rightB r then decide (rS r = rS r) && decide (rE r = 0) else decide (rS r = noB) && decide (rE r = 1)) = true := by
  unfold rS rE
  cases h : rightB r with
  | true => simp
  | false => simp
def WrV (xs : Int) (xkey xb xa : ByteArray) (had has M : Bool) (g : Nat) (t : Nat) (v : Value) (w : World) : Prop :=
  match t with
  | 88 => v = .agg #[.int .i64 xs, .string xkey, .bool had, .string xb, .bool has, .string xa]
  | 89 => v = .bool M
  | 90 => v = .agg #[.int .i64 xs, .string xkey, .bool had, .string xb, .bool has, .string xa]
  | 91 => v = .bool M
  | 92 => v = .bool false
  | _ => True
theorem WrV.on {xs : Int} {xkey xb xa : ByteArray} {had has M : Bool} {g : Nat} {t : Nat} {v : Value} {w w' : World} (h : WrV xs xkey xb xa had has M g t v w) (hb : Below w.heap.size w w') : WrV xs xkey xb xa had has M g t v w' := by
  unfold WrV at *
  split at h <;> first | exact h | exact h

set_option maxRecDepth 100000 in
set_option maxHeartbeats 8000000 in
theorem writes_walk (vn vp vc : Value) (ln : List Nt) (lp : List Pr) (lc : List Ch) (lo hi : ByteArray) (op : Bool) (w : World) (hn : NV w vn ln) (hp : PV w vp lp) (hc : CV w vc lc) (mn : ln.length ≤ maxLen) (mp : lp.length ≤ maxLen) (mc : lc.length ≤ maxLen) :
    Calls Try.prog 3 #[vn, vp, vc, .agg #[.string lo, .string hi, .bool op]] w fun e w' => e = .returned (.bool true) ∧ Below w.heap.size w w' := by
  obtain ⟨w0, hw0⟩ : ∃ w0, w0 = w.alloc (.cells #[.string lo, .string hi, .bool op] 26) := ⟨_, rfl⟩
  obtain ⟨g, hg⟩ : ∃ g, g = w.heap.size := ⟨_, rfl⟩
  have hb0 : Below w.heap.size w w0 := by rw [hw0]; exact (Below.refl _ _).alloc (Nat.le_refl _) _
  have HB0 := Lib.hid hb0
  have XR0 := Lib.hid (show Box w0 g 26 #[.string lo, .string hi, .bool op] from by rw [hw0]; exact Box.at_ w _ _ hg)
  have XN0 := Lib.hid (hn.on hb0)
  have XP0 := Lib.hid (hp.on hb0)
  have XC0 := Lib.hid (hc.on hb0)
  have cN := Kd.told kN ln
  have cP := Kd.told kP lp
  have cC := Kd.told kC lc
  have cR := told_rng ⟨lo, hi, op⟩
  have tN := fun v w h => notes_v v ln w h mn
  have tP := fun v w h => pairs_v v lp w h mp
  have tC := fun v w h => changes_v v lc w h mc
  have tR := fun w => rangew_any lo hi op w
  have dN := fun A c w h h1 h2 => dnotes_any A c ln w h h1 h2
  have dP := fun A c w h h1 h2 => dpairs_any A c lp w h h1 h2
  have dC := fun A c w h h1 h2 => dchanges_any A c lc w h h1 h2
  have dR := fun w => drangew_any lo hi op w
  generalize kN.listS ln = SN at *
  generalize kN.listE ln = EN at *
  generalize kN.may ln = MN at *
  generalize kP.listS lp = SP at *
  generalize kP.listE lp = EP at *
  generalize kP.may lp = MP at *
  generalize kC.listS lc = SC at *
  generalize kC.listE lc = EC at *
  generalize kC.may lc = MC at *
  generalize rS ⟨lo, hi, op⟩ = SR at *
  generalize rE ⟨lo, hi, op⟩ = ER at *
  generalize rightB ⟨lo, hi, op⟩ = MR at *
  have hlN := fun w => told_any SN EN SN MN w
  rw [cN] at hlN
  have HKN := Lib.hid hlN
  have HTN := Lib.hid tN
  have HDN := Lib.hid dN
  have hlP := fun w => told_any SP EP SP MP w
  rw [cP] at hlP
  have HKP := Lib.hid hlP
  have HTP := Lib.hid tP
  have HDP := Lib.hid dP
  have hlC := fun w => told_any SC EC SC MC w
  rw [cC] at hlC
  have HKC := Lib.hid hlC
  have HTC := Lib.hid tC
  have HDC := Lib.hid dC
  have hlR := fun w => told_any SR ER SR MR w
  rw [cR] at hlR
  have HKR := Lib.hid hlR
  have HTR := Lib.hid tR
  have HDR := Lib.hid dR
  clear cN cP cC cR tN tP tC tR dN dP dC dR hn hp hc hb0 mn mp mc hlN hlP hlC hlR
  go_enter Try.func3, Try.ntmps3
  go_upto_region 1 with fail
  rw [← hg, ← hw0]
  clear hg hw0
  go_wp2_with fail
  refine (fit_v vn vp vc ln lp lc _ XN0.out XP0.out XC0.out).mono ?_
  rintro e w1 ⟨R, rfl, hR, hb⟩
  have HB1 := Lib.hid (HB0.out.trans (hb.mono HB0.out.size))
  have XR1 := Lib.hid (XR0.out.on hb)
  have XN1 := Lib.hid (XN0.out.on hb)
  have XP1 := Lib.hid (XP0.out.on hb)
  have XC1 := Lib.hid (XC0.out.on hb)
  clear hb HB0 XR0 XN0 XP0 XC0 
  have HR := Lib.hid hR
  clear hR
  cases R with
  | false =>
    go_wp2_with fail
    refine (awake_true _).mono ?_
    rintro e w2 ⟨rfl, hb⟩
    have HB2 := Lib.hid (HB1.out.trans (hb.mono HB1.out.size))
    clear hb HB1 
    go_wp2
    go_ret
    exact ⟨rfl, HB2.out⟩
  | true =>
  obtain ⟨k0, k1, k2⟩ := (⟨Box.cell XR1.out 0 rfl, Box.cell XR1.out 1 rfl, Box.cell XR1.out 2 rfl⟩ : _ ∧ _ ∧ _)
  go_wp2_with fail
  refine (short_two lo hi w1 _).mono ?_
  rintro e w3 ⟨R2, rfl, _, hb⟩
  have HB3 := Lib.hid (HB1.out.trans (hb.mono HB1.out.size))
  have XR3 := Lib.hid (XR1.out.on hb)
  have XN3 := Lib.hid (XN1.out.on hb)
  have XP3 := Lib.hid (XP1.out.on hb)
  have XC3 := Lib.hid (XC1.out.on hb)
  clear hb HB1 XR1 XN1 XP1 XC1 k0 k1 k2
  cases R2 with
  | false =>
    go_wp2_with fail
    refine (awake_true _).mono ?_
    rintro e w4 ⟨rfl, hb⟩
    have HB4 := Lib.hid (HB3.out.trans (hb.mono HB3.out.size))
    clear hb HB3 
    go_wp2
    go_ret
    exact ⟨rfl, HB4.out⟩
  | true =>
  obtain ⟨h1, h2, h3⟩ := HR.out (by first | rfl | trivial)
  have H1 := Lib.hid h1
  have H2 := Lib.hid h2
  have H3 := Lib.hid h3
  clear HR h1 h2 h3
  go_wp2_with fail
  refine (HTN.out _ _ XN3.out).mono ?_
  rintro e w5 ⟨rfl, hb⟩
  have HB5 := Lib.hid (HB3.out.trans (hb.mono HB3.out.size))
  have XR5 := Lib.hid (XR3.out.on hb)
  have XN5 := Lib.hid (XN3.out.on hb)
  have XP5 := Lib.hid (XP3.out.on hb)
  have XC5 := Lib.hid (XC3.out.on hb)
  clear hb HB3 XR3 XN3 XP3 XC3 
  go_wp2_with fail
  refine (HTP.out _ _ XP5.out).mono ?_
  rintro e w6 ⟨rfl, hb⟩
  have HB6 := Lib.hid (HB5.out.trans (hb.mono HB5.out.size))
  have XR6 := Lib.hid (XR5.out.on hb)
  have XN6 := Lib.hid (XN5.out.on hb)
  have XP6 := Lib.hid (XP5.out.on hb)
  have XC6 := Lib.hid (XC5.out.on hb)
  clear hb HB5 XR5 XN5 XP5 XC5 
  go_wp2_with fail
  refine (HTC.out _ _ XC6.out).mono ?_
  rintro e w7 ⟨rfl, hb⟩
  have HB7 := Lib.hid (HB6.out.trans (hb.mono HB6.out.size))
  have XR7 := Lib.hid (XR6.out.on hb)
  have XN7 := Lib.hid (XN6.out.on hb)
  have XP7 := Lib.hid (XP6.out.on hb)
  have XC7 := Lib.hid (XC6.out.on hb)
  clear hb HB6 XR6 XN6 XP6 XC6 
  obtain ⟨k0, k1, k2⟩ := (⟨Box.cell XR7.out 0 rfl, Box.cell XR7.out 1 rfl, Box.cell XR7.out 2 rfl⟩ : _ ∧ _ ∧ _)
  go_wp2_with fail
  refine (HTR.out _).mono ?_
  rintro e w8 ⟨rfl, hb⟩
  have HB8 := Lib.hid (HB7.out.trans (hb.mono HB7.out.size))
  have XR8 := Lib.hid (XR7.out.on hb)
  have XN8 := Lib.hid (XN7.out.on hb)
  have XP8 := Lib.hid (XP7.out.on hb)
  have XC8 := Lib.hid (XC7.out.on hb)
  clear hb HB7 XR7 XN7 XP7 XC7 k0 k1 k2
  obtain ⟨AN, cN, eN, hAN, hcN, _⟩ := XN8.out
  have hd := HDN.out AN cN w8 hAN hcN H1.out
  rw [← eN] at hd
  have HDD := Lib.hid hd
  clear hd hAN hcN eN
  go_wp2_with fail
  refine (HDD.out).mono ?_
  rintro e w9 ⟨rfl, hb⟩
  have HB9 := Lib.hid (HB8.out.trans (hb.mono HB8.out.size))
  have XR9 := Lib.hid (XR8.out.on hb)
  have XN9 := Lib.hid (XN8.out.on hb)
  have XP9 := Lib.hid (XP8.out.on hb)
  have XC9 := Lib.hid (XC8.out.on hb)
  clear hb HB8 XR8 XN8 XP8 XC8 HDD
  obtain ⟨AP, cP, eP, hAP, hcP, _⟩ := XP9.out
  have hd := HDP.out AP cP w9 hAP hcP H2.out
  rw [← eP] at hd
  have HDD := Lib.hid hd
  clear hd hAP hcP eP
  go_wp2_with fail
  refine (HDD.out).mono ?_
  rintro e w10 ⟨rfl, hb⟩
  have HB10 := Lib.hid (HB9.out.trans (hb.mono HB9.out.size))
  have XR10 := Lib.hid (XR9.out.on hb)
  have XN10 := Lib.hid (XN9.out.on hb)
  have XP10 := Lib.hid (XP9.out.on hb)
  have XC10 := Lib.hid (XC9.out.on hb)
  clear hb HB9 XR9 XN9 XP9 XC9 HDD
  obtain ⟨AC, cC, eC, hAC, hcC, _⟩ := XC10.out
  have hd := HDC.out AC cC w10 hAC hcC H3.out
  rw [← eC] at hd
  have HDD := Lib.hid hd
  clear hd hAC hcC eC
  go_wp2_with fail
  refine (HDD.out).mono ?_
  rintro e w11 ⟨rfl, hb⟩
  have HB11 := Lib.hid (HB10.out.trans (hb.mono HB10.out.size))
  have XR11 := Lib.hid (XR10.out.on hb)
  have XN11 := Lib.hid (XN10.out.on hb)
  have XP11 := Lib.hid (XP10.out.on hb)
  have XC11 := Lib.hid (XC10.out.on hb)
  clear hb HB10 XR10 XN10 XP10 XC10 HDD
  obtain ⟨k0, k1, k2⟩ := (⟨Box.cell XR11.out 0 rfl, Box.cell XR11.out 1 rfl, Box.cell XR11.out 2 rfl⟩ : _ ∧ _ ∧ _)
  go_wp2_with fail
  refine (HDR.out _).mono ?_
  rintro e w12 ⟨rfl, hb⟩
  have HB12 := Lib.hid (HB11.out.trans (hb.mono HB11.out.size))
  have XR12 := Lib.hid (XR11.out.on hb)
  have XN12 := Lib.hid (XN11.out.on hb)
  have XP12 := Lib.hid (XP11.out.on hb)
  have XC12 := Lib.hid (XC11.out.on hb)
  clear hb HB11 XR11 XN11 XP11 XC11 k0 k1 k2
  clear XR12 XN12 XP12
  obtain ⟨AC, cC, eC, hlC, _⟩ := XC12.out
  obtain ⟨nC, hnC⟩ : ∃ m, lc.length = m := ⟨_, rfl⟩
  rw [hnC] at eC
  have h3 := H3.out
  rw [hnC] at h3
  have HLC := Lib.hid hnC
  have HAC := Lib.hid hlC
  have HB := HB12
  obtain ⟨wb, hwb⟩ : ∃ wb, wb = w12 := ⟨_, rfl⟩
  rw [← hwb] at HB HAC
  rw [eC, ← hwb]
  clear XC12 HB12 eC hlC hnC hwb
  go_wp2
  go_loopw [84] (fun i wr => ∃ (k : Nat), i = .int .i64 k ∧ k ≤ nC ∧ Below wb.heap.size wb wr) (fun i _ => (nC - intOf i).toNat)
  case atStart => exact ⟨0, rfl, by omega, Below.refl _ _⟩
  case round =>
    obtain ⟨k, rfl, hk, hbr⟩ := hrel
    by_cases hlt : k < nC
    · obtain ⟨ad, rfl, hab, hca⟩ := (HAC.out.below hbr).seeC (by rw [HLC.out]; omega)
      obtain ⟨c0, c1, c2, c3, c4, c5⟩ := hca k (by rw [HLC.out]; exact hlt)
      obtain ⟨x, hx⟩ : ∃ x, x = lc[k]'(by rw [HLC.out]; exact hlt) := ⟨_, rfl⟩
      rw [← hx] at c0 c1 c2 c3 c4 c5
      clear hx hca
      obtain ⟨xs, xkey, had, xb, has, xa⟩ := x
      simp only at c0 c1 c2 c3 c4 c5
      have hlt3 : (ad.add (k * 6)).block < wb.heap.size := by rw [block_of_add]; exact hab
      have hbs := hbr.size
      obtain ⟨w1, hw1⟩ : ∃ wx, wx = wr.alloc (.cells #[.int .i64 xs, .string xkey, .bool had, .string xb, .bool has, .string xa] 42) := ⟨_, rfl⟩
      obtain ⟨g, hg⟩ : ∃ gx, gx = wr.heap.size := ⟨_, rfl⟩
      have hbx : Box w1 g 42 #[.int .i64 xs, .string xkey, .bool had, .string xb, .bool has, .string xa] := by rw [hw1]; exact Box.at_ wr _ _ hg
      have HB1 := Lib.hid (hbr.trans (show Below wb.heap.size wr w1 from by rw [hw1]; exact ((Below.refl _ _).alloc (Nat.le_refl _) _).mono hbs))
      have HC := Lib.hid (show ∀ wx, Below w1.heap.size w1 wx → wx.cell? ⟨g, 0, none⟩ = some (.int .i64 xs) ∧ wx.cell? ⟨g, 1, none⟩ = some (.string xkey) ∧ wx.cell? ⟨g, 2, none⟩ = some (.bool had) ∧ wx.cell? ⟨g, 3, none⟩ = some (.string xb) ∧ wx.cell? ⟨g, 4, none⟩ = some (.bool has) ∧ wx.cell? ⟨g, 5, none⟩ = some (.string xa) from fun wx hx => by
        have hb := hbx.on hx
        exact ⟨hb.cell 0 rfl, hb.cell 1 rfl, hb.cell 2 rfl, hb.cell 3 rfl, hb.cell 4 rfl, hb.cell 5 rfl⟩)
      have hm1 := fun w => may_any xs xkey had xb has xa w
      have hm2 := fun w => dmay_any xs xkey had xb has xa w
      generalize mayC ⟨xs, xkey, had, xb, has, xa⟩ = M at *
      have HM1 := Lib.hid hm1
      have HM2 := Lib.hid hm2
      go_upto_region 14 with fail
      rw [← hg, ← hw1]
      clear hg hw1 c0 c1 c2 c3 c4 c5 hbx hbr hbs hm1 hm2
      refine wp_region_inv [88, 89, 90, 91, 92] (by kernel_rfl) (by kernel_rfl) (fun w' => Below w1.heap.size w1 w') (fun wa wb => Below wa.heap.size wa wb) (WrV xs xkey xb xa had has M g) (by kernel_rfl) (fun wa wb h1 h2 => h2.trans (h1.mono h2.size)) (fun t v wa wb h1 h2 => h2.on h1) (Below.refl _ _).drew (steps_of ?_) ?_
      · skip
        refine Steps1.cons (fun ax wx hS hG => ?_) (Steps1.cons (fun ax wx hS hG => ?_) (Steps1.cons (fun ax wx hS hG => ?_) (Steps1.cons (fun ax wx hS hG => ?_) (Steps1.cons (fun ax wx hS hG => ?_) Steps1.nil))))
        · have q26 := hG.old 26 (by kernel_rfl) (by kernel_rfl)
          obtain ⟨z0, z1, z2, z3, z4, z5⟩ := HC.out wx hS
          refine step_value (v := .agg #[.int .i64 xs, .string xkey, .bool had, .string xb, .bool has, .string xa]) (w' := wx) rfl rfl ?_ (Below.refl _ _) (fun d hd => by cases hd; exact rfl)
          go_simp
        · obtain ⟨_, q88, rfl⟩ := hG.new 88 (by kernel_rfl) (by kernel_rfl)
          refine step_call (w1 := wx) (f := 20) (args := #[.agg #[.int .i64 xs, .string xkey, .bool had, .string xb, .bool has, .string xa]]) rfl rfl ?_ ((HM1.out wx).mono ?_)
          · skip
            go_simp
          · rintro e w' ⟨rfl, hq⟩
            exact ⟨_, rfl, hq, fun d hd => by cases hd; exact rfl⟩
        · have q26 := hG.old 26 (by kernel_rfl) (by kernel_rfl)
          obtain ⟨z0, z1, z2, z3, z4, z5⟩ := HC.out wx hS
          refine step_value (v := .agg #[.int .i64 xs, .string xkey, .bool had, .string xb, .bool has, .string xa]) (w' := wx) rfl rfl ?_ (Below.refl _ _) (fun d hd => by cases hd; exact rfl)
          go_simp
        · obtain ⟨_, q90, rfl⟩ := hG.new 90 (by kernel_rfl) (by kernel_rfl)
          refine step_call (w1 := wx) (f := 21) (args := #[.agg #[.int .i64 xs, .string xkey, .bool had, .string xb, .bool has, .string xa]]) rfl rfl ?_ ((HM2.out wx).mono ?_)
          · skip
            go_simp
          · rintro e w' ⟨rfl, hq⟩
            exact ⟨_, rfl, hq, fun d hd => by cases hd; exact rfl⟩
        · obtain ⟨_, q89, rfl⟩ := hG.new 89 (by kernel_rfl) (by kernel_rfl)
          obtain ⟨_, q91, rfl⟩ := hG.new 91 (by kernel_rfl) (by kernel_rfl)
          refine step_value (v := .bool false) (w' := wx) rfl rfl ?_ (Below.refl _ _) (fun d hd => by cases hd; exact rfl)
          go_simp
      intro fv w8 hS8 hV8
      have e92 : fv 92 = .bool false := hV8 92 (by decide)
      simp only [puts, Act.put, List.setIfInBounds_toArray, List.set_cons_succ, List.set_cons_zero]
      clear hV8
      rw [e92]
      have HB8 := Lib.hid (HB1.out.trans (hS8.mono HB1.out.size))
      clear hS8 HB1
      go_wp2
      go_roundw
      case rel => exact ⟨k + 1, by go_num, by omega, HB8.out⟩
      case measure => simp [intOf]; omega
    · have HBr := Lib.hid hbr
      clear hbr
      go_wp2_with fail
      refine (HKN.out _).mono ?_
      rintro e w1 ⟨rfl, hb⟩
      have HX1 := Lib.hid (HBr.out.trans (hb.mono HBr.out.size))
      clear hb hk hlt
      go_wp2_with fail
      refine (HKP.out _).mono ?_
      rintro e w2 ⟨rfl, hb⟩
      have HX2 := Lib.hid (HX1.out.trans (hb.mono HX1.out.size))
      clear hb
      go_wp2_with fail
      refine (HKC.out _).mono ?_
      rintro e w3 ⟨rfl, hb⟩
      have HX3 := Lib.hid (HX2.out.trans (hb.mono HX2.out.size))
      clear hb
      go_wp2_with fail
      refine (HKR.out _).mono ?_
      rintro e w4 ⟨rfl, hb⟩
      have HX4 := Lib.hid (HX3.out.trans (hb.mono HX3.out.size))
      clear hb
      go_wp2_with fail
      refine (awake_true _).mono ?_
      rintro e w5 ⟨rfl, hb⟩
      have HX5 := Lib.hid (HX4.out.trans (hb.mono HX4.out.size))
      have HBZ := Lib.hid (HB.out.trans (HX5.out.mono HB.out.size))
      clear hb
      go_wp2
      go_ret
      exact ⟨rfl, HBZ.out⟩

end Go.Proofs.Ytfbcmcckgjfdhaa
