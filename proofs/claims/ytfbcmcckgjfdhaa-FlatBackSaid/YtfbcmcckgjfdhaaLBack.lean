/- The walk of FlatBack: what is written is taken, whatever stands behind; the document's Same of changes (equal ones). -/
import Derived.Test.YtfbcmcckgjfdhaaFk
import Derived.Test.YtfbcmcckgjfdhaaRSame
set_option linter.unusedVariables false
set_option linter.unusedSimpArgs false
namespace Go.Proofs.Ytfbcmcckgjfdhaa
open Go.RowKit Go.Sort

set_option maxHeartbeats 2000000 in
set_option maxRecDepth 100000 in
theorem csame_eq (A B : Option Addr) (c d : Nat) (l : List Ch) (w : World) (ha : Chs w w.heap.size A l) (hb : Chs w w.heap.size B l) (hla : l.length ≤ maxLen) :
    Calls Try.prog 37 #[.slice A l.length c, .slice B l.length d] w fun e w' => e = .returned (.bool true) ∧ Below w.heap.size w w' := by
  unfold maxLen at hla
  obtain ⟨n, hn⟩ : ∃ n, l.length = n := ⟨_, rfl⟩
  rw [hn] at hla ⊢
  have Hn := Lib.hid hn
  have hne : ((n : Int) != (n : Int)) = false := by simp
  have Ha := Lib.hid ha
  have Hb := Lib.hid hb
  clear hn ha hb
  go_enter Try.func37, Try.ntmps37
  go_wp2
  go_loopw [5] (fun i wr => ∃ (k : Nat), i = .int .i64 k ∧ k ≤ n ∧ Below w.heap.size w wr) (fun i _ => (n - intOf i).toNat)
  case atStart => exact ⟨0, rfl, by omega, Below.refl _ _⟩
  case round =>
    obtain ⟨k, rfl, hk, hbr⟩ := hrel
    by_cases hlt : k < n
    · obtain ⟨a1, rfl, hab, hca⟩ := (Ha.out.below hbr).seeC (by rw [Hn.out]; omega)
      obtain ⟨b1, rfl, hbb, hcb⟩ := (Hb.out.below hbr).seeC (by rw [Hn.out]; omega)
      obtain ⟨c1, c2, c3, c4, c5, c6⟩ := hca k (by rw [Hn.out]; omega)
      obtain ⟨d1, d2, d3, d4, d5, d6⟩ := hcb k (by rw [Hn.out]; omega)
      obtain ⟨x, hx⟩ : ∃ x, x = l[k]'(by rw [Hn.out]; omega) := ⟨_, rfl⟩
      rw [← hx] at c1 c2 c3 c4 c5 c6 d1 d2 d3 d4 d5 d6
      clear hx hca hcb
      obtain ⟨xs, xk, xh, xb, xg, xa⟩ := x
      simp only at c1 c2 c3 c4 c5 c6 d1 d2 d3 d4 d5 d6
      go_wp2
      go_quiet (fail)
      go_wp2
      go_roundw
      case rel => exact ⟨k + 1, by go_num, by omega, below_drewN hbr _⟩
      case measure => simp [intOf]; omega
    · go_wp2
      go_ret
      exact ⟨rfl, hbr⟩
theorem csame_v {v u : Value} {l : List Ch} {w : World} (h : CV w v l) (g : CV w u l) (hn : l.length ≤ maxLen) :
    Calls Try.prog 37 #[v, u] w fun e w' => e = .returned (.bool true) ∧ Below w.heap.size w w' := by
  obtain ⟨A, c, rfl, hA, _⟩ := h
  obtain ⟨B, d, rfl, hB, _⟩ := g
  exact csame_eq A B c d l w hA hB hn
theorem nsame_v {v u : Value} {l : List Nt} {w : World} (h : NV w v l) (g : NV w u l) (hn : l.length ≤ maxLen) :
    Calls Try.prog 35 #[v, u] w fun e w' => e = .returned (.bool true) ∧ Below w.heap.size w w' := by
  obtain ⟨A, c, rfl, hA, _⟩ := h
  obtain ⟨B, d, rfl, hB, _⟩ := g
  have h := dsame_any A B c d l l w hA hB hn
  rwa [decide_eq_true rfl] at h
theorem psame_v {v u : Value} {l : List Pr} {w : World} (h : PV w v l) (g : PV w u l) (hn : l.length ≤ maxLen) :
    Calls Try.prog 36 #[v, u] w fun e w' => e = .returned (.bool true) ∧ Below w.heap.size w w' := by
  obtain ⟨A, c, rfl, hA, _⟩ := h
  obtain ⟨B, d, rfl, hB, _⟩ := g
  have h := same_any A B c d l l w hA hB hn
  rwa [decide_eq_true rfl] at h

theorem Kd.back {α : Type} (K : Kd α) (l : List α) (more : ByteArray) (h30 : l.length ≤ 30) (hm : more.size ≤ 300) : K.listE l = 1 ∨ (K.listE l = 0 ∧ (K.listS l).size + more.size ≤ 10000 ∧ (K.listS l ++ more).size ≤ 10000 ∧ K.tL (K.listS l ++ more) = l ∧ K.tR (K.listS l ++ more) = more ∧ K.tE (K.listS l ++ more) = 0) := by
  cases h : K.may l with
  | false => exact .inl (K.no_S h).2
  | true =>
    obtain ⟨y1, y2⟩ := K.yes_S h
    have hl := K.list_len h
    rw [y1, y2]
    exact .inr ⟨rfl, by omega, by rw [ByteArray.size_append]; omega, K.t_some (K.takeL_put h more)⟩
theorem back_rng (r : Rng) (more : ByteArray) (hm : more.size ≤ 300) : rE r = 1 ∨ (rE r = 0 ∧ (rS r).size + more.size ≤ 10000 ∧ (rS r ++ more).size ≤ 10000 ∧ tRx (rS r ++ more) = r ∧ tRr (rS r ++ more) = more ∧ tRe (rS r ++ more) = 0) := by
  cases h : rightB r with
  | false => exact .inl (by unfold rE; rw [h]; rfl)
  | true =>
    have e1 : rS r = kR.enc r := by unfold rS; rw [h]; rfl
    have e2 : rE r = 0 := by unfold rE; rw [h]; rfl
    have hl := kR.len (x := r) h
    rw [e1, e2]
    exact .inr ⟨rfl, by omega, by rw [ByteArray.size_append]; omega, tR_some (kR.dec_put h more)⟩

set_option maxRecDepth 100000 in
set_option maxHeartbeats 8000000 in
theorem back_walk (vn vp vc : Value) (ln : List Nt) (lp : List Pr) (lc : List Ch) (lo hi : ByteArray) (op : Bool) (more : ByteArray) (w : World) (hn : NV w vn ln) (hp : PV w vp lp) (hc : CV w vc lc) (mn : ln.length ≤ maxLen) (mp : lp.length ≤ maxLen) (mc : lc.length ≤ maxLen) (_hm : more.size ≤ maxLen) :
    Calls Try.prog 5 #[vn, vp, vc, .agg #[.string lo, .string hi, .bool op], .string more] w fun e w' => e = .returned (.bool true) ∧ Below w.heap.size w w' := by
  obtain ⟨w0, hw0⟩ : ∃ w0, w0 = w.alloc (.cells #[.string lo, .string hi, .bool op] 26) := ⟨_, rfl⟩
  obtain ⟨g, hg⟩ : ∃ g, g = w.heap.size := ⟨_, rfl⟩
  have hb0 : Below w.heap.size w w0 := by rw [hw0]; exact (Below.refl _ _).alloc (Nat.le_refl _) _
  have HB0 := Lib.hid hb0
  have XR0 := Lib.hid (show Box w0 g 26 #[.string lo, .string hi, .bool op] from by rw [hw0]; exact Box.at_ w _ _ hg)
  have XN0 := Lib.hid (hn.on hb0)
  have XP0 := Lib.hid (hp.on hb0)
  have XC0 := Lib.hid (hc.on hb0)
  have cN := Kd.back kN ln more
  have cP := Kd.back kP lp more
  have cC := Kd.back kC lc more
  have cR := back_rng ⟨lo, hi, op⟩ more
  have tN := fun v w h => notes_v v ln w h mn
  have tP := fun v w h => pairs_v v lp w h mp
  have tC := fun v w h => changes_v v lc w h mc
  have tR := fun w => rangew_any lo hi op w
  have MN := Lib.hid mn
  have MP := Lib.hid mp
  have MC := Lib.hid mc
  generalize kN.listS ln = SN at *
  generalize kN.listE ln = EN at *
  generalize kP.listS lp = SP at *
  generalize kP.listE lp = EP at *
  generalize kC.listS lc = SC at *
  generalize kC.listE lc = EC at *
  generalize rS ⟨lo, hi, op⟩ = SR at *
  generalize rE ⟨lo, hi, op⟩ = ER at *
  have HCN := Lib.hid cN
  have HTN := Lib.hid tN
  have HCP := Lib.hid cP
  have HTP := Lib.hid tP
  have HCC := Lib.hid cC
  have HTC := Lib.hid tC
  have HCR := Lib.hid cR
  have HTR := Lib.hid tR
  clear cN cP cC cR tN tP tC tR hn hp hc hb0 mn mp mc
  go_enter Try.func5, Try.ntmps5
  go_upto_region 1 with fail
  rw [← hg, ← hw0]
  clear hg hw0
  go_wp2_with fail
  refine (fit_v vn vp vc ln lp lc _ XN0.out XP0.out XC0.out).mono ?_
  rintro e w1 ⟨R, rfl, hR, hb⟩
  have HB1 := Lib.hid (HB0.out.trans (hb.mono HB0.out.size))
  have XR1 := Lib.hid (XR0.out.on hb)
  have XN1 := Lib.hid (XN0.out.on hb)
  have XP1 := Lib.hid (XP0.out.on hb)
  have XC1 := Lib.hid (XC0.out.on hb)
  clear hb HB0 XR0 XN0 XP0 XC0 
  have HR := Lib.hid hR
  clear hR
  cases R with
  | false =>
    go_wp2_with fail
    refine (awake_true _).mono ?_
    rintro e w2 ⟨rfl, hb⟩
    have HB2 := Lib.hid (HB1.out.trans (hb.mono HB1.out.size))
    clear hb HB1 
    go_wp2
    go_ret
    exact ⟨rfl, HB2.out⟩
  | true =>
  obtain ⟨k0, k1, k2⟩ := (⟨Box.cell XR1.out 0 rfl, Box.cell XR1.out 1 rfl, Box.cell XR1.out 2 rfl⟩ : _ ∧ _ ∧ _)
  go_wp2_with fail
  refine (short_three lo hi more w1 _).mono ?_
  rintro e w3 ⟨R2, rfl, hR2, hb⟩
  have HB3 := Lib.hid (HB1.out.trans (hb.mono HB1.out.size))
  have XR3 := Lib.hid (XR1.out.on hb)
  have XN3 := Lib.hid (XN1.out.on hb)
  have XP3 := Lib.hid (XP1.out.on hb)
  have XC3 := Lib.hid (XC1.out.on hb)
  clear hb HB1 XR1 XN1 XP1 XC1 k0 k1 k2
  have HR2 := Lib.hid hR2
  clear hR2
  cases R2 with
  | false =>
    go_wp2_with fail
    refine (awake_true _).mono ?_
    rintro e w4 ⟨rfl, hb⟩
    have HB4 := Lib.hid (HB3.out.trans (hb.mono HB3.out.size))
    clear hb HB3 
    go_wp2
    go_ret
    exact ⟨rfl, HB4.out⟩
  | true =>
  obtain ⟨h1, h2, h3⟩ := HR.out (by first | rfl | trivial)
  obtain ⟨_, _, h4⟩ := HR2.out (by first | rfl | trivial)
  have DN := Lib.hid (HCN.out h1 h4)
  have DP := Lib.hid (HCP.out h2 h4)
  have DC := Lib.hid (HCC.out h3 h4)
  have DR := Lib.hid (HCR.out h4)
  clear HCN HCP HCC HCR h1 h2 h3 h4 HR HR2
  go_wp2_with fail
  refine (HTN.out _ _ XN3.out).mono ?_
  rintro e w5 ⟨rfl, hb⟩
  have HB5 := Lib.hid (HB3.out.trans (hb.mono HB3.out.size))
  have XR5 := Lib.hid (XR3.out.on hb)
  have XN5 := Lib.hid (XN3.out.on hb)
  have XP5 := Lib.hid (XP3.out.on hb)
  have XC5 := Lib.hid (XC3.out.on hb)
  clear hb HB3 XR3 XN3 XP3 XC3 
  go_upto_if 53 with fail
  go_cut [10] (fun v wx => v = .bool false ∧ Hid (Box wx g 26 #[.string lo, .string hi, .bool op]) ∧ Hid (PV wx vp lp) ∧ Hid (CV wx vc lc) ∧ Below w.heap.size w wx)
  case first =>
    rcases DN.out with rfl | ⟨rfl, hz, hz2, q1, q2, q3⟩
    · go_wp2
      go_meet
      case rel => exact ⟨by first | rfl | trivial, XR5, XP5, XC5, HB5.out⟩
    have hzz : ¬ 9223372036854775807 < SN.size + more.size := by omega
    obtain ⟨T, hT⟩ : ∃ T, SN ++ more = T := ⟨_, rfl⟩
    rw [hT] at hz2 q1 q2 q3
    have hzt : T.size ≤ maxLen := by unfold maxLen; omega
    clear hz hz2
    have hc := fun w => tnotes_v T w hzt
    rw [q1, q2, q3] at hc
    have HC := Lib.hid hc
    clear hc q1 q2 q3 hzt
    go_wp2_with fail
    refine (HC.out _).mono ?_
    rintro e w6 ⟨v, rfl, hv, hb⟩
    have XV6 := Lib.hid hv
    clear hv
    have HB6 := Lib.hid (HB5.out.trans (hb.mono HB5.out.size))
    have XR6 := Lib.hid (XR5.out.on hb)
    have XN6 := Lib.hid (XN5.out.on hb)
    have XP6 := Lib.hid (XP5.out.on hb)
    have XC6 := Lib.hid (XC5.out.on hb)
    clear hb HB5 XR5 XN5 XP5 XC5 hT hzz
    go_wp2_with fail
    refine (nsame_v XV6.out XN6.out MN.out).mono ?_
    rintro e w7 ⟨rfl, hb⟩
    have HB7 := Lib.hid (HB6.out.trans (hb.mono HB6.out.size))
    have XR7 := Lib.hid (XR6.out.on hb)
    have XN7 := Lib.hid (XN6.out.on hb)
    have XP7 := Lib.hid (XP6.out.on hb)
    have XC7 := Lib.hid (XC6.out.on hb)
    have XV7 := Lib.hid (XV6.out.on hb)
    clear hb HB6 XR6 XN6 XP6 XC6 XV6 
    clear XV7
    go_wp2
    go_meet
    case rel => exact ⟨by first | rfl | trivial, XR7, XP7, XC7, HB7.out⟩
  case rest =>
  obtain ⟨rfl, cXR, cXP, cXC, hb8⟩ := hcut
  obtain ⟨w8, hw8⟩ : ∃ wz, wz = wc := ⟨_, rfl⟩
  rw [← hw8] at cXR cXP cXC hb8 ⊢
  clear HB5 XR5 XN5 XP5 XC5 DN hw8
  have HB8 := Lib.hid hb8
  clear hb8
  have XR8 := cXR
  clear cXR
  have XP8 := cXP
  clear cXP
  have XC8 := cXC
  clear cXC
  go_wp2_with fail
  refine (HTP.out _ _ XP8.out).mono ?_
  rintro e w9 ⟨rfl, hb⟩
  have HB9 := Lib.hid (HB8.out.trans (hb.mono HB8.out.size))
  have XR9 := Lib.hid (XR8.out.on hb)
  have XP9 := Lib.hid (XP8.out.on hb)
  have XC9 := Lib.hid (XC8.out.on hb)
  clear hb HB8 XR8 XP8 XC8 
  go_upto_if 81 with fail
  go_cut [10] (fun v wx => v = .bool false ∧ Hid (Box wx g 26 #[.string lo, .string hi, .bool op]) ∧ Hid (CV wx vc lc) ∧ Below w.heap.size w wx)
  case first =>
    rcases DP.out with rfl | ⟨rfl, hz, hz2, q1, q2, q3⟩
    · go_wp2
      go_meet
      case rel => exact ⟨by first | rfl | trivial, XR9, XC9, HB9.out⟩
    have hzz : ¬ 9223372036854775807 < SP.size + more.size := by omega
    obtain ⟨T, hT⟩ : ∃ T, SP ++ more = T := ⟨_, rfl⟩
    rw [hT] at hz2 q1 q2 q3
    have hzt : T.size ≤ maxLen := by unfold maxLen; omega
    clear hz hz2
    have hc := fun w => tpairs_v T w hzt
    rw [q1, q2, q3] at hc
    have HC := Lib.hid hc
    clear hc q1 q2 q3 hzt
    go_wp2_with fail
    refine (HC.out _).mono ?_
    rintro e w10 ⟨v, rfl, hv, hb⟩
    have XV10 := Lib.hid hv
    clear hv
    have HB10 := Lib.hid (HB9.out.trans (hb.mono HB9.out.size))
    have XR10 := Lib.hid (XR9.out.on hb)
    have XP10 := Lib.hid (XP9.out.on hb)
    have XC10 := Lib.hid (XC9.out.on hb)
    clear hb HB9 XR9 XP9 XC9 hT hzz
    go_wp2_with fail
    refine (psame_v XV10.out XP10.out MP.out).mono ?_
    rintro e w11 ⟨rfl, hb⟩
    have HB11 := Lib.hid (HB10.out.trans (hb.mono HB10.out.size))
    have XR11 := Lib.hid (XR10.out.on hb)
    have XP11 := Lib.hid (XP10.out.on hb)
    have XC11 := Lib.hid (XC10.out.on hb)
    have XV11 := Lib.hid (XV10.out.on hb)
    clear hb HB10 XR10 XP10 XC10 XV10 
    clear XV11
    go_wp2
    go_meet
    case rel => exact ⟨by first | rfl | trivial, XR11, XC11, HB11.out⟩
  case rest =>
  obtain ⟨rfl, cXR, cXC, hb12⟩ := hcut
  obtain ⟨w12, hw12⟩ : ∃ wz, wz = wc := ⟨_, rfl⟩
  rw [← hw12] at cXR cXC hb12 ⊢
  clear HB9 XR9 XP9 XC9 DP hw12
  have HB12 := Lib.hid hb12
  clear hb12
  have XR12 := cXR
  clear cXR
  have XC12 := cXC
  clear cXC
  go_wp2_with fail
  refine (HTC.out _ _ XC12.out).mono ?_
  rintro e w13 ⟨rfl, hb⟩
  have HB13 := Lib.hid (HB12.out.trans (hb.mono HB12.out.size))
  have XR13 := Lib.hid (XR12.out.on hb)
  have XC13 := Lib.hid (XC12.out.on hb)
  clear hb HB12 XR12 XC12 
  go_upto_if 109 with fail
  go_cut [10] (fun v wx => v = .bool false ∧ Hid (Box wx g 26 #[.string lo, .string hi, .bool op]) ∧ Below w.heap.size w wx)
  case first =>
    rcases DC.out with rfl | ⟨rfl, hz, hz2, q1, q2, q3⟩
    · go_wp2
      go_meet
      case rel => exact ⟨by first | rfl | trivial, XR13, HB13.out⟩
    have hzz : ¬ 9223372036854775807 < SC.size + more.size := by omega
    obtain ⟨T, hT⟩ : ∃ T, SC ++ more = T := ⟨_, rfl⟩
    rw [hT] at hz2 q1 q2 q3
    have hzt : T.size ≤ maxLen := by unfold maxLen; omega
    clear hz hz2
    have hc := fun w => tchanges_v T w hzt
    rw [q1, q2, q3] at hc
    have HC := Lib.hid hc
    clear hc q1 q2 q3 hzt
    go_wp2_with fail
    refine (HC.out _).mono ?_
    rintro e w14 ⟨v, rfl, hv, hb⟩
    have XV14 := Lib.hid hv
    clear hv
    have HB14 := Lib.hid (HB13.out.trans (hb.mono HB13.out.size))
    have XR14 := Lib.hid (XR13.out.on hb)
    have XC14 := Lib.hid (XC13.out.on hb)
    clear hb HB13 XR13 XC13 hT hzz
    go_wp2_with fail
    refine (csame_v XV14.out XC14.out MC.out).mono ?_
    rintro e w15 ⟨rfl, hb⟩
    have HB15 := Lib.hid (HB14.out.trans (hb.mono HB14.out.size))
    have XR15 := Lib.hid (XR14.out.on hb)
    have XC15 := Lib.hid (XC14.out.on hb)
    have XV15 := Lib.hid (XV14.out.on hb)
    clear hb HB14 XR14 XC14 XV14 
    clear XV15
    go_wp2
    go_meet
    case rel => exact ⟨by first | rfl | trivial, XR15, HB15.out⟩
  case rest =>
  obtain ⟨rfl, cXR, hb16⟩ := hcut
  obtain ⟨w16, hw16⟩ : ∃ wz, wz = wc := ⟨_, rfl⟩
  rw [← hw16] at cXR hb16 ⊢
  clear HB13 XR13 XC13 DC hw16
  have HB16 := Lib.hid hb16
  clear hb16
  have XR16 := cXR
  clear cXR
  obtain ⟨k0, k1, k2⟩ := (⟨Box.cell XR16.out 0 rfl, Box.cell XR16.out 1 rfl, Box.cell XR16.out 2 rfl⟩ : _ ∧ _ ∧ _)
  go_wp2_with fail
  refine (HTR.out _).mono ?_
  rintro e w17 ⟨rfl, hb⟩
  have HB17 := Lib.hid (HB16.out.trans (hb.mono HB16.out.size))
  have XR17 := Lib.hid (XR16.out.on hb)
  clear hb HB16 XR16 k0 k1 k2
  go_upto_if 137 with fail
  go_cut [10] (fun v wx => v = .bool false ∧ Below w.heap.size w wx)
  case first =>
    rcases DR.out with rfl | ⟨rfl, hz, hz2, q1, q2, q3⟩
    · go_wp2
      go_meet
      case rel => exact ⟨by first | rfl | trivial, HB17.out⟩
    have hzz : ¬ 9223372036854775807 < SR.size + more.size := by omega
    obtain ⟨T, hT⟩ : ∃ T, SR ++ more = T := ⟨_, rfl⟩
    rw [hT] at hz2 q1 q2 q3
    have hzt : T.size ≤ maxLen := by unfold maxLen; omega
    clear hz hz2
    have hc := fun w => ranget_any T w hzt
    rw [q1, q2, q3] at hc
    unfold Rng.v at hc
    simp only at hc
    have HC := Lib.hid hc
    clear hc q1 q2 q3 hzt
    go_wp2_with fail
    refine (HC.out _).mono ?_
    rintro e w18 ⟨rfl, hb⟩
    have HB18 := Lib.hid (HB17.out.trans (hb.mono HB17.out.size))
    have XR18 := Lib.hid (XR17.out.on hb)
    clear hb HB17 XR17 hT hzz
    obtain ⟨wf, hwf⟩ : ∃ wf, wf = w18.alloc (.cells #[.string lo, .string hi, .bool op] 26) := ⟨_, rfl⟩
    obtain ⟨gf, hgf⟩ : ∃ gf, gf = w18.heap.size := ⟨_, rfl⟩
    have hbf : Below w18.heap.size w18 wf := by rw [hwf]; exact (Below.refl _ _).alloc (Nat.le_refl _) _
    have BF := Lib.hid (show Box wf gf 26 #[.string lo, .string hi, .bool op] from by rw [hwf]; exact Box.at_ w18 _ _ hgf)
    have XF := Lib.hid (XR18.out.on hbf)
    have HF := Lib.hid (HB18.out.trans (hbf.mono HB18.out.size))
    clear hbf
    go_upto_region 21 with fail
    rw [← hgf, ← hwf]
    clear hgf hwf
    obtain ⟨k0, k1, k2⟩ := (⟨Box.cell XF.out 0 rfl, Box.cell XF.out 1 rfl, Box.cell XF.out 2 rfl⟩ : _ ∧ _ ∧ _)
    obtain ⟨j0, j1, j2⟩ := (⟨Box.cell BF.out 0 rfl, Box.cell BF.out 1 rfl, Box.cell BF.out 2 rfl⟩ : _ ∧ _ ∧ _)
    go_wp2
    go_meet
    case rel => exact ⟨by first | rfl | trivial, HF.out⟩
  case rest =>
  obtain ⟨rfl, hb19⟩ := hcut
  obtain ⟨w19, hw19⟩ : ∃ wz, wz = wc := ⟨_, rfl⟩
  rw [← hw19] at hb19 ⊢
  clear HB17 XR17 DR hw19
  have HB19 := Lib.hid hb19
  clear hb19
  go_wp2_with fail
  refine (awake_true _).mono ?_
  rintro e w20 ⟨rfl, hb⟩
  have HB20 := Lib.hid (HB19.out.trans (hb.mono HB19.out.size))
  clear hb HB19 
  go_wp2
  go_ret
  exact ⟨rfl, HB20.out⟩

end Go.Proofs.Ytfbcmcckgjfdhaa
