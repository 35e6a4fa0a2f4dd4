/- The walk of FlatOnce: what is taken of any bytes is written as just these, and the rest. -/
import Derived.Test.YtfbcmcckgjfdhaaFk
set_option linter.unusedVariables false
set_option linter.unusedSimpArgs false
namespace Go.Proofs.Ytfbcmcckgjfdhaa
open Go.RowKit Go.Sort

theorem Kd.tL_len {α : Type} (K : Kd α) (s : ByteArray) : (K.tL s).length ≤ maxLen := by
  cases h : K.takeL s with
  | none => rw [(K.t_none h).1]; show 0 ≤ _; unfold maxLen; omega
  | some q =>
    obtain ⟨l, r⟩ := q
    rw [(K.t_some h).1]
    obtain ⟨h1, _⟩ := (K.takeL_iff _ _ _).1 h
    unfold Kd.may at h1
    simp only [Bool.and_eq_true, decide_eq_true_eq] at h1
    unfold maxLen; omega
/-- What is taken is written as it stood. -/
theorem Kd.once {α : Type} (K : Kd α) {s : ByteArray} (hs : s.size ≤ 300) : K.tE s = 2 ∨ (K.tE s = 0 ∧ K.listE (K.tL s) = 0 ∧ K.listS (K.tL s) ++ K.tR s = s ∧ (K.listS (K.tL s)).size + (K.tR s).size ≤ 300) := by
  cases h : K.takeL s with
  | none => exact .inl (K.t_none h).2.2
  | some q =>
    obtain ⟨l, r⟩ := q
    obtain ⟨e1, e2, e3⟩ := K.t_some h
    obtain ⟨h1, h2⟩ := (K.takeL_iff _ _ _).1 h
    obtain ⟨y1, y2⟩ := K.yes_S h1
    rw [e1, e2, e3, y1, y2]
    refine .inr ⟨rfl, rfl, h2.symm, ?_⟩
    rw [← ByteArray.size_append, ← h2]; exact hs
theorem once_rng {s : ByteArray} (hs : s.size ≤ 300) : tRe s = 2 ∨ (tRe s = 0 ∧ rE (tRx s) = 0 ∧ rS (tRx s) ++ tRr s = s ∧ (rS (tRx s)).size + (tRr s).size ≤ 300) := by
  cases h : kR.dec s with
  | none => exact .inl (tR_none h).2.2
  | some q =>
    obtain ⟨x, r⟩ := q
    obtain ⟨e1, e2, e3⟩ := tR_some h
    obtain ⟨h1, h2⟩ := (kR.dec_iff _ _ _).1 h
    have h1' : rightB x = true := h1
    have h2' : s = rngB x ++ r := h2
    rw [e1, e2, e3]
    unfold rE rS
    rw [h1', if_pos rfl, if_pos rfl]
    refine .inr ⟨rfl, rfl, h2'.symm, ?_⟩
    rw [← ByteArray.size_append, ← h2']; exact hs

set_option maxRecDepth 100000 in
set_option maxHeartbeats 8000000 in
theorem once_walk (s : ByteArray) (w : World) (hs0 : s.size ≤ maxLen) :
    Calls Try.prog 6 #[.string s] w fun e w' => e = .returned (.bool true) ∧ Below w.heap.size w w' := by
  by_cases h3 : s.size ≤ 300
  case neg =>
    have hd : decide (300 < (s.size : Int)) = true := by simp; omega
    go_enter Try.func6, Try.ntmps6
    go_wp2_with fail
    refine (awake_true _).mono ?_
    rintro e w1 ⟨rfl, hb⟩
    have HB := Lib.hid hb
    clear hb
    go_wp2
    go_ret
    exact ⟨rfl, HB.out⟩
  have hd : decide (300 < (s.size : Int)) = false := by simp; omega
  have tN := fun w => tnotes_v s w hs0
  have lN := fun v w h => notes_v v (kN.tL s) w h (kN.tL_len s)
  have cN := kN.once h3
  generalize kN.tL s = LN at *
  generalize kN.tR s = RN at *
  generalize kN.tE s = EN at *
  generalize kN.listS LN = SN at *
  generalize kN.listE LN = FN at *
  have HTN := Lib.hid tN
  have HLN := Lib.hid lN
  have HCN := Lib.hid cN
  clear tN lN cN
  have tP := fun w => tpairs_v s w hs0
  have lP := fun v w h => pairs_v v (kP.tL s) w h (kP.tL_len s)
  have cP := kP.once h3
  generalize kP.tL s = LP at *
  generalize kP.tR s = RP at *
  generalize kP.tE s = EP at *
  generalize kP.listS LP = SP at *
  generalize kP.listE LP = FP at *
  have HTP := Lib.hid tP
  have HLP := Lib.hid lP
  have HCP := Lib.hid cP
  clear tP lP cP
  have tC := fun w => tchanges_v s w hs0
  have lC := fun v w h => changes_v v (kC.tL s) w h (kC.tL_len s)
  have cC := kC.once h3
  generalize kC.tL s = LC at *
  generalize kC.tR s = RC at *
  generalize kC.tE s = EC at *
  generalize kC.listS LC = SC at *
  generalize kC.listE LC = FC at *
  have HTC := Lib.hid tC
  have HLC := Lib.hid lC
  have HCC := Lib.hid cC
  clear tC lC cC
  have tR := fun w => ranget_any s w hs0
  have cR := once_rng h3
  generalize tRx s = X at *
  generalize tRr s = RR at *
  generalize tRe s = ER at *
  obtain ⟨xlo, xhi, xop⟩ := X
  have lR := fun w => rangew_any xlo xhi xop w
  generalize rS ⟨xlo, xhi, xop⟩ = SR at *
  generalize rE ⟨xlo, xhi, xop⟩ = FR at *
  unfold Rng.v at tR
  simp only at tR
  have HTR := Lib.hid tR
  have HLR := Lib.hid lR
  have HCR := Lib.hid cR
  clear tR lR cR h3 hs0
  go_enter Try.func6, Try.ntmps6
  go_wp2_with fail
  refine (HTN.out _).mono ?_
  rintro e w1 ⟨vN, rfl, hv, hb⟩
  have HB1 := Lib.hid (hb)
  have HN1 := Lib.hid hv
  clear hb hv
  go_wp2_with fail
  refine (HTP.out _).mono ?_
  rintro e w2 ⟨vP, rfl, hv, hb⟩
  have HB2 := Lib.hid (HB1.out.trans (hb.mono HB1.out.size))
  have HN2 := Lib.hid (HN1.out.on hb)
  have HP2 := Lib.hid hv
  clear hb hv HB1 HN1
  go_wp2_with fail
  refine (HTC.out _).mono ?_
  rintro e w3 ⟨vC, rfl, hv, hb⟩
  have HB3 := Lib.hid (HB2.out.trans (hb.mono HB2.out.size))
  have HN3 := Lib.hid (HN2.out.on hb)
  have HP3 := Lib.hid (HP2.out.on hb)
  have HC3 := Lib.hid hv
  clear hb hv HB2 HN2 HP2
  go_wp2_with fail
  refine (HTR.out _).mono ?_
  rintro e w4 ⟨rfl, hb⟩
  obtain ⟨w5, hw5⟩ : ∃ w5, w5 = w4.alloc (.cells #[.string xlo, .string xhi, .bool xop] 26) := ⟨_, rfl⟩
  obtain ⟨g, hg⟩ : ∃ g, g = w4.heap.size := ⟨_, rfl⟩
  have hb5 : Below w4.heap.size w4 w5 := by rw [hw5]; exact (Below.refl _ _).alloc (Nat.le_refl _) _
  have hb6 := hb.trans (hb5.mono hb.size)
  have HB5 := Lib.hid (HB3.out.trans (hb6.mono HB3.out.size))
  have BX5 := Lib.hid (show Box w5 g 26 #[.string xlo, .string xhi, .bool xop] from by rw [hw5]; exact Box.at_ w4 _ _ hg)
  have HN5 := Lib.hid (HN3.out.on hb6)
  have HP5 := Lib.hid (HP3.out.on hb6)
  have HC5 := Lib.hid (HC3.out.on hb6)
  clear hb hb5 hb6 HB3 HN3 HP3 HC3
  go_upto_region 7 with fail
  rw [← hg, ← hw5]
  clear hg hw5
  go_wp2_with fail
  refine (HLN.out _ _ HN5.out).mono ?_
  rintro e w6 ⟨rfl, hb⟩
  have HB6 := Lib.hid (HB5.out.trans (hb.mono HB5.out.size))
  have BX6 := Lib.hid (BX5.out.on hb)
  have HN6 := Lib.hid (HN5.out.on hb)
  have HP6 := Lib.hid (HP5.out.on hb)
  have HC6 := Lib.hid (HC5.out.on hb)
  clear hb HB5 BX5 HN5 HP5 HC5
  go_wp2_with fail
  refine (HLP.out _ _ HP6.out).mono ?_
  rintro e w7 ⟨rfl, hb⟩
  have HB7 := Lib.hid (HB6.out.trans (hb.mono HB6.out.size))
  have BX7 := Lib.hid (BX6.out.on hb)
  have HN7 := Lib.hid (HN6.out.on hb)
  have HP7 := Lib.hid (HP6.out.on hb)
  have HC7 := Lib.hid (HC6.out.on hb)
  clear hb HB6 BX6 HN6 HP6 HC6
  go_wp2_with fail
  refine (HLC.out _ _ HC7.out).mono ?_
  rintro e w8 ⟨rfl, hb⟩
  have HB8 := Lib.hid (HB7.out.trans (hb.mono HB7.out.size))
  have BX8 := Lib.hid (BX7.out.on hb)
  have HN8 := Lib.hid (HN7.out.on hb)
  have HP8 := Lib.hid (HP7.out.on hb)
  have HC8 := Lib.hid (HC7.out.on hb)
  clear hb HB7 BX7 HN7 HP7 HC7
  obtain ⟨k0, k1, k2⟩ := (⟨Box.cell BX8.out 0 rfl, Box.cell BX8.out 1 rfl, Box.cell BX8.out 2 rfl⟩ : _ ∧ _ ∧ _)
  go_wp2_with fail
  refine (HLR.out _).mono ?_
  rintro e w9 ⟨rfl, hb⟩
  have HB9 := Lib.hid (HB8.out.trans (hb.mono HB8.out.size))
  clear hb HB8 BX8 k0 k1 k2 HN8 HP8 HC8 HLR HTR HLN HTN HLP HTP HLC HTC
  go_upto_region 11 with fail
  have cN := HCN.out
  have cP := HCP.out
  have cC := HCC.out
  have cR := HCR.out
  clear HCN HCP HCC HCR
  rcases cN with rfl | ⟨rfl, rfl, eN, zN⟩ <;> rcases cP with rfl | ⟨rfl, rfl, eP, zP⟩ <;> rcases cC with rfl | ⟨rfl, rfl, eC, zC⟩ <;> rcases cR with rfl | ⟨rfl, rfl, eR, zR⟩ <;>
  · go_wp2_with fail
    refine (awake_true _).mono ?_
    rintro e w10 ⟨rfl, hb⟩
    have HB10 := Lib.hid (HB9.out.trans (hb.mono HB9.out.size))
    clear hb
    go_wp2
    go_ret
    exact ⟨rfl, HB10.out⟩

end Go.Proofs.Ytfbcmcckgjfdhaa
