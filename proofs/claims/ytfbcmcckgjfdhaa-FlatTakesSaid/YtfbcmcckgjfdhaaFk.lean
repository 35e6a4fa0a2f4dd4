/- The laws' fixed answer: plain facts, and its walk. -/
import Derived.Test.YtfbcmcckgjfdhaaFa
set_option linter.unusedVariables false
set_option linter.unusedSimpArgs false
namespace Go.Proofs.Ytfbcmcckgjfdhaa
open Go.RowKit Go.Sort

def aN : Nt := ⟨3, ⟨#[107]⟩, noB, 7⟩
def aC : Ch := ⟨5, ⟨#[97]⟩, false, noB, true, ⟨#[118]⟩⟩
def aD : Ch := ⟨5, ⟨#[97]⟩, false, noB, false, noB⟩
abbrev bN : ByteArray := ⟨#[0, 1, 3, 0, 1, 107, 0, 0, 0, 0, 0, 0, 0, 0, 0, 7]⟩
abbrev bC : ByteArray := ⟨#[0, 1, 0, 0, 0, 5, 0, 1, 97, 0, 0, 0, 1, 0, 1, 118]⟩
abbrev bX : ByteArray := ⟨#[0, 1, 3, 0, 1, 107, 0, 0, 0, 0, 0, 0, 0, 0, 0, 7, 120]⟩
theorem aN_may : kN.may [aN] = true := by decide
theorem aC_may : kC.may [aC] = true := by decide
theorem aD_may : kC.may [aD] = false := by decide
theorem aP_may : kP.may [] = true := by decide
theorem aN_list : kN.list [aN] = bN := by
  apply ba_ext
  unfold Kd.list
  rw [Kd.cat_cons, Kd.cat_nil, noB_right]
  show (nS 2 1 ++ noteB aN).data.toList = _
  unfold noteB
  simp only [data_append, nS_data, textS_data (show textOk aN.key = true from rfl), textS_data (show textOk aN.value = true from rfl)]
  rfl
theorem aC_list : kC.list [aC] = bC := by
  apply ba_ext
  unfold Kd.list
  rw [Kd.cat_cons, Kd.cat_nil, noB_right]
  show (nS 2 1 ++ chB aC).data.toList = _
  unfold chB fS
  simp only [data_append, nS_data, textS_data (show textOk aC.key = true from rfl), textS_data (show textOk aC.before = true from rfl), textS_data (show textOk aC.after = true from rfl)]
  rfl
theorem aP_list : kP.list [] = ⟨#[0, 0]⟩ := by
  apply ba_ext
  unfold Kd.list
  rw [Kd.cat_nil, noB_right, nS_data]
  rfl
theorem aR_right : rightB ⟨⟨#[97]⟩, noB, true⟩ = true := by
  rw [rightB_parts, str_empty, decide_eq_true rfl]
  rfl
theorem aR_list : rS ⟨⟨#[97]⟩, noB, true⟩ = ⟨#[0, 1, 97, 0, 0, 1]⟩ := by
  unfold rS
  rw [aR_right, if_pos rfl]
  apply ba_ext
  unfold rngB fS
  simp only [data_append, nS_data, textS_data (show textOk ⟨#[97]⟩ = true from rfl), textS_data (show textOk noB = true from rfl)]
  rfl
theorem aR_E : rE ⟨⟨#[97]⟩, noB, true⟩ = 0 := by
  unfold rE
  rw [aR_right]
  rfl
theorem aN_take : kN.takeL bX = some ([aN], ⟨#[120]⟩) := by
  rw [show bX = kN.list [aN] ++ ⟨#[120]⟩ from by rw [aN_list]; apply ba_ext; simp]
  exact kN.takeL_put aN_may _
theorem bX_cat : bN ++ ⟨#[120]⟩ = bX := by apply ba_ext; simp

theorem NV.see {w : World} {v : Value} {x : Nt} (h : NV w v [x]) : ∃ (ad : Addr) (c : Nat), v = .slice (some ad) 1 c ∧ ad.block < w.heap.size ∧ w.cell? ⟨ad.block, ad.off + 3, none⟩ = some (.int .u64 (x.n.toNat : Int)) := by
  obtain ⟨A, c, rfl, hp, _⟩ := h
  obtain ⟨ad, rfl, hB, hc⟩ := hp.seeN (by simp)
  obtain ⟨_, _, _, c3⟩ := hc 0 (by simp)
  have e : ad.add (0 * 4) = ad := by rw [Nat.zero_mul]; exact Addr.add_zero' ad
  rw [e] at c3
  exact ⟨ad, c, rfl, hB, c3⟩

set_option maxRecDepth 100000 in
set_option maxHeartbeats 4000000 in
theorem awake_true (w : World) : Calls Try.prog 11 #[] w fun e w' => e = .returned (.bool true) ∧ Below w.heap.size w w' := by
  obtain ⟨s1, s2⟩ := kN.yes_S aN_may
  obtain ⟨s3, s4⟩ := kC.yes_S aC_may
  obtain ⟨s5, s6⟩ := kC.no_S aD_may
  obtain ⟨s7, s8⟩ := kP.yes_S aP_may
  obtain ⟨t1, t2, t3⟩ := kN.t_some aN_take
  rw [aN_list] at s1
  rw [aC_list] at s3
  rw [aP_list] at s7
  have h1 := fun v w h => notes_v v [aN] w h (by unfold maxLen; simp)
  rw [s1, s2] at h1
  have h2 := fun w => tnotes_v bX w (by unfold maxLen; decide)
  rw [t1, t2, t3] at h2
  have h3 := fun v w h => changes_v v [aC] w h (by unfold maxLen; simp)
  rw [s3, s4] at h3
  have h4 := fun v w h => changes_v v [aD] w h (by unfold maxLen; simp)
  rw [s5, s6] at h4
  have h5 := fun v w h => pairs_v v [] w h (by unfold maxLen; simp)
  rw [s7, s8] at h5
  have h6 := fun w => rangew_any ⟨#[97]⟩ noB true w
  rw [aR_list, aR_E] at h6
  have H1 := Lib.hid h1
  have H2 := Lib.hid h2
  have H3 := Lib.hid h3
  have H4 := Lib.hid h4
  have H5 := Lib.hid h5
  have H6 := Lib.hid h6
  clear h1 h2 h3 h4 h5 h6 s1 s2 s3 s4 s5 s6 s7 s8 t1 t2 t3
  go_enter Try.func11, Try.ntmps11
  go_wp2_with fail
  refine (H1.out _ _ (NV.lit rfl rfl rfl)).mono ?_
  rintro e w1 ⟨rfl, hb⟩
  have HB1 := Lib.hid (below1 hb)
  clear hb
  have hcat := bX_cat
  have HCAT := Lib.hid hcat
  clear hcat
  go_upto_region 2 with fail
  have hz : ¬ 9223372036854775807 < bN.size + (⟨#[120]⟩ : ByteArray).size := by decide
  go_wp2_with fail
  first | rw [HCAT.out] | skip
  refine (H2.out _).mono ?_
  rintro e w2 ⟨v, rfl, hv, hb⟩
  have HB2 := Lib.hid (HB1.out.trans (hb.mono HB1.out.size))
  have HV2 := Lib.hid hv
  clear hb hv hz HCAT
  go_wp2_with fail
  refine (H3.out _ _ (CV.lit rfl rfl rfl)).mono ?_
  rintro e w3 ⟨rfl, hb⟩
  have HB3 := Lib.hid (HB2.out.trans ((below1 hb).mono HB2.out.size))
  have HV3 := Lib.hid (HV2.out.on (below1 hb))
  clear hb
  go_wp2_with fail
  refine (H4.out _ _ (CV.lit rfl rfl rfl)).mono ?_
  rintro e w4 ⟨rfl, hb⟩
  have HB4 := Lib.hid (HB3.out.trans ((below1 hb).mono HB3.out.size))
  have HV4 := Lib.hid (HV3.out.on (below1 hb))
  clear hb
  go_wp2_with fail
  refine (H5.out _ _ (PV.nil _)).mono ?_
  rintro e w5 ⟨rfl, hb⟩
  have HB5 := Lib.hid (HB4.out.trans (hb.mono HB4.out.size))
  have HV5 := Lib.hid (HV4.out.on hb)
  clear hb
  go_wp2_with fail
  refine (H6.out _).mono ?_
  rintro e w6 ⟨rfl, hb⟩
  have HB6 := Lib.hid (HB5.out.trans (hb.mono HB5.out.size))
  have HV6 := Lib.hid (HV5.out.on hb)
  clear hb HB1 HB2 HB3 HB4 HB5 HV2 HV3 HV4 HV5
  obtain ⟨ad, c, rfl, had, hc⟩ := HV6.out.see
  go_wp2
  go_ret
  exact ⟨rfl, HB6.out⟩

end Go.Proofs.Ytfbcmcckgjfdhaa
