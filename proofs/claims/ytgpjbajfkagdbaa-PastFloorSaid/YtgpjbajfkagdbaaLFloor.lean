/- The walk of PastFloor. -/
import Derived.Test.YtgpjbajfkagdbaaAW
set_option linter.unusedVariables false
set_option linter.unusedSimpArgs false
namespace Go.Proofs.Ytgpjbajfkagdbaa
open Go.RowKit

theorem floor_low {l : List Pr} {t : List Ch} {fl s : Int} (h : s < fl) : pastL l t fl s = [] ∧ ((pastE l t fl s = 1 ∧ pastE l t s s = 1) ∨ pastE l t fl s = 8) := by
  cases h1 : wellL l with
  | false =>
    have a := past_arg (t := t) fl s (.inl h1)
    have b := past_arg (t := t) s s (.inl h1)
    exact ⟨a.2, .inl ⟨a.1, b.1⟩⟩
  | true =>
    cases h2 : trailB t with
    | false =>
      have a := past_arg (l := l) fl s (.inr h2)
      have b := past_arg (l := l) s s (.inr h2)
      exact ⟨a.2, .inl ⟨a.1, b.1⟩⟩
    | true =>
      have a := past_old h1 h2 h
      exact ⟨a.2, .inr a.1⟩
theorem floor_up {l : List Pr} {t : List Ch} {fl s : Int} (h : fl ≤ s) : pastE l t fl s = pastE l t s s ∧ pastL l t fl s = pastL l t s s := by
  have e : pastE l t fl s = pastE l t s s := by
    unfold pastE
    rw [if_neg (show ¬ s < fl by omega), if_neg (show ¬ s < s by omega)]
  exact ⟨e, by unfold pastL; rw [e]⟩

set_option maxRecDepth 100000 in
set_option maxHeartbeats 4000000 in
theorem floor_walk (v u : Value) (fl s : Int) (key : ByteArray) (l : List Pr) (t : List Ch) (w0 : World) (hv : PV w0 v l) (hu : CV w0 u t) :
    Calls Try.prog 7 #[v, u, .int .i64 fl, .int .i64 s, .string key] w0 fun e w' => e = .returned (.bool true) ∧ Below w0.heap.size w0 w' := by
  have HV0 := Lib.hid hv
  have HU0 := Lib.hid hu
  have HB0 := Lib.hid (Below.refl w0.heap.size w0)
  clear hv hu
  go_enter Try.func7, Try.ntmps7
  go_wp2_with fail
  refine (small_v HV0.out HU0.out).mono ?_
  rintro e w1 ⟨R, rfl, hR, hb⟩
  have HB1 := Lib.hid (HB0.out.trans (hb.mono HB0.out.size))
  have HV1 := Lib.hid (HV0.out.on hb)
  have HU1 := Lib.hid (HU0.out.on hb)
  clear hb HB0 HV0 HU0 
  cases R with
  | false =>
    clear hR
    go_wp2_with fail
    refine (awake_true _).mono ?_
    rintro e w2 ⟨rfl, hb⟩
    have HB2 := Lib.hid (HB1.out.trans (hb.mono HB1.out.size))
    clear hb HB1 
    go_wp2
    go_ret
    exact ⟨rfl, HB2.out⟩
  | true =>
    have HN := Lib.hid (hR rfl)
    clear hR
    by_cases hk : key.size ≤ 300
    case neg =>
      have hd : decide (300 < (key.size : Int)) = true := by simp; omega
      have hd2 : decide (300 < key.size) = true := by simp; omega
      go_wp2_with fail
      refine (awake_true _).mono ?_
      rintro e w3 ⟨rfl, hb⟩
      have HB3 := Lib.hid (HB1.out.trans (hb.mono HB1.out.size))
      clear hb HB1 
      go_wp2
      go_ret
      exact ⟨rfl, HB3.out⟩
    have hd : decide (300 < (key.size : Int)) = false := by simp; omega
    have hd2 : decide (300 < key.size) = false := by simp; omega
    have HK := Lib.hid hk
    have h1 := past_v fl s HV1.out HU1.out (by have := HN.out; omega) (by have := HN.out; omega)
    by_cases hs : s < fl
    case pos =>
      obtain ⟨hP, hE⟩ := floor_low (l := l) (t := t) hs
      have HS := Lib.hid hs
      rw [hP] at h1
      clear hs
      have HPE := Lib.hid hP
      clear hP
      rcases hE with ⟨hE, hF⟩ | hE
      · skip
        have HE := Lib.hid hE
        have HF := Lib.hid hF
        rw [hE] at h1
        clear hE hF
        go_wp2_with fail
        refine (h1).mono ?_
        rintro e w4 ⟨p, rfl, hp, hb⟩
        have HP4 := Lib.hid hp
        clear hp
        have HB4 := Lib.hid (HB1.out.trans (hb.mono HB1.out.size))
        have HV4 := Lib.hid (HV1.out.on hb)
        have HU4 := Lib.hid (HU1.out.on hb)
        clear hb HB1 HV1 HU1 h1
        obtain ⟨PA, pc, rfl⟩ := HP4.out.none_len
        have hr := past_v s s HV4.out HU4.out (by have := HN.out; omega) (by have := HN.out; omega)
        rw [HF.out] at hr
        go_wp2_with fail
        refine (hr).mono ?_
        rintro e w5 ⟨q, rfl, _, hb⟩
        have HB5 := Lib.hid (HB4.out.trans (hb.mono HB4.out.size))
        have HV5 := Lib.hid (HV4.out.on hb)
        have HU5 := Lib.hid (HU4.out.on hb)
        have HP5 := Lib.hid (HP4.out.on hb)
        clear hb HB4 HV4 HU4 HP4 hr
        have hr := pget_v fl s key HV5.out HU5.out (by have := HN.out; omega) (by have := HN.out; omega)
        rw [HPE.out, get_empty, HE.out] at hr
        go_wp2_with fail
        refine (hr).mono ?_
        rintro e w6 ⟨rfl, hb⟩
        have HB6 := Lib.hid (HB5.out.trans (hb.mono HB5.out.size))
        have HV6 := Lib.hid (HV5.out.on hb)
        have HU6 := Lib.hid (HU5.out.on hb)
        have HP6 := Lib.hid (HP5.out.on hb)
        clear hb HB5 HV5 HU5 HP5 hr
        have hs := HS.out
        have hds : decide (s < fl) = true := decide_eq_true hs
        have hnB : noB.toList = [] := by rw [ByteArray.toList_eq]
        go_wp2_with fail
        refine (awake_true _).mono ?_
        rintro e w7 ⟨rfl, hb⟩
        have HB7 := Lib.hid (HB6.out.trans (hb.mono HB6.out.size))
        clear hb HB6 
        go_wp2
        go_ret
        exact ⟨rfl, HB7.out⟩
      · skip
        have HE := Lib.hid hE
        rw [hE] at h1
        clear hE
        go_wp2_with fail
        refine (h1).mono ?_
        rintro e w8 ⟨p, rfl, hp, hb⟩
        have HP8 := Lib.hid hp
        clear hp
        have HB8 := Lib.hid (HB1.out.trans (hb.mono HB1.out.size))
        have HV8 := Lib.hid (HV1.out.on hb)
        have HU8 := Lib.hid (HU1.out.on hb)
        clear hb HB1 HV1 HU1 h1
        obtain ⟨PA, pc, rfl⟩ := HP8.out.none_len
        have hr := past_v s s HV8.out HU8.out (by have := HN.out; omega) (by have := HN.out; omega)
        obtain ⟨F, hF⟩ : ∃ q, pastE l t s s = q := ⟨_, rfl⟩
        rw [hF] at hr
        clear hF
        go_wp2_with fail
        refine (hr).mono ?_
        rintro e w9 ⟨q, rfl, _, hb⟩
        have HB9 := Lib.hid (HB8.out.trans (hb.mono HB8.out.size))
        have HV9 := Lib.hid (HV8.out.on hb)
        have HU9 := Lib.hid (HU8.out.on hb)
        have HP9 := Lib.hid (HP8.out.on hb)
        clear hb HB8 HV8 HU8 HP8 hr
        have hr := pget_v fl s key HV9.out HU9.out (by have := HN.out; omega) (by have := HN.out; omega)
        rw [HPE.out, get_empty, HE.out] at hr
        go_wp2_with fail
        refine (hr).mono ?_
        rintro e w10 ⟨rfl, hb⟩
        have HB10 := Lib.hid (HB9.out.trans (hb.mono HB9.out.size))
        have HV10 := Lib.hid (HV9.out.on hb)
        have HU10 := Lib.hid (HU9.out.on hb)
        have HP10 := Lib.hid (HP9.out.on hb)
        clear hb HB9 HV9 HU9 HP9 hr
        have hs := HS.out
        have hds : decide (s < fl) = true := decide_eq_true hs
        have hnB : noB.toList = [] := by rw [ByteArray.toList_eq]
        by_cases hF1 : F = 1
        · skip
          subst hF1
          go_wp2_with fail
          refine (awake_true _).mono ?_
          rintro e w11 ⟨rfl, hb⟩
          have HB11 := Lib.hid (HB10.out.trans (hb.mono HB10.out.size))
          clear hb HB10 
          go_wp2
          go_ret
          exact ⟨rfl, HB11.out⟩
        · skip
          skip
          go_wp2_with fail
          refine (awake_true _).mono ?_
          rintro e w12 ⟨rfl, hb⟩
          have HB12 := Lib.hid (HB10.out.trans (hb.mono HB10.out.size))
          clear hb HB10 
          go_wp2
          go_ret
          exact ⟨rfl, HB12.out⟩
    obtain ⟨hE, hP⟩ := floor_up (l := l) (t := t) (fl := fl) (s := s) (by omega)
    have hr2 := past_v s s HV1.out HU1.out (by have := HN.out; omega) (by have := HN.out; omega)
    have hpl := past_len l t s s
    rw [hE, hP] at h1
    have HEQ := Lib.hid (And.intro hE hP)
    obtain ⟨E, hE2⟩ : ∃ q, pastE l t s s = q := ⟨_, rfl⟩
    obtain ⟨P, hP2⟩ : ∃ q, pastL l t s s = q := ⟨_, rfl⟩
    have HEP := Lib.hid (And.intro hE2 hP2)
    rw [hE2, hP2] at h1
    rw [hP2] at hpl
    have HPL := Lib.hid hpl
    have HS := Lib.hid hs
    clear hr2 hE hP hE2 hP2 hpl hs
    go_wp2_with fail
    refine (h1).mono ?_
    rintro e w13 ⟨p, rfl, hp, hb⟩
    have HP13 := Lib.hid hp
    clear hp
    have HB13 := Lib.hid (HB1.out.trans (hb.mono HB1.out.size))
    have HV13 := Lib.hid (HV1.out.on hb)
    have HU13 := Lib.hid (HU1.out.on hb)
    clear hb HB1 HV1 HU1 h1
    have hr := past_v s s HV13.out HU13.out (by have := HN.out; omega) (by have := HN.out; omega)
    rw [HEP.out.1, HEP.out.2] at hr
    go_wp2_with fail
    refine (hr).mono ?_
    rintro e w14 ⟨q, rfl, hq, hb⟩
    have HQ14 := Lib.hid hq
    clear hq
    have HB14 := Lib.hid (HB13.out.trans (hb.mono HB13.out.size))
    have HV14 := Lib.hid (HV13.out.on hb)
    have HU14 := Lib.hid (HU13.out.on hb)
    have HP14 := Lib.hid (HP13.out.on hb)
    clear hb HB13 HV13 HU13 HP13 hr
    have hr := pget_v fl s key HV14.out HU14.out (by have := HN.out; omega) (by have := HN.out; omega)
    rw [HEQ.out.1, HEP.out.1] at hr
    obtain ⟨gs, hgs⟩ : ∃ q, (getA (pastL l t fl s) key).1 = q := ⟨_, rfl⟩
    obtain ⟨gb, hgb⟩ : ∃ q, (getA (pastL l t fl s) key).2 = q := ⟨_, rfl⟩
    rw [hgs, hgb] at hr
    clear hgs hgb
    go_wp2_with fail
    refine (hr).mono ?_
    rintro e w15 ⟨rfl, hb⟩
    have HB15 := Lib.hid (HB14.out.trans (hb.mono HB14.out.size))
    have HV15 := Lib.hid (HV14.out.on hb)
    have HU15 := Lib.hid (HU14.out.on hb)
    have HP15 := Lib.hid (HP14.out.on hb)
    have HQ15 := Lib.hid (HQ14.out.on hb)
    clear hb HB14 HV14 HU14 HP14 HQ14 hr
    have hs := HS.out
    have hr := same_v HP15.out HQ15.out (by have := HPL.out; have := HN.out; unfold maxLen; omega)
    rw [decide_eq_true rfl] at hr
    go_wp2_with fail
    refine (hr).mono ?_
    rintro e w16 ⟨rfl, hb⟩
    have HB16 := Lib.hid (HB15.out.trans (hb.mono HB15.out.size))
    have HV16 := Lib.hid (HV15.out.on hb)
    have HU16 := Lib.hid (HU15.out.on hb)
    have HP16 := Lib.hid (HP15.out.on hb)
    have HQ16 := Lib.hid (HQ15.out.on hb)
    clear hb HB15 HV15 HU15 HP15 HQ15 hr
    go_wp2_with fail
    refine (awake_true _).mono ?_
    rintro e w17 ⟨rfl, hb⟩
    have HB17 := Lib.hid (HB16.out.trans (hb.mono HB16.out.size))
    clear hb HB16 
    go_wp2
    go_ret
    exact ⟨rfl, HB17.out⟩

end Go.Proofs.Ytgpjbajfkagdbaa
