/- The walk of BatchParts. -/
import Derived.Test.YtnlmdgbkfoofoaaAt
set_option linter.unusedVariables false
set_option linter.unusedSimpArgs false
namespace Go.Proofs.Ytnlmdgbkfoofoaa
open Go.RowKit

set_option maxRecDepth 100000 in
set_option maxHeartbeats 8000000 in
theorem parts_walk (v u t : Value) (s : Int) (l : List Pr) (a b : List (List Nt)) (w0 : World) (hv : PV w0 v l) (hu : NVV w0 u a) (ht : NVV w0 t b) (hma : ∀ x ∈ a, x.length ≤ maxLen) (hmb : ∀ x ∈ b, x.length ≤ maxLen) (hw : (Lit.int .i64 s).wf = true) :
    Calls Try.prog 6 #[v, .int .i64 s, u, t] w0 fun e w' => e = .returned (.bool true) ∧ Below w0.heap.size w0 w' := by
  obtain ⟨A, c, rfl⟩ : ∃ A c, u = .slice A a.length c := by obtain ⟨A, c, e⟩ := NVB.shape hu; exact ⟨A, c, e⟩
  obtain ⟨B, d, rfl⟩ : ∃ A c, t = .slice A b.length c := by obtain ⟨A, c, e⟩ := NVB.shape ht; exact ⟨A, c, e⟩
  have HV0 := Lib.hid hv
  have HU0 := Lib.hid hu
  have HT0 := Lib.hid ht
  have HMA := Lib.hid hma
  have HMB := Lib.hid hmb
  have HW := Lib.hid hw
  have HB0 := Lib.hid (Below.refl w0.heap.size w0)
  obtain ⟨n, hnl⟩ : ∃ n, a.length = n := ⟨_, rfl⟩
  obtain ⟨m, hml⟩ : ∃ n, b.length = n := ⟨_, rfl⟩
  rw [hnl] at HU0 ⊢
  rw [hml] at HT0 ⊢
  have HNL := Lib.hid hnl
  have HML := Lib.hid hml
  clear hv hu ht hma hmb hw hnl hml
  go_enter Try.func6, Try.ntmps6
  go_wp2_with fail
  refine (small_v HV0.out).mono ?_
  rintro e w1 ⟨R, rfl, hR, hb⟩
  have HB1 := Lib.hid (HB0.out.trans (hb.mono HB0.out.size))
  have HV1 := Lib.hid (HV0.out.on hb)
  have HU1 := Lib.hid (HU0.out.on hb)
  have HT1 := Lib.hid (HT0.out.on hb)
  clear hb HB0 HV0 HU0 HT0 
  cases R with
  | false =>
    clear hR
    go_wp2_with fail
    refine (awake_true _).mono ?_
    rintro e w2 ⟨rfl, hb⟩
    have HB2 := Lib.hid (HB1.out.trans (hb.mono HB1.out.size))
    clear hb HB1 
    go_wp2
    go_ret
    exact ⟨rfl, HB2.out⟩
  | true =>
    have HN := Lib.hid (hR rfl)
    clear hR
    by_cases hn : n ≤ 10
    case neg =>
      have hd : decide (10 < n) = true := by simp; omega
      go_wp2_with fail
      refine (awake_true _).mono ?_
      rintro e w3 ⟨rfl, hb⟩
      have HB3 := Lib.hid (HB1.out.trans (hb.mono HB1.out.size))
      clear hb HB1 
      go_wp2
      go_ret
      exact ⟨rfl, HB3.out⟩
    have hdn : decide (10 < n) = false := by simp; omega
    by_cases hm : m ≤ 10
    case neg =>
      have hd : decide (10 < m) = true := by simp; omega
      go_wp2_with fail
      refine (awake_true _).mono ?_
      rintro e w4 ⟨rfl, hb⟩
      have HB4 := Lib.hid (HB1.out.trans (hb.mono HB1.out.size))
      clear hb HB1 
      go_wp2
      go_ret
      exact ⟨rfl, HB4.out⟩
    have hdm : decide (10 < m) = false := by simp; omega
    have HBA := Lib.hid (show a.length ≤ 10 from by rw [HNL.out]; exact hn)
    have HBB := Lib.hid (show b.length ≤ 10 from by rw [HML.out]; exact hm)
    obtain ⟨v1, wx, v2, wy, hr1, hr2, hab, hb, YA, yn, yc, rfl⟩ := two_nvv HU1.out HT1.out (by rw [HNL.out, HML.out]; omega)
    obtain ⟨XA, xc, e2⟩ : ∃ A c, v2 = .slice A (n + m) c := by obtain ⟨A, c, e⟩ := NVB.shape hab; exact ⟨A, c, by rw [e, List.length_append, HNL.out, HML.out]⟩
    subst e2
    have HABy := Lib.hid hab
    have HL := Lib.hid (show (a ++ b).length = n + m from by rw [List.length_append, HNL.out, HML.out])
    have HMM := Lib.hid (show ∀ x ∈ a ++ b, x.length ≤ maxLen from fun x hx => by
      rcases List.mem_append.1 hx with h | h
      · exact HMA.out x h
      · exact HMB.out x h)
    go_wp2_with (at_builtin; refine wpList_app _ rfl _ _ _ rfl _ _ rfl rfl _ _ hr1 ?_; go_wp2_with (at_builtin; refine wpList_app _ rfl _ _ _ rfl _ _ rfl rfl _ _ hr2 ?_; go_upto_region 4 with fail))
    clear hr1 hr2 hab
    have HBy := Lib.hid (HB1.out.trans (hb.mono HB1.out.size))
    have HVy := Lib.hid (HV1.out.on hb)
    have HUy := Lib.hid (HU1.out.on hb)
    have HTy := Lib.hid (HT1.out.on hb)
    clear hb HB1 HV1 HU1 HT1 
    go_loopw [43] (fun i wr => ∃ (k : Nat), i = .int .i64 k ∧ k ≤ n + m ∧ Below wy.heap.size wy wr) (fun i _ => (n + m - intOf i).toNat)
    case atStart => exact ⟨0, rfl, by omega, Below.refl _ _⟩
    case round =>
      obtain ⟨k, rfl, hk, hbr⟩ := hrel
      have HBr := Lib.hid (HBy.out.trans (hbr.mono HBy.out.size))
      by_cases hlt : k < n + m
      · have hkl : k < (a ++ b).length := by rw [HL.out]; exact hlt
        obtain ⟨A', c', e', hel⟩ := NVB.part (NVB.on HABy.out hbr)
        injection e' with e1 e2 e3
        subst e1 e3
        obtain ⟨ad, bv, rfl, hab, hcell, hnb⟩ := hel k hkl
        have hk1 := few_v hnb
        obtain ⟨BA, bd, rfl⟩ : ∃ A d, bv = .slice A ((a ++ b)[k]'hkl).length d := by obtain ⟨A, d, e, _⟩ := hnb; exact ⟨A, d, e⟩
        obtain ⟨pn, hpn⟩ : ∃ q, ((a ++ b)[k]'hkl).length = q := ⟨_, rfl⟩
        rw [hpn] at hk1 hcell
        have hkI : (k : Int) < (n : Int) + (m : Int) := by omega
        clear hel hnb hpn e2
        go_wp2_with fail
        refine hk1.mono ?_
        rintro e wq ⟨R, rfl, _, hb⟩
        have HBq := Lib.hid (HBr.out.trans (hb.mono HBr.out.size))
        have hbq := hbr.trans (hb.mono hbr.size)
        clear hb hk1 hcell hbr HBr
        cases R with
        | false =>
          go_wp2_with fail
          refine (awake_true _).mono ?_
          rintro e wz ⟨rfl, hb⟩
          have HBz := Lib.hid (HBq.out.trans (hb.mono HBq.out.size))
          clear hb
          go_wp2
          go_ret
          exact ⟨rfl, HBz.out⟩
        | true =>
          go_wp2
          go_roundw
          case rel => exact ⟨k + 1, by go_num, by omega, hbq⟩
          case measure => simp [intOf]; omega
      · have hkI : ¬ (k : Int) < (n : Int) + (m : Int) := by omega
        have HVr := Lib.hid (HVy.out.on hbr)
        have HUr := Lib.hid (HUy.out.on hbr)
        have HTr := Lib.hid (HTy.out.on hbr)
        clear hbr
        have hr := all_any s HVr.out HUr.out (by have := HN.out; omega) (by have := HBA.out; omega) HMA.out
        go_wp2_with fail
        refine (hr).mono ?_
        rintro e w5 ⟨cv, pv, nv, rfl, hc, hp, hi, hb⟩
        have HC5 := Lib.hid hc
        clear hc
        have HP5 := Lib.hid hp
        clear hp
        have HI5 := Lib.hid hi
        clear hi
        have HB5 := Lib.hid (HBr.out.trans (hb.mono HBr.out.size))
        have HV5 := Lib.hid (HVr.out.on hb)
        have HU5 := Lib.hid (HUr.out.on hb)
        have HT5 := Lib.hid (HTr.out.on hb)
        clear hb HBr HVr HUr HTr hr
        have hs2 := parts_seq (l := l) (a := a) HW.out (by have := HBA.out; omega)
        have hl1 := out_len l s a
        have HL1 := Lib.hid hl1
        obtain ⟨CA, cc, e1⟩ : ∃ A c, cv = .slice A (outC l s a).length c := by obtain ⟨A, c, e, _⟩ := HC5.out; exact ⟨A, c, e⟩
        have hr := all_any (s + ((outC l s a).length : Int)) HP5.out HT5.out (by have := HN.out; have := HBA.out; omega) (by have := HBB.out; omega) HMB.out
        have HF := Lib.hid (And.intro (fun h => parts_no' (l := l) (s := s) (a := a) (b := b) h) (fun h => parts_yes' (l := l) (s := s) (a := a) (b := b) h))
        have HL2 := Lib.hid (out_len (outP l s a) (s + ((outC l s a).length : Int)) b)
        have HL3 := Lib.hid (out_len l s (a ++ b))
        obtain ⟨C1, hC1⟩ : ∃ q, outC l s a = q := ⟨_, rfl⟩
        obtain ⟨P1, hP1⟩ : ∃ q, outP l s a = q := ⟨_, rfl⟩
        obtain ⟨N1, hN1⟩ : ∃ q, outN l s a = q := ⟨_, rfl⟩
        obtain ⟨E1, hE1⟩ : ∃ q, outE l s a = q := ⟨_, rfl⟩
        rw [hC1, hP1] at hr HF HL2
        rw [hC1] at e1 hs2 HL1 HC5
        rw [hP1] at HL1 HP5
        rw [hN1] at HF HL1 HI5
        rw [hE1] at HF ⊢
        obtain ⟨x, hx⟩ : ∃ q, C1.length = q := ⟨_, rfl⟩
        rw [hx] at e1 hs2 hr HF HL2
        subst e1
        have HX := Lib.hid hx
        clear hl1 hC1 hP1 hN1 hE1 hx
        go_wp2_with fail
        refine (hr).mono ?_
        rintro e w6 ⟨dv, qv, mv, rfl, hc, hp, hi, hb⟩
        have HD6 := Lib.hid hc
        clear hc
        have HQ6 := Lib.hid hp
        clear hp
        have HJ6 := Lib.hid hi
        clear hi
        have HB6 := Lib.hid (HB5.out.trans (hb.mono HB5.out.size))
        have HV6 := Lib.hid (HV5.out.on hb)
        have HU6 := Lib.hid (HU5.out.on hb)
        have HT6 := Lib.hid (HT5.out.on hb)
        have HC6 := Lib.hid (HC5.out.on hb)
        have HP6 := Lib.hid (HP5.out.on hb)
        have HI6 := Lib.hid (HI5.out.on hb)
        clear hb HB5 HV5 HU5 HT5 HC5 HP5 HI5 hr hs2
        obtain ⟨s', hs'⟩ : ∃ q, s + (x : Int) = q := ⟨_, rfl⟩
        rw [hs'] at HF HL2 HD6 HQ6 HJ6 ⊢
        clear hs'
        obtain ⟨C2, hC2⟩ : ∃ q, outC P1 s' b = q := ⟨_, rfl⟩
        obtain ⟨P2, hP2⟩ : ∃ q, outP P1 s' b = q := ⟨_, rfl⟩
        obtain ⟨N2, hN2⟩ : ∃ q, outN P1 s' b = q := ⟨_, rfl⟩
        obtain ⟨E2, hE2⟩ : ∃ q, outE P1 s' b = q := ⟨_, rfl⟩
        rw [hC2] at HF HL2 HD6
        rw [hP2] at HF HL2 HQ6
        rw [hN2] at HF HL2 HJ6
        rw [hE2] at HF ⊢
        clear hC2 hP2 hN2 hE2
        obtain ⟨v1, wx', v2, wy', hr1, hr2, hab, hb, YB, zn, zc, rfl⟩ := two_nvv HU6.out HT6.out (by rw [HNL.out, HML.out]; omega)
        obtain ⟨XB, xd, e2⟩ : ∃ A c, v2 = .slice A (n + m) c := by obtain ⟨A, c, e⟩ := NVB.shape hab; exact ⟨A, c, by rw [e, List.length_append, HNL.out, HML.out]⟩
        subst e2
        have HAp := Lib.hid hab
        clear hab
        go_wp2_with (at_builtin; refine wpList_app _ rfl _ _ _ rfl _ _ rfl rfl _ _ hr1 ?_; go_wp2_with (at_builtin; refine wpList_app _ rfl _ _ _ rfl _ _ rfl rfl _ _ hr2 ?_; go_wp2_with fail))
        clear hr1 hr2
        have HBp := Lib.hid (HB6.out.trans (hb.mono HB6.out.size))
        have HVp := Lib.hid (HV6.out.on hb)
        have HUp := Lib.hid (HU6.out.on hb)
        have HTp := Lib.hid (HT6.out.on hb)
        have HCp := Lib.hid (HC6.out.on hb)
        have HPp := Lib.hid (HP6.out.on hb)
        have HIp := Lib.hid (HI6.out.on hb)
        have HDp := Lib.hid (HD6.out.on hb)
        have HQp := Lib.hid (HQ6.out.on hb)
        have HJp := Lib.hid (HJ6.out.on hb)
        clear hb HB6 HV6 HU6 HT6 HC6 HP6 HI6 HD6 HQ6 HJ6 
        have hr := all_any s HVp.out HAp.out (by have := HN.out; omega) (by rw [HL.out]; omega) HMM.out
        obtain ⟨C3, hC3⟩ : ∃ q, outC l s (a ++ b) = q := ⟨_, rfl⟩
        obtain ⟨P3, hP3⟩ : ∃ q, outP l s (a ++ b) = q := ⟨_, rfl⟩
        obtain ⟨N3, hN3⟩ : ∃ q, outN l s (a ++ b) = q := ⟨_, rfl⟩
        obtain ⟨E3, hE3⟩ : ∃ q, outE l s (a ++ b) = q := ⟨_, rfl⟩
        rw [hC3, hP3, hN3, hE3] at hr HF
        rw [hC3, hP3, hN3] at HL3
        clear hC3 hP3 hN3 hE3
        refine hr.mono ?_
        clear hr
        rintro e w7 ⟨xv, rv, ov, rfl, hc, hp, hi, hb⟩
        have HX37 := Lib.hid hc
        have HR37 := Lib.hid hp
        have HO37 := Lib.hid hi
        clear hc hp hi
        have HB7 := Lib.hid (HBp.out.trans (hb.mono HBp.out.size))
        have HV7 := Lib.hid (HVp.out.on hb)
        have HU7 := Lib.hid (HUp.out.on hb)
        have HT7 := Lib.hid (HTp.out.on hb)
        have HC7 := Lib.hid (HCp.out.on hb)
        have HP7 := Lib.hid (HPp.out.on hb)
        have HI7 := Lib.hid (HIp.out.on hb)
        have HD7 := Lib.hid (HDp.out.on hb)
        have HQ7 := Lib.hid (HQp.out.on hb)
        have HJ7 := Lib.hid (HJp.out.on hb)
        have HA7 := Lib.hid (HAp.out.on hb)
        clear hb HBp HVp HUp HTp HCp HPp HIp HDp HQp HJp HAp 
        by_cases h3 : E3 = 0
        case neg =>
          rcases HF.out.1 h3 with h1 | h2
          ·
            go_wp2_with fail
            refine (awake_true _).mono ?_
            rintro e w8 ⟨rfl, hb⟩
            have HB8 := Lib.hid (HB7.out.trans (hb.mono HB7.out.size))
            clear hb HB7 
            go_wp2
            go_ret
            exact ⟨rfl, HB8.out⟩
          by_cases h1 : E1 = 0
          ·
            subst h1
            have h2b : (E2 != 0) = true := by simp [h2]
            go_wp2_with fail
            refine (awake_true _).mono ?_
            rintro e w9 ⟨rfl, hb⟩
            have HB9 := Lib.hid (HB7.out.trans (hb.mono HB7.out.size))
            clear hb HB7 
            go_wp2
            go_ret
            exact ⟨rfl, HB9.out⟩
          ·
            go_wp2_with fail
            refine (awake_true _).mono ?_
            rintro e w10 ⟨rfl, hb⟩
            have HB10 := Lib.hid (HB7.out.trans (hb.mono HB7.out.size))
            clear hb HB7 
            go_wp2
            go_ret
            exact ⟨rfl, HB10.out⟩
        obtain ⟨rfl, rfl, rfl, rfl, rfl⟩ := HF.out.2 h3
        subst h3
        have HNUMS := Lib.hid (And.intro HL1.out (And.intro HL2.out HL3.out))
        have hxs := HX.out
        obtain ⟨v1, wx2, v2, wy2, hr1, hr2, hab, hb, YC, tn, tc, rfl⟩ := two_cv HC7.out HD7.out (by have := HL1.out.1; have := HL2.out.1; have := HBA.out; have := HBB.out; omega)
        have HCCq := Lib.hid hab
        clear hab hxs
        go_wp2_with (at_builtin; refine wpList_app_g _ rfl _ _ _ rfl _ _ rfl rfl _ _ hr1 ?_; go_wp2_with (at_builtin; refine wpList_app_g _ rfl _ _ _ rfl _ _ rfl rfl _ _ hr2 ?_; go_wp2_with fail))
        clear hr1 hr2
        have HBq := Lib.hid (HB7.out.trans (hb.mono HB7.out.size))
        have HVq := Lib.hid (HV7.out.on hb)
        have HUq := Lib.hid (HU7.out.on hb)
        have HTq := Lib.hid (HT7.out.on hb)
        have HCq := Lib.hid (HC7.out.on hb)
        have HPq := Lib.hid (HP7.out.on hb)
        have HIq := Lib.hid (HI7.out.on hb)
        have HDq := Lib.hid (HD7.out.on hb)
        have HQq := Lib.hid (HQ7.out.on hb)
        have HJq := Lib.hid (HJ7.out.on hb)
        have HAq := Lib.hid (HA7.out.on hb)
        have HX3q := Lib.hid (HX37.out.on hb)
        have HR3q := Lib.hid (HR37.out.on hb)
        have HO3q := Lib.hid (HO37.out.on hb)
        clear hb HB7 HV7 HU7 HT7 HC7 HP7 HI7 HD7 HQ7 HJ7 HA7 HX37 HR37 HO37 
        have hk1 := dsame_v HCCq.out HX3q.out (by rw [List.length_append]; have := HL1.out.1; have := HL2.out.1; have := HBA.out; have := HBB.out; unfold maxLen; omega)
        rw [decide_eq_true rfl] at hk1
        refine (hk1).mono ?_
        rintro e w11 ⟨rfl, hb⟩
        have HB11 := Lib.hid (HBq.out.trans (hb.mono HBq.out.size))
        have HV11 := Lib.hid (HVq.out.on hb)
        have HU11 := Lib.hid (HUq.out.on hb)
        have HT11 := Lib.hid (HTq.out.on hb)
        have HC11 := Lib.hid (HCq.out.on hb)
        have HP11 := Lib.hid (HPq.out.on hb)
        have HI11 := Lib.hid (HIq.out.on hb)
        have HD11 := Lib.hid (HDq.out.on hb)
        have HQ11 := Lib.hid (HQq.out.on hb)
        have HJ11 := Lib.hid (HJq.out.on hb)
        have HA11 := Lib.hid (HAq.out.on hb)
        have HX311 := Lib.hid (HX3q.out.on hb)
        have HR311 := Lib.hid (HR3q.out.on hb)
        have HO311 := Lib.hid (HO3q.out.on hb)
        have HCC11 := Lib.hid (HCCq.out.on hb)
        clear hb HBq HVq HUq HTq HCq HPq HIq HDq HQq HJq HAq HX3q HR3q HO3q HCCq 
        clear hk1
        have hk1 := same_v HQ11.out HR311.out (by have := HL3.out.2.1; have := HN.out; have := HL.out; unfold maxLen; omega)
        rw [decide_eq_true rfl] at hk1
        go_wp2_with fail
        refine (hk1).mono ?_
        rintro e w12 ⟨rfl, hb⟩
        have HB12 := Lib.hid (HB11.out.trans (hb.mono HB11.out.size))
        have HV12 := Lib.hid (HV11.out.on hb)
        have HU12 := Lib.hid (HU11.out.on hb)
        have HT12 := Lib.hid (HT11.out.on hb)
        have HC12 := Lib.hid (HC11.out.on hb)
        have HP12 := Lib.hid (HP11.out.on hb)
        have HI12 := Lib.hid (HI11.out.on hb)
        have HD12 := Lib.hid (HD11.out.on hb)
        have HQ12 := Lib.hid (HQ11.out.on hb)
        have HJ12 := Lib.hid (HJ11.out.on hb)
        have HA12 := Lib.hid (HA11.out.on hb)
        have HX312 := Lib.hid (HX311.out.on hb)
        have HR312 := Lib.hid (HR311.out.on hb)
        have HO312 := Lib.hid (HO311.out.on hb)
        have HCC12 := Lib.hid (HCC11.out.on hb)
        clear hb HB11 HV11 HU11 HT11 HC11 HP11 HI11 HD11 HQ11 HJ11 HA11 HX311 HR311 HO311 HCC11 hk1
        obtain ⟨v1, wx4, v2, wy4, hr1, hr2, hab, hb, YD, un, uc, rfl⟩ := two_is HI12.out HJ12.out (by have := HL1.out.2.2; have := HL2.out.2.2; have := HBA.out; have := HBB.out; omega)
        have HIIs := Lib.hid hab
        clear hab
        go_wp2_with (at_builtin; refine wpList_app_g _ rfl _ _ _ rfl _ _ rfl rfl _ _ hr1 ?_; go_wp2_with (at_builtin; refine wpList_app_g _ rfl _ _ _ rfl _ _ rfl rfl _ _ hr2 ?_; go_wp2_with fail))
        clear hr1 hr2
        have HBs := Lib.hid (HB12.out.trans (hb.mono HB12.out.size))
        have HVs := Lib.hid (HV12.out.on hb)
        have HUs := Lib.hid (HU12.out.on hb)
        have HTs := Lib.hid (HT12.out.on hb)
        have HCs := Lib.hid (HC12.out.on hb)
        have HPs := Lib.hid (HP12.out.on hb)
        have HIs := Lib.hid (HI12.out.on hb)
        have HDs := Lib.hid (HD12.out.on hb)
        have HQs := Lib.hid (HQ12.out.on hb)
        have HJs := Lib.hid (HJ12.out.on hb)
        have HAs := Lib.hid (HA12.out.on hb)
        have HX3s := Lib.hid (HX312.out.on hb)
        have HR3s := Lib.hid (HR312.out.on hb)
        have HO3s := Lib.hid (HO312.out.on hb)
        have HCCs := Lib.hid (HCC12.out.on hb)
        clear hb HB12 HV12 HU12 HT12 HC12 HP12 HI12 HD12 HQ12 HJ12 HA12 HX312 HR312 HO312 HCC12 
        have hk1 := numbers_any HIIs.out HO3s.out (by rw [List.length_append]; have := HL1.out.2.2; have := HL2.out.2.2; have := HBA.out; have := HBB.out; omega)
        rw [decide_eq_true rfl] at hk1
        refine (hk1).mono ?_
        rintro e w13 ⟨rfl, hb⟩
        have HB13 := Lib.hid (HBs.out.trans (hb.mono HBs.out.size))
        have HV13 := Lib.hid (HVs.out.on hb)
        have HU13 := Lib.hid (HUs.out.on hb)
        have HT13 := Lib.hid (HTs.out.on hb)
        have HC13 := Lib.hid (HCs.out.on hb)
        have HP13 := Lib.hid (HPs.out.on hb)
        have HI13 := Lib.hid (HIs.out.on hb)
        have HD13 := Lib.hid (HDs.out.on hb)
        have HQ13 := Lib.hid (HQs.out.on hb)
        have HJ13 := Lib.hid (HJs.out.on hb)
        have HA13 := Lib.hid (HAs.out.on hb)
        have HX313 := Lib.hid (HX3s.out.on hb)
        have HR313 := Lib.hid (HR3s.out.on hb)
        have HO313 := Lib.hid (HO3s.out.on hb)
        have HCC13 := Lib.hid (HCCs.out.on hb)
        have HII13 := Lib.hid (HIIs.out.on hb)
        clear hb HBs HVs HUs HTs HCs HPs HIs HDs HQs HJs HAs HX3s HR3s HO3s HCCs HIIs 
        clear hk1
        go_wp2_with fail
        refine (awake_true _).mono ?_
        rintro e w14 ⟨rfl, hb⟩
        have HB14 := Lib.hid (HB13.out.trans (hb.mono HB13.out.size))
        clear hb HB13 
        go_wp2
        go_ret
        exact ⟨rfl, HB14.out⟩

end Go.Proofs.Ytnlmdgbkfoofoaa
