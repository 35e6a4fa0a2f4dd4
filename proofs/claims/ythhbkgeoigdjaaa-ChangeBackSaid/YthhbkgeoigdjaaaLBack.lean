/- The walk of ChangeBack: what is done is undone, and what is undone is done; what was handed in stays. -/
import Derived.Test.YthhbkgeoigdjaaaAwk
import Derived.Test.YthhbkgeoigdjaaaSf
set_option linter.unusedVariables false
set_option linter.unusedSimpArgs false
namespace Go.Proofs.Ythhbkgeoigdjaaa
open Go.RowKit

theorem walk_back {l : List Pr} {C : List Ch} (h : walkE l C = 0) : walkE (walkA l C) (backL C) = 0 ∧ walkA (walkA l C) (backL C) = l ∧ wellL (walkA l C) = true := by
  obtain ⟨hw, hd⟩ := walk_ok h
  have hq := doL_well hw hd
  obtain ⟨h1, h2⟩ := walk_yes hq (doL_back hw hd)
  exact ⟨h1, h2, hq⟩
theorem walk_forth {l : List Pr} {C : List Ch} (h : walkE l (backL C) = 0) : walkE (walkA l (backL C)) C = 0 ∧ walkA (walkA l (backL C)) C = l ∧ wellL (walkA l (backL C)) = true := by
  have := walk_back h
  rwa [back_back] at this

set_option maxRecDepth 100000 in
set_option maxHeartbeats 8000000 in
theorem back_walk (v u : Value) (l : List Pr) (C : List Ch) (w : World) (hv : PV w v l) (hu : CV w u C) (hn : l.length ≤ maxLen) (hm : C.length ≤ maxLen) :
    Calls Try.prog 5 #[v, u] w fun e w' => e = .returned (.bool true) ∧ Below w.heap.size w w' := by
  obtain ⟨A, nl, c, rfl, hnl⟩ : ∃ A n c, v = .slice A n c ∧ l.length = n := by obtain ⟨A, c, e, _⟩ := hv; exact ⟨A, _, c, e, rfl⟩
  have HLN := Lib.hid hnl
  have VP := Lib.hid hv
  have VU := Lib.hid hu
  have HB := Lib.hid (Below.refl w.heap.size w)
  clear hv hu hn hm hnl
  go_enter Try.func5, Try.ntmps5
  go_wp2_with fail
  refine (small_v VP.out).mono ?_
  rintro e w1 ⟨R1, rfl, h1, hb⟩
  have HB1 := Lib.hid (HB.out.trans (hb.mono HB.out.size))
  have VP1 := Lib.hid (VP.out.on hb)
  have VU1 := Lib.hid (VU.out.on hb)
  clear hb HB VP VU 
  have H1 := Lib.hid h1
  clear h1
  cases R1 with
  | false =>
    go_wp2_with fail
    refine (awake_true _).mono ?_
    rintro e w2 ⟨rfl, hb⟩
    have HB2 := Lib.hid (HB1.out.trans (hb.mono HB1.out.size))
    clear hb HB1 
    go_wp2
    go_ret
    exact ⟨rfl, HB2.out⟩
  | true =>
    go_wp2_with fail
    refine (few_v VU1.out).mono ?_
    rintro e w3 ⟨R2, rfl, h2, hb⟩
    have HB3 := Lib.hid (HB1.out.trans (hb.mono HB1.out.size))
    have VP3 := Lib.hid (VP1.out.on hb)
    have VU3 := Lib.hid (VU1.out.on hb)
    clear hb HB1 VP1 VU1 
    have H2 := Lib.hid h2
    clear h2
    cases R2 with
    | false =>
      go_wp2_with fail
      refine (awake_true _).mono ?_
      rintro e w4 ⟨rfl, hb⟩
      have HB4 := Lib.hid (HB3.out.trans (hb.mono HB3.out.size))
      clear hb HB3 
      go_wp2
      go_ret
      exact ⟨rfl, HB4.out⟩
    | true =>
      have HL := Lib.hid (H1.out (by simp))
      have HC := Lib.hid (H2.out (by simp)).1
      have HK := Lib.hid (H2.out (by simp)).2
      clear H1 H2
      obtain ⟨A', c', e', hpl, hcc, hcz⟩ := VP3.out
      injection e' with e1 e2 e3
      subst e1 e3
      have HPL := Lib.hid hpl
      have HLC := Lib.hid hcz
      clear hpl e2 hcc hcz
      have hbs3 := HB3.out.size
      go_wp2_with (at_builtin; refine append_prs _ rfl _ _ rfl w3.heap.size (.slice (some ⟨w3.heap.size, 0, none⟩) 0 0) 0 [] rfl ?a0 w3.heap.size A nl c l rfl ?d1 ?d2 ?d3 ?d4 ?d5 ?_)
      case a0 => exact World.ownsRow_lit (size := 2) w3 #[] 0 (Nat.le_refl _) (by unfold maxLen; omega) rfl
      case d1 => exact HLN.out
      case d2 => exact HPL.out.below ((Below.refl _ w3).alloc (Nat.le_refl _) _)
      case d3 => exact HLC.out
      case d4 => have := HL.out; have := HLN.out; omega
      case d5 => simp
      intro vw wq hown4 hg4
      have hb := ((Below.refl _ w3).alloc (Nat.le_refl _) _).grown hg4 (by simp) (by intro k hk; simp [Value.ownBlock] at hk; omega)
      have VWq := Lib.hid (show PV wq vw l from PV.own hown4 HLN.out.symm)
      clear hown4 hg4 hbs3
      have HBq := Lib.hid (HB3.out.trans (hb.mono HB3.out.size))
      have VPq := Lib.hid (VP3.out.on hb)
      have VUq := Lib.hid (VU3.out.on hb)
      clear hb HB3 VP3 VU3 
      obtain ⟨E1, hE1⟩ : ∃ E1, walkE l C = E1 := ⟨_, rfl⟩
      obtain ⟨A1, hA1⟩ : ∃ A1, walkA l C = A1 := ⟨_, rfl⟩
      obtain ⟨E2, hE2⟩ : ∃ E2, walkE l (backL C) = E2 := ⟨_, rfl⟩
      obtain ⟨A2, hA2⟩ : ∃ A2, walkA l (backL C) = A2 := ⟨_, rfl⟩
      have HE1 := Lib.hid (show E1 = 0 ∨ E1 = 1 from by rw [← hE1]; exact walk_two _ _)
      have HE2 := Lib.hid (show E2 = 0 ∨ E2 = 1 from by rw [← hE2]; exact walk_two _ _)
      have HF1 := Lib.hid (show E1 = 0 → walkE A1 (backL C) = 0 ∧ walkA A1 (backL C) = l ∧ wellL A1 = true from fun h => by rw [← hA1]; exact walk_back (by rw [hE1]; exact h))
      have HF2 := Lib.hid (show E2 = 0 → walkE A2 C = 0 ∧ walkA A2 C = l ∧ wellL A2 = true from fun h => by rw [← hA2]; exact walk_forth (by rw [hE2]; exact h))
      have HL1 := Lib.hid (show A1.length ≤ 120 from by have := walk_len l C; rw [hA1] at this; have := HL.out; have := HC.out; omega)
      have HL2 := Lib.hid (show A2.length ≤ 120 from by have := walk_len l (backL C); rw [hA2, back_len] at this; have := HL.out; have := HC.out; omega)
      have hdo := do_v VPq.out VUq.out (by have := HL.out; omega) (by have := HC.out; omega) HK.out
      rw [hE1, hA1] at hdo
      have HDO := Lib.hid hdo
      have hud := fun w' (h1 : PV w' (.slice A nl c) l) (h2 : CV w' u C) => undo_v h1 h2 (by have := HL.out; omega) (by have := HC.out; omega) HK.out
      rw [hE2, hA2] at hud
      have HUD := Lib.hid hud
      clear hdo hud hE1 hA1 hE2 hA2
      go_wp2_with fail
      refine (HDO.out).mono ?_
      rintro e w5 ⟨va, rfl, hp, hb⟩
      have VA5 := Lib.hid hp
      clear hp
      have HB5 := Lib.hid (HBq.out.trans (hb.mono HBq.out.size))
      have VP5 := Lib.hid (VPq.out.on hb)
      have VU5 := Lib.hid (VUq.out.on hb)
      have VW5 := Lib.hid (VWq.out.on hb)
      clear hb HBq VPq VUq VWq HDO
      rcases HE1.out with rfl | rfl
      · skip
        obtain ⟨f1, f2, f3⟩ := HF1.out rfl
        have hud := undo_v VA5.out VU5.out (by have := HL1.out; omega) (by have := HC.out; omega) HK.out
        rw [f1, f2] at hud
        have HU1 := Lib.hid hud
        have HW1 := Lib.hid f3
        clear hud f1 f2 f3
        go_wp2_with fail
        refine (HU1.out).mono ?_
        rintro e w6 ⟨vb1, rfl, hp, hb⟩
        have VB6 := Lib.hid hp
        clear hp
        have HB6 := Lib.hid (HB5.out.trans (hb.mono HB5.out.size))
        have VP6 := Lib.hid (VP5.out.on hb)
        have VU6 := Lib.hid (VU5.out.on hb)
        have VW6 := Lib.hid (VW5.out.on hb)
        have VA6 := Lib.hid (VA5.out.on hb)
        clear hb HB5 VP5 VU5 VW5 VA5 HU1
        have hsm := same_v VB6.out VP6.out (by have := HL.out; unfold maxLen; omega)
        rw [decide_eq_true rfl] at hsm
        go_wp2_with fail
        refine (hsm).mono ?_
        rintro e w7 ⟨rfl, hb⟩
        have HB7 := Lib.hid (HB6.out.trans (hb.mono HB6.out.size))
        have VP7 := Lib.hid (VP6.out.on hb)
        have VU7 := Lib.hid (VU6.out.on hb)
        have VW7 := Lib.hid (VW6.out.on hb)
        have VA7 := Lib.hid (VA6.out.on hb)
        have VB7 := Lib.hid (VB6.out.on hb)
        clear hb HB6 VP6 VU6 VW6 VA6 VB6 hsm
        have hrg := right_v VA7.out (by have := HL1.out; unfold maxLen; omega)
        rw [HW1.out] at hrg
        go_wp2_with fail
        refine (hrg).mono ?_
        rintro e w8 ⟨rfl, hb⟩
        have HB8 := Lib.hid (HB7.out.trans (hb.mono HB7.out.size))
        have VP8 := Lib.hid (VP7.out.on hb)
        have VU8 := Lib.hid (VU7.out.on hb)
        have VW8 := Lib.hid (VW7.out.on hb)
        have VA8 := Lib.hid (VA7.out.on hb)
        have VB8 := Lib.hid (VB7.out.on hb)
        clear hb HB7 VP7 VU7 VW7 VA7 VB7 hrg
        go_wp2_with fail
        refine (HUD.out _ VP8.out VU8.out).mono ?_
        rintro e w9 ⟨vd, rfl, hp, hb⟩
        have VD9 := Lib.hid hp
        clear hp
        have HB9 := Lib.hid (HB8.out.trans (hb.mono HB8.out.size))
        have VP9 := Lib.hid (VP8.out.on hb)
        have VU9 := Lib.hid (VU8.out.on hb)
        have VW9 := Lib.hid (VW8.out.on hb)
        have VA9 := Lib.hid (VA8.out.on hb)
        have VB9 := Lib.hid (VB8.out.on hb)
        clear hb HB8 VP8 VU8 VW8 VA8 VB8 HUD
        rcases HE2.out with rfl | rfl
        · skip
          obtain ⟨f1, f2, f3⟩ := HF2.out rfl
          have hud := do_v VD9.out VU9.out (by have := HL2.out; omega) (by have := HC.out; omega) HK.out
          rw [f1, f2] at hud
          have HU2 := Lib.hid hud
          have HW2 := Lib.hid f3
          clear hud f1 f2 f3
          go_wp2_with fail
          refine (HU2.out).mono ?_
          rintro e w10 ⟨vb2, rfl, hp, hb⟩
          have VE10 := Lib.hid hp
          clear hp
          have HB10 := Lib.hid (HB9.out.trans (hb.mono HB9.out.size))
          have VP10 := Lib.hid (VP9.out.on hb)
          have VU10 := Lib.hid (VU9.out.on hb)
          have VW10 := Lib.hid (VW9.out.on hb)
          have VA10 := Lib.hid (VA9.out.on hb)
          have VB10 := Lib.hid (VB9.out.on hb)
          have VD10 := Lib.hid (VD9.out.on hb)
          clear hb HB9 VP9 VU9 VW9 VA9 VB9 VD9 HU2
          have hsm := same_v VE10.out VP10.out (by have := HL.out; unfold maxLen; omega)
          rw [decide_eq_true rfl] at hsm
          go_wp2_with fail
          refine (hsm).mono ?_
          rintro e w11 ⟨rfl, hb⟩
          have HB11 := Lib.hid (HB10.out.trans (hb.mono HB10.out.size))
          have VP11 := Lib.hid (VP10.out.on hb)
          have VU11 := Lib.hid (VU10.out.on hb)
          have VW11 := Lib.hid (VW10.out.on hb)
          have VA11 := Lib.hid (VA10.out.on hb)
          have VB11 := Lib.hid (VB10.out.on hb)
          have VD11 := Lib.hid (VD10.out.on hb)
          have VE11 := Lib.hid (VE10.out.on hb)
          clear hb HB10 VP10 VU10 VW10 VA10 VB10 VD10 VE10 hsm
          have hrg := right_v VD11.out (by have := HL2.out; unfold maxLen; omega)
          rw [HW2.out] at hrg
          go_wp2_with fail
          refine (hrg).mono ?_
          rintro e w12 ⟨rfl, hb⟩
          have HB12 := Lib.hid (HB11.out.trans (hb.mono HB11.out.size))
          have VP12 := Lib.hid (VP11.out.on hb)
          have VU12 := Lib.hid (VU11.out.on hb)
          have VW12 := Lib.hid (VW11.out.on hb)
          have VA12 := Lib.hid (VA11.out.on hb)
          have VB12 := Lib.hid (VB11.out.on hb)
          have VD12 := Lib.hid (VD11.out.on hb)
          have VE12 := Lib.hid (VE11.out.on hb)
          clear hb HB11 VP11 VU11 VW11 VA11 VB11 VD11 VE11 hrg
          have hsm := same_v VP12.out VW12.out (by have := HL.out; unfold maxLen; omega)
          rw [decide_eq_true rfl] at hsm
          go_wp2_with fail
          refine (hsm).mono ?_
          rintro e w13 ⟨rfl, hb⟩
          have HB13 := Lib.hid (HB12.out.trans (hb.mono HB12.out.size))
          have VP13 := Lib.hid (VP12.out.on hb)
          have VU13 := Lib.hid (VU12.out.on hb)
          have VW13 := Lib.hid (VW12.out.on hb)
          have VA13 := Lib.hid (VA12.out.on hb)
          have VB13 := Lib.hid (VB12.out.on hb)
          have VD13 := Lib.hid (VD12.out.on hb)
          have VE13 := Lib.hid (VE12.out.on hb)
          clear hb HB12 VP12 VU12 VW12 VA12 VB12 VD12 VE12 hsm
          go_wp2_with fail
          refine (awake_true _).mono ?_
          rintro e w14 ⟨rfl, hb⟩
          have HB14 := Lib.hid (HB13.out.trans (hb.mono HB13.out.size))
          clear hb HB13 
          go_wp2
          go_ret
          exact ⟨rfl, HB14.out⟩
        · skip
          have hsm := same_v VP9.out VW9.out (by have := HL.out; unfold maxLen; omega)
          rw [decide_eq_true rfl] at hsm
          go_wp2_with fail
          refine (hsm).mono ?_
          rintro e w15 ⟨rfl, hb⟩
          have HB15 := Lib.hid (HB9.out.trans (hb.mono HB9.out.size))
          have VP15 := Lib.hid (VP9.out.on hb)
          have VU15 := Lib.hid (VU9.out.on hb)
          have VW15 := Lib.hid (VW9.out.on hb)
          have VA15 := Lib.hid (VA9.out.on hb)
          have VB15 := Lib.hid (VB9.out.on hb)
          have VD15 := Lib.hid (VD9.out.on hb)
          clear hb HB9 VP9 VU9 VW9 VA9 VB9 VD9 hsm
          go_wp2_with fail
          refine (awake_true _).mono ?_
          rintro e w16 ⟨rfl, hb⟩
          have HB16 := Lib.hid (HB15.out.trans (hb.mono HB15.out.size))
          clear hb HB15 
          go_wp2
          go_ret
          exact ⟨rfl, HB16.out⟩
      · skip
        go_wp2_with fail
        refine (HUD.out _ VP5.out VU5.out).mono ?_
        rintro e w17 ⟨vd, rfl, hp, hb⟩
        have VD17 := Lib.hid hp
        clear hp
        have HB17 := Lib.hid (HB5.out.trans (hb.mono HB5.out.size))
        have VP17 := Lib.hid (VP5.out.on hb)
        have VU17 := Lib.hid (VU5.out.on hb)
        have VW17 := Lib.hid (VW5.out.on hb)
        have VA17 := Lib.hid (VA5.out.on hb)
        clear hb HB5 VP5 VU5 VW5 VA5 HUD
        rcases HE2.out with rfl | rfl
        · skip
          obtain ⟨f1, f2, f3⟩ := HF2.out rfl
          have hud := do_v VD17.out VU17.out (by have := HL2.out; omega) (by have := HC.out; omega) HK.out
          rw [f1, f2] at hud
          have HU2 := Lib.hid hud
          have HW2 := Lib.hid f3
          clear hud f1 f2 f3
          go_wp2_with fail
          refine (HU2.out).mono ?_
          rintro e w18 ⟨vb2, rfl, hp, hb⟩
          have VE18 := Lib.hid hp
          clear hp
          have HB18 := Lib.hid (HB17.out.trans (hb.mono HB17.out.size))
          have VP18 := Lib.hid (VP17.out.on hb)
          have VU18 := Lib.hid (VU17.out.on hb)
          have VW18 := Lib.hid (VW17.out.on hb)
          have VA18 := Lib.hid (VA17.out.on hb)
          have VD18 := Lib.hid (VD17.out.on hb)
          clear hb HB17 VP17 VU17 VW17 VA17 VD17 HU2
          have hsm := same_v VE18.out VP18.out (by have := HL.out; unfold maxLen; omega)
          rw [decide_eq_true rfl] at hsm
          go_wp2_with fail
          refine (hsm).mono ?_
          rintro e w19 ⟨rfl, hb⟩
          have HB19 := Lib.hid (HB18.out.trans (hb.mono HB18.out.size))
          have VP19 := Lib.hid (VP18.out.on hb)
          have VU19 := Lib.hid (VU18.out.on hb)
          have VW19 := Lib.hid (VW18.out.on hb)
          have VA19 := Lib.hid (VA18.out.on hb)
          have VD19 := Lib.hid (VD18.out.on hb)
          have VE19 := Lib.hid (VE18.out.on hb)
          clear hb HB18 VP18 VU18 VW18 VA18 VD18 VE18 hsm
          have hrg := right_v VD19.out (by have := HL2.out; unfold maxLen; omega)
          rw [HW2.out] at hrg
          go_wp2_with fail
          refine (hrg).mono ?_
          rintro e w20 ⟨rfl, hb⟩
          have HB20 := Lib.hid (HB19.out.trans (hb.mono HB19.out.size))
          have VP20 := Lib.hid (VP19.out.on hb)
          have VU20 := Lib.hid (VU19.out.on hb)
          have VW20 := Lib.hid (VW19.out.on hb)
          have VA20 := Lib.hid (VA19.out.on hb)
          have VD20 := Lib.hid (VD19.out.on hb)
          have VE20 := Lib.hid (VE19.out.on hb)
          clear hb HB19 VP19 VU19 VW19 VA19 VD19 VE19 hrg
          have hsm := same_v VP20.out VW20.out (by have := HL.out; unfold maxLen; omega)
          rw [decide_eq_true rfl] at hsm
          go_wp2_with fail
          refine (hsm).mono ?_
          rintro e w21 ⟨rfl, hb⟩
          have HB21 := Lib.hid (HB20.out.trans (hb.mono HB20.out.size))
          have VP21 := Lib.hid (VP20.out.on hb)
          have VU21 := Lib.hid (VU20.out.on hb)
          have VW21 := Lib.hid (VW20.out.on hb)
          have VA21 := Lib.hid (VA20.out.on hb)
          have VD21 := Lib.hid (VD20.out.on hb)
          have VE21 := Lib.hid (VE20.out.on hb)
          clear hb HB20 VP20 VU20 VW20 VA20 VD20 VE20 hsm
          go_wp2_with fail
          refine (awake_true _).mono ?_
          rintro e w22 ⟨rfl, hb⟩
          have HB22 := Lib.hid (HB21.out.trans (hb.mono HB21.out.size))
          clear hb HB21 
          go_wp2
          go_ret
          exact ⟨rfl, HB22.out⟩
        · skip
          have hsm := same_v VP17.out VW17.out (by have := HL.out; unfold maxLen; omega)
          rw [decide_eq_true rfl] at hsm
          go_wp2_with fail
          refine (hsm).mono ?_
          rintro e w23 ⟨rfl, hb⟩
          have HB23 := Lib.hid (HB17.out.trans (hb.mono HB17.out.size))
          have VP23 := Lib.hid (VP17.out.on hb)
          have VU23 := Lib.hid (VU17.out.on hb)
          have VW23 := Lib.hid (VW17.out.on hb)
          have VA23 := Lib.hid (VA17.out.on hb)
          have VD23 := Lib.hid (VD17.out.on hb)
          clear hb HB17 VP17 VU17 VW17 VA17 VD17 hsm
          go_wp2_with fail
          refine (awake_true _).mono ?_
          rintro e w24 ⟨rfl, hb⟩
          have HB24 := Lib.hid (HB23.out.trans (hb.mono HB23.out.size))
          clear hb HB23 
          go_wp2
          go_ret
          exact ⟨rfl, HB24.out⟩

end Go.Proofs.Ythhbkgeoigdjaaa
