/- The walk of ChangeDoes: Do and Undo are what the document's are. -/
import Derived.Test.YthhbkgeoigdjaaaAwk
import Derived.Test.YthhbkgeoigdjaaaSf
import Derived.Test.YthhbkgeoigdjaaaRDo
set_option linter.unusedVariables false
set_option linter.unusedSimpArgs false
namespace Go.Proofs.Ythhbkgeoigdjaaa
open Go.RowKit

set_option maxRecDepth 100000 in
set_option maxHeartbeats 8000000 in
theorem does_walk (v u : Value) (l : List Pr) (C : List Ch) (w : World) (hv : PV w v l) (hu : CV w u C) (hn : l.length ≤ maxLen) (hm : C.length ≤ maxLen) :
    Calls Try.prog 4 #[v, u] w fun e w' => e = .returned (.bool true) ∧ Below w.heap.size w w' := by
  obtain ⟨A, nl, c, rfl, hnl⟩ : ∃ A n c, v = .slice A n c ∧ l.length = n := by obtain ⟨A, c, e, _⟩ := hv; exact ⟨A, _, c, e, rfl⟩
  have HLN := Lib.hid hnl
  have VP := Lib.hid hv
  have VU := Lib.hid hu
  have HB := Lib.hid (Below.refl w.heap.size w)
  clear hv hu hn hm hnl
  go_enter Try.func4, Try.ntmps4
  go_wp2_with fail
  refine (small_v VP.out).mono ?_
  rintro e w1 ⟨R1, rfl, h1, hb⟩
  have HB1 := Lib.hid (HB.out.trans (hb.mono HB.out.size))
  have VP1 := Lib.hid (VP.out.on hb)
  have VU1 := Lib.hid (VU.out.on hb)
  clear hb HB VP VU 
  have H1 := Lib.hid h1
  clear h1
  cases R1 with
  | false =>
    go_wp2_with fail
    refine (awake_true _).mono ?_
    rintro e w2 ⟨rfl, hb⟩
    have HB2 := Lib.hid (HB1.out.trans (hb.mono HB1.out.size))
    clear hb HB1 
    go_wp2
    go_ret
    exact ⟨rfl, HB2.out⟩
  | true =>
    go_wp2_with fail
    refine (few_v VU1.out).mono ?_
    rintro e w3 ⟨R2, rfl, h2, hb⟩
    have HB3 := Lib.hid (HB1.out.trans (hb.mono HB1.out.size))
    have VP3 := Lib.hid (VP1.out.on hb)
    have VU3 := Lib.hid (VU1.out.on hb)
    clear hb HB1 VP1 VU1 
    have H2 := Lib.hid h2
    clear h2
    cases R2 with
    | false =>
      go_wp2_with fail
      refine (awake_true _).mono ?_
      rintro e w4 ⟨rfl, hb⟩
      have HB4 := Lib.hid (HB3.out.trans (hb.mono HB3.out.size))
      clear hb HB3 
      go_wp2
      go_ret
      exact ⟨rfl, HB4.out⟩
    | true =>
      have HL := Lib.hid (H1.out (by simp))
      have HC := Lib.hid (H2.out (by simp)).1
      have HK := Lib.hid (H2.out (by simp)).2
      clear H1 H2
      obtain ⟨E1, hE1⟩ : ∃ E1, walkE l C = E1 := ⟨_, rfl⟩
      obtain ⟨A1, hA1⟩ : ∃ A1, walkA l C = A1 := ⟨_, rfl⟩
      obtain ⟨K1, hK1⟩ : ∃ K1, decide (E1 = 0) = K1 := ⟨_, rfl⟩
      obtain ⟨E2, hE2⟩ : ∃ E2, walkE l (backL C) = E2 := ⟨_, rfl⟩
      obtain ⟨A2, hA2⟩ : ∃ A2, walkA l (backL C) = A2 := ⟨_, rfl⟩
      obtain ⟨K2, hK2⟩ : ∃ K2, decide (E2 = 0) = K2 := ⟨_, rfl⟩
      have HE1 := Lib.hid (show (E1 = 0 ∧ K1 = true) ∨ (E1 = 1 ∧ K1 = false) from by rw [← hK1, ← hE1]; rcases walk_two l C with e | e <;> rw [e] <;> simp)
      have HE2 := Lib.hid (show (E2 = 0 ∧ K2 = true) ∨ (E2 = 1 ∧ K2 = false) from by rw [← hK2, ← hE2]; rcases walk_two l (backL C) with e | e <;> rw [e] <;> simp)
      have HL1 := Lib.hid (show A1.length ≤ 120 from by have := walk_len l C; rw [hA1] at this; have := HL.out; have := HC.out; omega)
      have HL2 := Lib.hid (show A2.length ≤ 120 from by have := walk_len l (backL C); rw [hA2, back_len] at this; have := HL.out; have := HC.out; omega)
      have hdo := do_v VP3.out VU3.out (by have := HL.out; omega) (by have := HC.out; omega) HK.out
      rw [hE1, hA1] at hdo
      have HDO := Lib.hid hdo
      have hrd := fun w' (h1 : PV w' (.slice A nl c) l) (h2 : CV w' u C) => rdo_any w' h1 h2 (by have := HL.out; have := HC.out; omega)
      rw [hE1, hA1, hK1] at hrd
      have HRD := Lib.hid hrd
      have hud := fun w' (h1 : PV w' (.slice A nl c) l) (h2 : CV w' u C) => undo_v h1 h2 (by have := HL.out; omega) (by have := HC.out; omega) HK.out
      rw [hE2, hA2] at hud
      have HUD := Lib.hid hud
      have hru := fun w' (h1 : PV w' (.slice A nl c) l) (h2 : CV w' u C) => rundo_any w' h1 h2 (by have := HL.out; have := HC.out; omega)
      rw [hE2, hA2, hK2] at hru
      have HRU := Lib.hid hru
      clear hdo hrd hud hru hE1 hA1 hK1 hE2 hA2 hK2
      go_wp2_with fail
      refine (HDO.out).mono ?_
      rintro e w5 ⟨va, rfl, hp, hb⟩
      have VA5 := Lib.hid hp
      clear hp
      have HB5 := Lib.hid (HB3.out.trans (hb.mono HB3.out.size))
      have VP5 := Lib.hid (VP3.out.on hb)
      have VU5 := Lib.hid (VU3.out.on hb)
      clear hb HB3 VP3 VU3 HDO
      go_wp2_with fail
      refine (HRD.out _ VP5.out VU5.out).mono ?_
      rintro e w6 ⟨vb, rfl, hp, hb⟩
      have VB6 := Lib.hid hp
      clear hp
      have HB6 := Lib.hid (HB5.out.trans (hb.mono HB5.out.size))
      have VP6 := Lib.hid (VP5.out.on hb)
      have VU6 := Lib.hid (VU5.out.on hb)
      have VA6 := Lib.hid (VA5.out.on hb)
      clear hb HB5 VP5 VU5 VA5 HRD
      go_wp2_with fail
      refine (HUD.out _ VP6.out VU6.out).mono ?_
      rintro e w7 ⟨vc, rfl, hp, hb⟩
      have VC7 := Lib.hid hp
      clear hp
      have HB7 := Lib.hid (HB6.out.trans (hb.mono HB6.out.size))
      have VP7 := Lib.hid (VP6.out.on hb)
      have VU7 := Lib.hid (VU6.out.on hb)
      have VA7 := Lib.hid (VA6.out.on hb)
      have VB7 := Lib.hid (VB6.out.on hb)
      clear hb HB6 VP6 VU6 VA6 VB6 HUD
      go_wp2_with fail
      refine (HRU.out _ VP7.out VU7.out).mono ?_
      rintro e w8 ⟨vd, rfl, hp, hb⟩
      have VD8 := Lib.hid hp
      clear hp
      have HB8 := Lib.hid (HB7.out.trans (hb.mono HB7.out.size))
      have VP8 := Lib.hid (VP7.out.on hb)
      have VU8 := Lib.hid (VU7.out.on hb)
      have VA8 := Lib.hid (VA7.out.on hb)
      have VB8 := Lib.hid (VB7.out.on hb)
      have VC8 := Lib.hid (VC7.out.on hb)
      clear hb HB7 VP7 VU7 VA7 VB7 VC7 HRU
      have hsm := same_v VA8.out VB8.out (by have := HL1.out; unfold maxLen; omega)
      rw [decide_eq_true rfl] at hsm
      go_wp2_with fail
      refine (hsm).mono ?_
      rintro e w9 ⟨rfl, hb⟩
      have HB9 := Lib.hid (HB8.out.trans (hb.mono HB8.out.size))
      have VP9 := Lib.hid (VP8.out.on hb)
      have VU9 := Lib.hid (VU8.out.on hb)
      have VA9 := Lib.hid (VA8.out.on hb)
      have VB9 := Lib.hid (VB8.out.on hb)
      have VC9 := Lib.hid (VC8.out.on hb)
      have VD9 := Lib.hid (VD8.out.on hb)
      clear hb HB8 VP8 VU8 VA8 VB8 VC8 VD8 hsm
      rcases HE1.out with ⟨rfl, rfl⟩ | ⟨rfl, rfl⟩
      · skip
        have hsm := same_v VC9.out VD9.out (by have := HL2.out; unfold maxLen; omega)
        rw [decide_eq_true rfl] at hsm
        go_wp2_with fail
        refine (hsm).mono ?_
        rintro e w10 ⟨rfl, hb⟩
        have HB10 := Lib.hid (HB9.out.trans (hb.mono HB9.out.size))
        have VP10 := Lib.hid (VP9.out.on hb)
        have VU10 := Lib.hid (VU9.out.on hb)
        have VA10 := Lib.hid (VA9.out.on hb)
        have VB10 := Lib.hid (VB9.out.on hb)
        have VC10 := Lib.hid (VC9.out.on hb)
        have VD10 := Lib.hid (VD9.out.on hb)
        clear hb HB9 VP9 VU9 VA9 VB9 VC9 VD9 hsm
        rcases HE2.out with ⟨rfl, rfl⟩ | ⟨rfl, rfl⟩
        · skip
          go_wp2_with fail
          refine (awake_true _).mono ?_
          rintro e w11 ⟨rfl, hb⟩
          have HB11 := Lib.hid (HB10.out.trans (hb.mono HB10.out.size))
          clear hb HB10 
          go_wp2
          go_ret
          exact ⟨rfl, HB11.out⟩
        · skip
          go_wp2_with fail
          refine (awake_true _).mono ?_
          rintro e w12 ⟨rfl, hb⟩
          have HB12 := Lib.hid (HB10.out.trans (hb.mono HB10.out.size))
          clear hb HB10 
          go_wp2
          go_ret
          exact ⟨rfl, HB12.out⟩
      · skip
        have hsm := same_v VC9.out VD9.out (by have := HL2.out; unfold maxLen; omega)
        rw [decide_eq_true rfl] at hsm
        go_wp2_with fail
        refine (hsm).mono ?_
        rintro e w13 ⟨rfl, hb⟩
        have HB13 := Lib.hid (HB9.out.trans (hb.mono HB9.out.size))
        have VP13 := Lib.hid (VP9.out.on hb)
        have VU13 := Lib.hid (VU9.out.on hb)
        have VA13 := Lib.hid (VA9.out.on hb)
        have VB13 := Lib.hid (VB9.out.on hb)
        have VC13 := Lib.hid (VC9.out.on hb)
        have VD13 := Lib.hid (VD9.out.on hb)
        clear hb HB9 VP9 VU9 VA9 VB9 VC9 VD9 hsm
        rcases HE2.out with ⟨rfl, rfl⟩ | ⟨rfl, rfl⟩
        · skip
          go_wp2_with fail
          refine (awake_true _).mono ?_
          rintro e w14 ⟨rfl, hb⟩
          have HB14 := Lib.hid (HB13.out.trans (hb.mono HB13.out.size))
          clear hb HB13 
          go_wp2
          go_ret
          exact ⟨rfl, HB14.out⟩
        · skip
          go_wp2_with fail
          refine (awake_true _).mono ?_
          rintro e w15 ⟨rfl, hb⟩
          have HB15 := Lib.hid (HB13.out.trans (hb.mono HB13.out.size))
          clear hb HB13 
          go_wp2
          go_ret
          exact ⟨rfl, HB15.out⟩

end Go.Proofs.Ythhbkgeoigdjaaa
