/- The walk of ChangeOne: a change is done just where its pairs fit, and then just its key is another one. -/
import Derived.Test.YthhbkgeoigdjaaaAwk
import Derived.Test.YthhbkgeoigdjaaaSf
set_option linter.unusedVariables false
set_option linter.unusedSimpArgs false
namespace Go.Proofs.Ythhbkgeoigdjaaa
open Go.RowKit

theorem getA_well {l : List Pr} (h : wellL l = true) (k : ByteArray) : getA l k = hasOf (getL l k) := by unfold getA; rw [h]; rfl
theorem one_do {l : List Pr} {x : Ch} (h : walkE l [x] = 0) : mayC x = true ∧ getL l x.key = aheadO x ∧ walkA l [x] = doC l x := by
  obtain ⟨_, h2⟩ := walk_ok h
  unfold doL at h2
  by_cases e : okC l x = true
  · rw [if_pos e] at h2
    obtain ⟨h3, h4⟩ := okC_iff.1 e
    exact ⟨h3, h4, (Option.some.inj h2).symm⟩
  · rw [if_neg e] at h2; cases h2

set_option maxRecDepth 100000 in
set_option maxHeartbeats 4000000 in
theorem one_walk (v : Value) (l : List Pr) (x : Ch) (key : ByteArray) (w : World) (hv : PV w v l) (hn : l.length ≤ maxLen) (hkz : key.size ≤ maxLen) :
    Calls Try.prog 8 #[v, x.v, .string key] w fun e w' => e = .returned (.bool true) ∧ Below w.heap.size w w' := by
  obtain ⟨s, k, m, b, n, a⟩ := x
  unfold Ch.v chV
  obtain ⟨w0, hw0⟩ : ∃ q, q = w.alloc (.cells #[.int .i64 s, .string k, .bool m, .string b, .bool n, .string a] 27) := ⟨_, rfl⟩
  obtain ⟨g, hg⟩ : ∃ q, q = w.heap.size := ⟨_, rfl⟩
  have hb0 : Below w.heap.size w w0 := by rw [hw0]; exact (Below.refl _ _).alloc (Nat.le_refl _) _
  have HB0 := Lib.hid hb0
  have BX0 := Lib.hid (show Box w0 g 27 #[.int .i64 s, .string k, .bool m, .string b, .bool n, .string a] from by rw [hw0]; exact Box.at_ w _ _ hg)
  have VP0 := Lib.hid (hv.on hb0)
  have HKZ := Lib.hid hkz
  clear hb0 hv hn hkz
  go_enter Try.func8, Try.ntmps8
  go_wp2_with fail
  rw [← hg, ← hw0]
  clear hw0 hg

  go_wp2_with fail
  refine (small_v VP0.out).mono ?_
  rintro e w1 ⟨R1, rfl, h1, hb⟩
  have HB1 := Lib.hid (HB0.out.trans (hb.mono HB0.out.size))
  have BX1 := Lib.hid (BX0.out.on hb)
  have VP1 := Lib.hid (VP0.out.on hb)
  clear hb HB0 BX0 VP0 
  have H1 := Lib.hid h1
  clear h1
  cases R1 with
  | false =>
    go_wp2_with fail
    refine (awake_true _).mono ?_
    rintro e w2 ⟨rfl, hb⟩
    have HB2 := Lib.hid (HB1.out.trans (hb.mono HB1.out.size))
    clear hb HB1 
    go_wp2
    go_ret
    exact ⟨rfl, HB2.out⟩
  | true =>
    have kBX0 := Box.cell BX1.out 0 rfl
    have kBX1 := Box.cell BX1.out 1 rfl
    have kBX2 := Box.cell BX1.out 2 rfl
    have kBX3 := Box.cell BX1.out 3 rfl
    have kBX4 := Box.cell BX1.out 4 rfl
    have kBX5 := Box.cell BX1.out 5 rfl
    go_wp2_with fail
    refine (few_v (cv_lit _ ⟨s, k, m, b, n, a⟩)).mono ?_
    rintro e w3 ⟨R2, rfl, h2, hb⟩
    replace hb := ((Below.refl _ w1).alloc (Nat.le_refl _) _).trans (hb.mono (by simp))
    have HB3 := Lib.hid (HB1.out.trans (hb.mono HB1.out.size))
    have BX3 := Lib.hid (BX1.out.on hb)
    have VP3 := Lib.hid (VP1.out.on hb)
    clear hb HB1 BX1 VP1 kBX0 kBX1 kBX2 kBX3 kBX4 kBX5
    have H2 := Lib.hid h2
    clear h2
    cases R2 with
    | false =>
      go_wp2_with fail
      refine (awake_true _).mono ?_
      rintro e w4 ⟨rfl, hb⟩
      have HB4 := Lib.hid (HB3.out.trans (hb.mono HB3.out.size))
      clear hb HB3 
      go_wp2
      go_ret
      exact ⟨rfl, HB4.out⟩
    | true =>
      have hl60 := H1.out (by simp)
      have hkk := (H2.out (by simp)).2
      have HL := Lib.hid hl60
      have HKK := Lib.hid hkk
      clear H1 H2 hkk hl60
      by_cases hk3 : key.size ≤ 300
      case neg =>
        have hd : decide (300 < (key.size : Int)) = true := by simp; omega
        clear hk3
        go_wp2_with fail
        refine (awake_true _).mono ?_
        rintro e w5 ⟨rfl, hb⟩
        have HB5 := Lib.hid (HB3.out.trans (hb.mono HB3.out.size))
        clear hb HB3 
        go_wp2
        go_ret
        exact ⟨rfl, HB5.out⟩
      have hd : decide (300 < (key.size : Int)) = false := by simp; omega
      clear hk3
      obtain ⟨W, hW⟩ : ∃ W, wellL l = W := ⟨_, rfl⟩
      have hrc := fun w hv => right_v (w := w) (v := v) (l := l) hv (by have := HL.out; unfold maxLen; omega)
      rw [hW] at hrc
      have HRC := Lib.hid hrc
      have HW := Lib.hid hW
      clear hrc hW
      go_wp2_with fail
      refine (HRC.out _ VP3.out).mono ?_
      rintro e w6 ⟨rfl, hb⟩
      have HB6 := Lib.hid (HB3.out.trans (hb.mono HB3.out.size))
      have BX6 := Lib.hid (BX3.out.on hb)
      have VP6 := Lib.hid (VP3.out.on hb)
      clear hb HB3 BX3 VP3 hd
      cases W with
      | false =>
        go_wp2_with fail
        refine (awake_true _).mono ?_
        rintro e w7 ⟨rfl, hb⟩
        have HB7 := Lib.hid (HB6.out.trans (hb.mono HB6.out.size))
        clear hb HB6 
        go_wp2
        go_ret
        exact ⟨rfl, HB7.out⟩
      | true =>
        obtain ⟨cv, ch, hcv⟩ : ∃ cv ch, getA l k = (cv, ch) := ⟨_, _, rfl⟩
        have hgc := fun w hv => get_v (w := w) (v := v) (l := l) hv k (by have := HL.out; omega)
        rw [hcv] at hgc
        simp only at hgc
        have HGC := Lib.hid hgc
        have HCV := Lib.hid hcv
        clear hgc hcv
        have kBX0 := Box.cell BX6.out 0 rfl
        have kBX1 := Box.cell BX6.out 1 rfl
        have kBX2 := Box.cell BX6.out 2 rfl
        have kBX3 := Box.cell BX6.out 3 rfl
        have kBX4 := Box.cell BX6.out 4 rfl
        have kBX5 := Box.cell BX6.out 5 rfl
        go_wp2_with fail
        refine (HGC.out _ VP6.out).mono ?_
        rintro e w8 ⟨rfl, hb⟩
        have HB8 := Lib.hid (HB6.out.trans (hb.mono HB6.out.size))
        have BX8 := Lib.hid (BX6.out.on hb)
        have VP8 := Lib.hid (VP6.out.on hb)
        clear hb HB6 BX6 VP6 kBX0 kBX1 kBX2 kBX3 kBX4 kBX5
        obtain ⟨E, hE⟩ : ∃ E, walkE l [⟨s, k, m, b, n, a⟩] = E := ⟨_, rfl⟩
        have HE := Lib.hid hE
        have kBX0 := Box.cell BX8.out 0 rfl
        have kBX1 := Box.cell BX8.out 1 rfl
        have kBX2 := Box.cell BX8.out 2 rfl
        have kBX3 := Box.cell BX8.out 3 rfl
        have kBX4 := Box.cell BX8.out 4 rfl
        have kBX5 := Box.cell BX8.out 5 rfl
        have hbl : Below w8.heap.size w8 (w8.alloc (.cells #[.int .i64 s, .string k, .bool m, .string b, .bool n, .string a] 27)) := (Below.refl _ _).alloc (Nat.le_refl _) _
        have hdo := do_v (VP8.out.on hbl) (cv_lit w8 ⟨s, k, m, b, n, a⟩) (by have := HL.out; omega) (by simp) HKK.out
        rw [hE] at hdo
        have HDO := Lib.hid hdo
        clear hdo hbl hE
        go_wp2_with fail
        refine (HDO.out).mono ?_
        rintro e w9 ⟨p, rfl, hp, hb⟩
        replace hb := ((Below.refl _ w8).alloc (Nat.le_refl _) _).trans (hb.mono (by simp))
        have VQ9 := Lib.hid hp
        clear hp
        have HB9 := Lib.hid (HB8.out.trans (hb.mono HB8.out.size))
        have BX9 := Lib.hid (BX8.out.on hb)
        have VP9 := Lib.hid (VP8.out.on hb)
        clear hb HB8 BX8 VP8 kBX0 kBX1 kBX2 kBX3 kBX4 kBX5
        by_cases hE0 : E = 0
        case neg =>
          have hdn : decide (E = 0) = false := decide_eq_false hE0
          have hno := walk_no (l := l) (C := [⟨s, k, m, b, n, a⟩]) (by rw [HE.out]; exact hE0)
          obtain rfl : E = 1 := by rw [← HE.out]; exact hno.1
          have HNO := Lib.hid hno.2.1
          clear hno hE0 hdn
          have hsm := same_v (l := walkA l [⟨s, k, m, b, n, a⟩]) VQ9.out VP9.out (by rw [HNO.out]; have := HL.out; unfold maxLen; omega)
          rw [HNO.out, decide_eq_true rfl] at hsm
          go_wp2_with fail
          refine (hsm).mono ?_
          rintro e w10 ⟨rfl, hb⟩
          have HB10 := Lib.hid (HB9.out.trans (hb.mono HB9.out.size))
          have BX10 := Lib.hid (BX9.out.on hb)
          have VP10 := Lib.hid (VP9.out.on hb)
          have VQ10 := Lib.hid (VQ9.out.on hb)
          clear hb HB9 BX9 VP9 VQ9 hsm
          go_wp2_with fail
          refine (awake_true _).mono ?_
          rintro e w11 ⟨rfl, hb⟩
          have HB11 := Lib.hid (HB10.out.trans (hb.mono HB10.out.size))
          clear hb HB10 
          go_wp2
          go_ret
          exact ⟨rfl, HB11.out⟩
        subst hE0
        obtain ⟨hm, hga, hda⟩ := one_do HE.out
        have hwp := walk_well [⟨s, k, m, b, n, a⟩] HW.out
        have HMS := Lib.hid (may_sides hm)
        have HDA := Lib.hid hda
        have HWP := Lib.hid hwp
        have hx1 : cv = b ∧ ch = m := by
          have h1 := HCV.out
          rw [getA_well HW.out, show getL l k = _ from hga, HMS.out.1] at h1
          injection h1 with h1 h2
          exact ⟨h1.symm, h2.symm⟩
        obtain ⟨rfl, rfl⟩ := hx1
        have hpk : getA (walkA l [⟨s, k, ch, cv, n, a⟩]) k = (a, n) := by
          rw [getA_well HWP.out, HDA.out, doC, getL_set, if_pos rfl]
          exact HMS.out.2
        have hlen : (walkA l [⟨s, k, ch, cv, n, a⟩]).length ≤ 1000000 := by have := walk_len l [⟨s, k, ch, cv, n, a⟩]; have := HL.out; simp at *; omega
        have HLEN := Lib.hid hlen
        have HPK := Lib.hid hpk
        clear hm hga hda hwp hpk hlen
        have hgc := get_v VQ9.out k HLEN.out
        rw [HPK.out] at hgc
        simp only at hgc
        have HGQ := Lib.hid hgc
        clear hgc
        have kBX0 := Box.cell BX9.out 0 rfl
        have kBX1 := Box.cell BX9.out 1 rfl
        have kBX2 := Box.cell BX9.out 2 rfl
        have kBX3 := Box.cell BX9.out 3 rfl
        have kBX4 := Box.cell BX9.out 4 rfl
        have kBX5 := Box.cell BX9.out 5 rfl
        go_wp2_with fail
        refine (HGQ.out).mono ?_
        rintro e w12 ⟨rfl, hb⟩
        have HB12 := Lib.hid (HB9.out.trans (hb.mono HB9.out.size))
        have BX12 := Lib.hid (BX9.out.on hb)
        have VP12 := Lib.hid (VP9.out.on hb)
        have VQ12 := Lib.hid (VQ9.out.on hb)
        clear hb HB9 BX9 VP9 VQ9 kBX0 kBX1 kBX2 kBX3 kBX4 kBX5
        obtain ⟨dv, dh, hdv⟩ : ∃ dv dh, getA l key = (dv, dh) := ⟨_, _, rfl⟩
        have hgc := get_v VP12.out key (by have := HL.out; omega)
        rw [hdv] at hgc
        simp only at hgc
        have HGL := Lib.hid hgc
        have HDV := Lib.hid hdv
        clear hgc hdv
        go_wp2_with fail
        refine (HGL.out).mono ?_
        rintro e w13 ⟨rfl, hb⟩
        have HB13 := Lib.hid (HB12.out.trans (hb.mono HB12.out.size))
        have BX13 := Lib.hid (BX12.out.on hb)
        have VP13 := Lib.hid (VP12.out.on hb)
        have VQ13 := Lib.hid (VQ12.out.on hb)
        clear hb HB12 BX12 VP12 VQ12 
        obtain ⟨ev, eh, hev⟩ : ∃ ev eh, getA (walkA l [⟨s, k, ch, cv, n, a⟩]) key = (ev, eh) := ⟨_, _, rfl⟩
        have hgc := get_v VQ13.out key HLEN.out
        rw [hev] at hgc
        simp only at hgc
        have HGM := Lib.hid hgc
        have HEV := Lib.hid hev
        clear hgc hev
        go_wp2_with fail
        refine (HGM.out).mono ?_
        rintro e w14 ⟨rfl, hb⟩
        have HB14 := Lib.hid (HB13.out.trans (hb.mono HB13.out.size))
        have BX14 := Lib.hid (BX13.out.on hb)
        have VP14 := Lib.hid (VP13.out.on hb)
        have VQ14 := Lib.hid (VQ13.out.on hb)
        clear hb HB13 BX13 VP13 VQ13 
        by_cases hkk : key = k
        case pos =>
          subst hkk
          have kBX0 := Box.cell BX14.out 0 rfl
          have kBX1 := Box.cell BX14.out 1 rfl
          have kBX2 := Box.cell BX14.out 2 rfl
          have kBX3 := Box.cell BX14.out 3 rfl
          have kBX4 := Box.cell BX14.out 4 rfl
          have kBX5 := Box.cell BX14.out 5 rfl
          go_wp2_with fail
          refine (awake_true _).mono ?_
          rintro e w15 ⟨rfl, hb⟩
          have HB15 := Lib.hid (HB14.out.trans (hb.mono HB14.out.size))
          clear hb HB14 kBX0 kBX1 kBX2 kBX3 kBX4 kBX5
          go_wp2
          go_ret
          exact ⟨rfl, HB15.out⟩
        have hx2 : ev = dv ∧ eh = dh := by
          have h1 := HEV.out
          rw [getA_well HWP.out, HDA.out, doC, getL_set, if_neg (fun h => hkk h.symm), ← getA_well HW.out, HDV.out] at h1
          injection h1 with h1 h2
          exact ⟨h1.symm, h2.symm⟩
        obtain ⟨rfl, rfl⟩ := hx2
        have hkd : ¬ key.toList = k.toList := fun h => hkk (tl_inj h)
        have kBX0 := Box.cell BX14.out 0 rfl
        have kBX1 := Box.cell BX14.out 1 rfl
        have kBX2 := Box.cell BX14.out 2 rfl
        have kBX3 := Box.cell BX14.out 3 rfl
        have kBX4 := Box.cell BX14.out 4 rfl
        have kBX5 := Box.cell BX14.out 5 rfl
        go_wp2_with fail
        refine (awake_true _).mono ?_
        rintro e w16 ⟨rfl, hb⟩
        have HB16 := Lib.hid (HB14.out.trans (hb.mono HB14.out.size))
        clear hb HB14 kBX0 kBX1 kBX2 kBX3 kBX4 kBX5
        go_wp2
        go_ret
        exact ⟨rfl, HB16.out⟩

end Go.Proofs.Ythhbkgeoigdjaaa
