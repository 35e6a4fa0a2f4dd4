/- The walk of PastTells. -/
import Derived.Test.YtgpjbajfkagdbaaAW
import Derived.Test.YtgpjbajfkagdbaaRG
set_option linter.unusedVariables false
set_option linter.unusedSimpArgs false
namespace Go.Proofs.Ytgpjbajfkagdbaa
open Go.RowKit

theorem tell_get {P : List Pr} (h : wellL P = true) {key : ByteArray} {z : Int} (hz : FoundAt P key z) : (z = -1 ∧ getA P key = (noB, false)) ∨ ∃ i : Nat, z = i ∧ ∃ hi : i < P.length, getA P key = (P[i].v, true) := by
  unfold getA
  rw [if_pos h]
  rcases found_get (well_sorted h) hz with ⟨h1, h2⟩ | ⟨i, h1, h2, h3⟩
  · exact .inl ⟨h1, by rw [h2]; rfl⟩
  · exact .inr ⟨i, h1, h2, by rw [h3]; rfl⟩
theorem dfind_v {w : World} {A : Option Addr} {n c : Nat} {P : List Pr} (h : PV w (.slice A n c) P) (key : ByteArray) (hn : P.length = n) (hm : P.length ≤ maxLen) :
    Calls Try.prog 15 #[.slice A n c, .string key] w fun e w' => ∃ z, e = .returned (.int .i64 z) ∧ FoundAt P key z ∧ Below w.heap.size w w' := by
  obtain ⟨A', c', e, h1, _⟩ := h
  injection e with e1 e2 e3
  subst e1 e3 hn
  exact dfind_any A c P key w h1 hm

set_option maxRecDepth 100000 in
set_option maxHeartbeats 8000000 in
theorem tells_walk (v u : Value) (fl s m : Int) (lo hi : ByteArray) (op : Bool) (key : ByteArray) (l : List Pr) (t : List Ch) (w : World) (hv : PV w v l) (hu : CV w u t) :
    Calls Try.prog 3 #[v, u, .int .i64 fl, .int .i64 s, .int .i64 m, .agg #[.string lo, .string hi, .bool op], .string key] w fun e w' => e = .returned (.bool true) ∧ Below w.heap.size w w' := by
  obtain ⟨w0, hw0⟩ : ∃ q, q = w.alloc (.cells #[.string lo, .string hi, .bool op] 25) := ⟨_, rfl⟩
  obtain ⟨gx, hgx⟩ : ∃ q, q = w.heap.size := ⟨_, rfl⟩
  have hb0 : Below w.heap.size w w0 := by rw [hw0]; exact (Below.refl _ _).alloc (Nat.le_refl _) _
  have HX0 := Lib.hid (show XB gx lo hi op w0 from XB.mk (by rw [hw0]; exact Box.at_ _ _ _ hgx))
  have HV0 := Lib.hid (hv.on hb0)
  have HU0 := Lib.hid (hu.on hb0)
  have HB0 := Lib.hid hb0
  have HW := Lib.hid (And.intro hw0 hgx)
  clear hv hu hb0 hw0 hgx
  go_enter Try.func3, Try.ntmps3
  go_upto_region 1 with fail
  rw [← HW.out.2, ← HW.out.1]
  go_wp2_with fail
  refine (small_v HV0.out HU0.out).mono ?_
  rintro e w1 ⟨R, rfl, hR, hb⟩
  have HB1 := Lib.hid (HB0.out.trans (hb.mono HB0.out.size))
  have HV1 := Lib.hid (HV0.out.on hb)
  have HU1 := Lib.hid (HU0.out.on hb)
  have HX1 := Lib.hid (HX0.out.on hb)
  clear hb HB0 HV0 HU0 HX0 
  cases R with
  | false =>
    clear hR
    go_wp2_with fail
    refine (awake_true _).mono ?_
    rintro e w2 ⟨rfl, hb⟩
    have HB2 := Lib.hid (HB1.out.trans (hb.mono HB1.out.size))
    clear hb HB1 
    go_wp2
    go_ret
    exact ⟨rfl, HB2.out⟩
  | true =>
    have HN := Lib.hid (hR rfl)
    clear hR
    by_cases hk : key.size ≤ 300
    case neg =>
      have hd : decide (300 < (key.size : Int)) = true := by simp; omega
      have hd2 : decide (300 < key.size) = true := by simp; omega
      go_wp2_with fail
      refine (awake_true _).mono ?_
      rintro e w3 ⟨rfl, hb⟩
      have HB3 := Lib.hid (HB1.out.trans (hb.mono HB1.out.size))
      clear hb HB1 
      go_wp2
      go_ret
      exact ⟨rfl, HB3.out⟩
    have hd : decide (300 < (key.size : Int)) = false := by simp; omega
    have hd2 : decide (300 < key.size) = false := by simp; omega
    have h1 := past_v fl s HV1.out HU1.out (by have := HN.out; omega) (by have := HN.out; omega)
    have hpl := past_len l t fl s
    have hno : pastE l t fl s ≠ 0 → pastL l t fl s = [] := past_no
    have hyes : pastE l t fl s = 0 → wellL (pastL l t fl s) = true := past_well
    obtain ⟨E, hE2⟩ : ∃ q, pastE l t fl s = q := ⟨_, rfl⟩
    obtain ⟨P, hP2⟩ : ∃ q, pastL l t fl s = q := ⟨_, rfl⟩
    rw [hE2, hP2] at h1 hno
    rw [hE2, hP2] at hyes
    rw [hP2] at hpl
    have HEP := Lib.hid (And.intro hE2 hP2)
    have HPL := Lib.hid (show P.length ≤ 200 from by have := HN.out; omega)
    have HWP := Lib.hid (show wellL P = true from by
      by_cases h0 : E = 0
      · exact hyes h0
      · rw [hno h0]; rfl)
    have HNO := Lib.hid hno
    clear hE2 hP2 hpl hno hyes hk
    go_wp2_with fail
    refine (h1).mono ?_
    rintro e w4 ⟨p, rfl, hp, hb⟩
    have HP4 := Lib.hid hp
    clear hp
    have HB4 := Lib.hid (HB1.out.trans (hb.mono HB1.out.size))
    have HV4 := Lib.hid (HV1.out.on hb)
    have HU4 := Lib.hid (HU1.out.on hb)
    have HX4 := Lib.hid (HX1.out.on hb)
    clear hb HB1 HV1 HU1 HX1 h1 hd hd2
    have hr := dpast_v fl s HV4.out HU4.out (by have := HN.out; omega)
    rw [HEP.out.1, HEP.out.2] at hr
    go_wp2_with fail
    refine (hr).mono ?_
    rintro e w5 ⟨qv, rfl, hq, hb⟩
    have HQ5 := Lib.hid hq
    clear hq
    have HB5 := Lib.hid (HB4.out.trans (hb.mono HB4.out.size))
    have HV5 := Lib.hid (HV4.out.on hb)
    have HU5 := Lib.hid (HU4.out.on hb)
    have HX5 := Lib.hid (HX4.out.on hb)
    have HP5 := Lib.hid (HP4.out.on hb)
    clear hb HB4 HV4 HU4 HX4 HP4 hr
    obtain ⟨QA, qc, rfl⟩ : ∃ A c, qv = .slice A P.length c := by obtain ⟨A, c, e, _⟩ := HQ5.out; exact ⟨A, c, e⟩
    obtain ⟨n, hn⟩ : ∃ q, P.length = q := ⟨_, rfl⟩
    rw [hn] at HQ5 ⊢
    have HNL := Lib.hid hn
    have hr := pget_v fl s key HV5.out HU5.out (by have := HN.out; omega) (by have := HN.out; omega)
    rw [HEP.out.1, HEP.out.2] at hr
    obtain ⟨gs, hgs⟩ : ∃ q, (getA P key).1 = q := ⟨_, rfl⟩
    obtain ⟨gb, hgb⟩ : ∃ q, (getA P key).2 = q := ⟨_, rfl⟩
    rw [hgs, hgb] at hr
    have HG := Lib.hid (And.intro hgs hgb)
    clear hgs hgb hn
    go_wp2_with fail
    refine (hr).mono ?_
    rintro e w6 ⟨rfl, hb⟩
    have HB6 := Lib.hid (HB5.out.trans (hb.mono HB5.out.size))
    have HV6 := Lib.hid (HV5.out.on hb)
    have HU6 := Lib.hid (HU5.out.on hb)
    have HX6 := Lib.hid (HX5.out.on hb)
    have HP6 := Lib.hid (HP5.out.on hb)
    have HQ6 := Lib.hid (HQ5.out.on hb)
    clear hb HB5 HV5 HU5 HX5 HP5 HQ5 hr
    have hr := pages_v fl s m ⟨lo, hi, op⟩ HV6.out HU6.out (by have := HN.out; omega) (by have := HN.out; omega)
    rw [HEP.out.1, HEP.out.2] at hr
    obtain ⟨Z, hZ⟩ : ∃ q, pageL ⟨lo, hi, op⟩ m P = q := ⟨_, rfl⟩
    obtain ⟨M, hM⟩ : ∃ q, moreB ⟨lo, hi, op⟩ m P = q := ⟨_, rfl⟩
    have HZL := Lib.hid (show Z.length ≤ 200 from by
      rw [← hZ]
      unfold pageL pickL
      have h1 := List.length_filter_le (fun p : Pr => inB ⟨lo, hi, op⟩ p.k) P
      have := HPL.out
      rw [List.length_take]
      omega)
    rw [hZ, hM] at hr
    have HZM := Lib.hid (And.intro hZ hM)
    clear hZ hM
    have c0 : w6.cell? ⟨gx, 0, none⟩ = some (.string lo) := HX6.out.box.cell 0 rfl
    have c1 : w6.cell? ⟨gx, 1, none⟩ = some (.string hi) := HX6.out.box.cell 1 rfl
    have c2 : w6.cell? ⟨gx, 2, none⟩ = some (.bool op) := HX6.out.box.cell 2 rfl
    go_wp2_with fail
    refine (hr).mono ?_
    rintro e w7 ⟨av, rfl, ha, hb⟩
    have HA7 := Lib.hid ha
    clear ha
    have HB7 := Lib.hid (HB6.out.trans (hb.mono HB6.out.size))
    have HV7 := Lib.hid (HV6.out.on hb)
    have HU7 := Lib.hid (HU6.out.on hb)
    have HX7 := Lib.hid (HX6.out.on hb)
    have HP7 := Lib.hid (HP6.out.on hb)
    have HQ7 := Lib.hid (HQ6.out.on hb)
    clear hb HB6 HV6 HU6 HX6 HP6 HQ6 hr c0 c1 c2
    have hr := dpage_v fl s m ⟨lo, hi, op⟩ HV7.out HU7.out (by have := HN.out; omega)
    rw [HEP.out.1, HEP.out.2, HZM.out.1, HZM.out.2] at hr
    have c0 : w7.cell? ⟨gx, 0, none⟩ = some (.string lo) := HX7.out.box.cell 0 rfl
    have c1 : w7.cell? ⟨gx, 1, none⟩ = some (.string hi) := HX7.out.box.cell 1 rfl
    have c2 : w7.cell? ⟨gx, 2, none⟩ = some (.bool op) := HX7.out.box.cell 2 rfl
    go_wp2_with fail
    refine (hr).mono ?_
    rintro e w8 ⟨bv, rfl, ha, hb⟩
    have HD8 := Lib.hid ha
    clear ha
    have HB8 := Lib.hid (HB7.out.trans (hb.mono HB7.out.size))
    have HV8 := Lib.hid (HV7.out.on hb)
    have HU8 := Lib.hid (HU7.out.on hb)
    have HX8 := Lib.hid (HX7.out.on hb)
    have HP8 := Lib.hid (HP7.out.on hb)
    have HQ8 := Lib.hid (HQ7.out.on hb)
    have HA8 := Lib.hid (HA7.out.on hb)
    clear hb HB7 HV7 HU7 HX7 HP7 HQ7 HA7 hr c0 c1 c2
    have hr := dfind_v HQ8.out key HNL.out (by have := HPL.out; unfold maxLen; omega)
    go_wp2_with fail
    refine (hr).mono ?_
    rintro e w9 ⟨z, rfl, hz, hb⟩
    have HB9 := Lib.hid (HB8.out.trans (hb.mono HB8.out.size))
    have HV9 := Lib.hid (HV8.out.on hb)
    have HU9 := Lib.hid (HU8.out.on hb)
    have HX9 := Lib.hid (HX8.out.on hb)
    have HP9 := Lib.hid (HP8.out.on hb)
    have HQ9 := Lib.hid (HQ8.out.on hb)
    have HA9 := Lib.hid (HA8.out.on hb)
    have HD9 := Lib.hid (HD8.out.on hb)
    clear hb HB8 HV8 HU8 HX8 HP8 HQ8 HA8 HD8 hr
    have hs1 := same_v HP9.out HQ9.out (by have := HPL.out; unfold maxLen; omega)
    rw [decide_eq_true rfl] at hs1
    have HS1 := Lib.hid hs1
    have HG2 := Lib.hid (tell_get HWP.out hz)
    have HZE := Lib.hid (show P = [] → z = -1 from fun h => by
      rcases hz with h1 | ⟨i, _, hi, _⟩
      · exact h1.1
      · rw [h] at hi; exact absurd hi (by simp))
    clear hs1 hz
    have hg := HG.out
    rcases HG2.out with ⟨rfl, hga⟩ | ⟨i, rfl, hi2, hga⟩
    · skip
      rw [hga] at hg
      obtain ⟨rfl, rfl⟩ := hg
      have hnB : noB.toList = [] := by rw [ByteArray.toList_eq]
      by_cases h0 : E = 0
      · skip
        subst h0
        go_wp2_with fail
        refine (HS1.out).mono ?_
        rintro e w10 ⟨rfl, hb⟩
        have HB10 := Lib.hid (HB9.out.trans (hb.mono HB9.out.size))
        have HV10 := Lib.hid (HV9.out.on hb)
        have HU10 := Lib.hid (HU9.out.on hb)
        have HX10 := Lib.hid (HX9.out.on hb)
        have HP10 := Lib.hid (HP9.out.on hb)
        have HQ10 := Lib.hid (HQ9.out.on hb)
        have HA10 := Lib.hid (HA9.out.on hb)
        have HD10 := Lib.hid (HD9.out.on hb)
        clear hb HB9 HV9 HU9 HX9 HP9 HQ9 HA9 HD9 HS1
        have hr := same_v HA10.out HD10.out (by have := HZL.out; unfold maxLen; omega)
        rw [decide_eq_true rfl] at hr
        go_wp2_with fail
        refine (hr).mono ?_
        rintro e w11 ⟨rfl, hb⟩
        have HB11 := Lib.hid (HB10.out.trans (hb.mono HB10.out.size))
        have HV11 := Lib.hid (HV10.out.on hb)
        have HU11 := Lib.hid (HU10.out.on hb)
        have HX11 := Lib.hid (HX10.out.on hb)
        have HP11 := Lib.hid (HP10.out.on hb)
        have HQ11 := Lib.hid (HQ10.out.on hb)
        have HA11 := Lib.hid (HA10.out.on hb)
        have HD11 := Lib.hid (HD10.out.on hb)
        clear hb HB10 HV10 HU10 HX10 HP10 HQ10 HA10 HD10 hr
        go_wp2_with fail
        refine (awake_true _).mono ?_
        rintro e w12 ⟨rfl, hb⟩
        have HB12 := Lib.hid (HB11.out.trans (hb.mono HB11.out.size))
        clear hb HB11 
        go_wp2
        go_ret
        exact ⟨rfl, HB12.out⟩
      · skip
        skip
        go_wp2_with fail
        refine (HS1.out).mono ?_
        rintro e w13 ⟨rfl, hb⟩
        have HB13 := Lib.hid (HB9.out.trans (hb.mono HB9.out.size))
        have HV13 := Lib.hid (HV9.out.on hb)
        have HU13 := Lib.hid (HU9.out.on hb)
        have HX13 := Lib.hid (HX9.out.on hb)
        have HP13 := Lib.hid (HP9.out.on hb)
        have HQ13 := Lib.hid (HQ9.out.on hb)
        have HA13 := Lib.hid (HA9.out.on hb)
        have HD13 := Lib.hid (HD9.out.on hb)
        clear hb HB9 HV9 HU9 HX9 HP9 HQ9 HA9 HD9 HS1
        have hr := same_v HA13.out HD13.out (by have := HZL.out; unfold maxLen; omega)
        rw [decide_eq_true rfl] at hr
        go_wp2_with fail
        refine (hr).mono ?_
        rintro e w14 ⟨rfl, hb⟩
        have HB14 := Lib.hid (HB13.out.trans (hb.mono HB13.out.size))
        have HV14 := Lib.hid (HV13.out.on hb)
        have HU14 := Lib.hid (HU13.out.on hb)
        have HX14 := Lib.hid (HX13.out.on hb)
        have HP14 := Lib.hid (HP13.out.on hb)
        have HQ14 := Lib.hid (HQ13.out.on hb)
        have HA14 := Lib.hid (HA13.out.on hb)
        have HD14 := Lib.hid (HD13.out.on hb)
        clear hb HB13 HV13 HU13 HX13 HP13 HQ13 HA13 HD13 hr
        go_wp2_with fail
        refine (awake_true _).mono ?_
        rintro e w15 ⟨rfl, hb⟩
        have HB15 := Lib.hid (HB14.out.trans (hb.mono HB14.out.size))
        clear hb HB14 
        go_wp2
        go_ret
        exact ⟨rfl, HB15.out⟩
    · skip
      rw [hga] at hg
      obtain ⟨rfl, rfl⟩ := hg
      have h0 : E = 0 := by
        apply Classical.byContradiction
        intro h0
        have h1 := HZE.out (HNO.out h0)
        omega
      subst h0
      obtain ⟨A', c', e', hA, _⟩ := HQ9.out
      injection e' with e1 e2 e3
      subst e1 e3
      obtain ⟨ad, rfl, hab, hca⟩ := hA.seeP (by omega)
      obtain ⟨_, x2⟩ := hca i hi2
      have hin : i < n := by rw [← HNL.out]; exact hi2
      obtain ⟨xv, hxv⟩ : ∃ q, (P[i]'hi2).v = q := ⟨_, rfl⟩
      rw [hxv] at x2 ⊢
      have hn200 : n ≤ 200 := by rw [← HNL.out]; exact HPL.out
      clear hca hA hxv e2 hga
      go_wp2_with fail
      refine (HS1.out).mono ?_
      rintro e w16 ⟨rfl, hb⟩
      have HB16 := Lib.hid (HB9.out.trans (hb.mono HB9.out.size))
      have HV16 := Lib.hid (HV9.out.on hb)
      have HU16 := Lib.hid (HU9.out.on hb)
      have HX16 := Lib.hid (HX9.out.on hb)
      have HP16 := Lib.hid (HP9.out.on hb)
      have HQ16 := Lib.hid (HQ9.out.on hb)
      have HA16 := Lib.hid (HA9.out.on hb)
      have HD16 := Lib.hid (HD9.out.on hb)
      clear hb HB9 HV9 HU9 HX9 HP9 HQ9 HA9 HD9 HS1
      have hr := same_v HA16.out HD16.out (by have := HZL.out; unfold maxLen; omega)
      rw [decide_eq_true rfl] at hr
      go_wp2_with fail
      refine (hr).mono ?_
      rintro e w17 ⟨rfl, hb⟩
      have HB17 := Lib.hid (HB16.out.trans (hb.mono HB16.out.size))
      have HV17 := Lib.hid (HV16.out.on hb)
      have HU17 := Lib.hid (HU16.out.on hb)
      have HX17 := Lib.hid (HX16.out.on hb)
      have HP17 := Lib.hid (HP16.out.on hb)
      have HQ17 := Lib.hid (HQ16.out.on hb)
      have HA17 := Lib.hid (HA16.out.on hb)
      have HD17 := Lib.hid (HD16.out.on hb)
      clear hb HB16 HV16 HU16 HX16 HP16 HQ16 HA16 HD16 hr
      go_wp2_with fail
      refine (awake_true _).mono ?_
      rintro e w18 ⟨rfl, hb⟩
      have HB18 := Lib.hid (HB17.out.trans (hb.mono HB17.out.size))
      clear hb HB17 
      go_wp2
      go_ret
      exact ⟨rfl, HB18.out⟩

end Go.Proofs.Ytgpjbajfkagdbaa
