/- The walk of the document's Append of layer 8, where the journal and the place are right. -/
import Derived.Test.YtdgjnjhmjgdhnaaDoorRTexts
import Derived.Test.YtdgjnjhmjgdhnaaDoorJd
namespace Go.Proofs.YtdgjnjhmjgdhnaaDoor
open Go.RowKit

set_option maxHeartbeats 8000000 in
set_option maxRecDepth 100000 in
theorem dappend_right {v : Value} {S : List ByteArray} {W : List Wr} (g a : Nat) (T : Option Addr) (tc : Nat) (ts : List ByteArray) {w : World} (h : DZ w v S W) (hT : Strs w w.heap.size T ts) (hl : ts.length ≤ 65535) (hs : ∀ x ∈ ts, x.size ≤ 1000) (hm : W.length ≤ 90000) (hj : jB S W = true) (hg : 1 ≤ g) (hg2 : g ≤ 2147483647) (ha : a ≤ 128) :
    Calls Tryd.prog 22 #[v, .int .i64 g, .int .i64 a, .slice T ts.length tc] w fun e w' => ((∃ v', e = .returned (.tuple #[v', .int .i64 (a + needs ts : Nat), .int .i64 0]) ∧ DV w' v' S (W ++ putL (2 + (a : Int)) (chainL g a ts)) ∧ a + needs ts ≤ 128) ∨ (e = .returned (.tuple #[v, .int .i64 a, .int .i64 6]) ∧ 128 < a + needs ts)) ∧ Below w.heap.size w w' := by
  have HRD := Lib.hid (fun (wx : World) (hb : Below w.heap.size w wx) => djread_ok (h.dv.on hb) (by omega) hj)
  have hmy := fun wx => dmay_any g a wx
  rw [gp_of hg hg2 ha] at hmy
  have HMY := Lib.hid hmy
  have HTA := Lib.hid hT
  have HS := Lib.hid hs
  have HMO := Lib.hid (fun k => needs_mono ts k)
  have HTK := Lib.hid (fun k x (h : ts[k]? = some x) => show needs (ts.take (k + 1)) = needs (ts.take k) + needJ x.size by
    obtain ⟨h1, rfl⟩ := List.getElem?_eq_some_iff.1 h
    exact needs_take ts k h1)
  have HCT := Lib.hid (fun k x (h : ts[k]? = some x) => show chainL g a (ts.take (k + 1)) = chainL g a (ts.take k) ++ recL g (a + needs (ts.take k)) x.data.toList by
    obtain ⟨h1, rfl⟩ := List.getElem?_eq_some_iff.1 h
    exact chain_take g a ts k h1)
  have HCL := Lib.hid (fun k => chain_len g a (ts.take k))
  have HWH := Lib.hid (List.take_length (l := ts))
  have HJR := Lib.hid (fun k (hk : a + needs (ts.take k) ≤ 128) => show rightB S (W ++ putL (2 + (a : Int)) (chainL g a (ts.take k))) = true from ch_right (jB_parts hj).1 (jB_parts hj).2 hk)
  have HSB := Lib.hid (jB_parts hj).2
  obtain ⟨A, c, B, d, rfl, hA, hB, hz⟩ := h
  have HD0 := Lib.hid (show DZ w (.agg #[.slice A S.length c, .slice B W.length d]) S W from ⟨A, c, B, d, rfl, hA, hB, hz⟩)
  have HT := Lib.hid (ETwo.laid w A S.length c B W.length d)
  have HB0 := Lib.hid (below_two w (.cells #[.slice A S.length c, .slice B W.length d] 39) (.cells #[.slice none 0 0, .slice none 0 0] 39))
  generalize flatS (jou S W) = s at *
  generalize hsn : S.length = n at *
  generalize hwm : W.length = m at *
  generalize hq : ts.length = q at *
  have HSN := Lib.hid hsn
  have HWM := Lib.hid hwm
  have HQ := Lib.hid hq
  clear hA hB hj hT hs hmy hsn hwm hq hz
  have hrd := HRD.out _ HB0.out
  clear HRD
  go_enter Tryd.func22, Tryd.ntmps22
  go_wp2_with fail
  refine hrd.mono ?_
  rintro e w1 ⟨rfl, hb1⟩
  have HT1 := Lib.hid (HT.out.on hb1)
  have HB1 := Lib.hid (HB0.out.trans (hb1.mono HB0.out.size))
  clear hb1 hrd
  go_wp2_with fail
  refine (HMY.out _).mono ?_
  rintro e w2 ⟨rfl, rfl⟩
  obtain ⟨d1, d2⟩ := EBlk.cells HT1.out.1
  have hz1 : w.heap.size + 1 < w1.heap.size := Box.lt HT1.out.2
  have hba1 : Below w1.heap.size w1 (w1.alloc (.cells #[.slice A n c, .slice B m d] 39)) := (Below.refl _ _).alloc (Nat.le_refl _) _
  have HT2 := Lib.hid (HT1.out.on hba1)
  have HB2 := Lib.hid (HB1.out.trans (hba1.mono HB1.out.size))
  have HO2 := Lib.hid (show EBlk (w1.alloc (.cells #[.slice A n c, .slice B m d] 39)) w1.heap.size (.slice A n c) (.slice B m d) from Box.fresh _ _ _)
  have HGL := Lib.hid (show w.heap.size + 1 < w1.heap.size from hz1)
  have HD2 := Lib.hid (HD0.out.on HB2.out)
  clear hba1 HB1 HT1 HT HB0
  go_wp2
  generalize hwz : w1.alloc (.cells #[.slice A n c, .slice B m d] 39) = wz at *
  generalize hgo : w1.heap.size = go at *
  clear hwz hgo d1 d2
  go_loopw [15, 16] (fun t i wr => ∃ (k z : Nat) (Ae : Option Addr) (ce : Nat) (Be : Option Addr) (de m2 : Nat) (W2 : List Wr), i = .int .i64 k ∧ t = .int .i64 (a + z) ∧ k ≤ q ∧ z = needs (ts.take k) ∧ a + z ≤ 128 ∧ ETwo wr w.heap.size A n c B m d ∧ EBlk wr go (.slice Ae n ce) (.slice Be m2 de) ∧ W2 = W ++ putL (2 + (a : Int)) (chainL g a (ts.take k)) ∧ W2.length = m2 ∧ m2 = m + z ∧ DZ wr (.agg #[.slice Ae n ce, .slice Be m2 de]) S W2 ∧ Below w.heap.size w wr) (fun _ i _ => (q - intOf i).toNat)
  case atStart => exact ⟨0, 0, A, c, B, d, m, W, rfl, by simp, by omega, rfl, by omega, HT2.out, HO2.out, by simp [chainL, putL], HWM.out, by omega, HD2.out, HB2.out⟩
  case round =>
    obtain ⟨k, z, Ae, ce, Be, de, m2, W2, rfl, rfl, hk, hz, hfit0, ht, ho, hW2, hm2, hmz, hdz, hbr⟩ := hrel
    have HZ := Lib.hid hz
    have HTT := Lib.hid ht
    have HOO := Lib.hid ho
    have HW2 := Lib.hid hW2
    have HM2 := Lib.hid hm2
    have HDZ := Lib.hid hdz
    have HBR := Lib.hid hbr
    have HMZ := Lib.hid hmz
    clear hz ht ho hW2 hm2 hdz hmz
    obtain ⟨j0, j1⟩ := EBlk.cells HTT.out.1
    obtain ⟨o0, o1⟩ := EBlk.cells HOO.out
    have hzo := Box.lt HOO.out
    have hzt : w.heap.size + 1 < wr.heap.size := Box.lt HTT.out.2
    by_cases hlt : k < q
    · obtain ⟨a1, rfl, hab, hca⟩ := (HTA.out.below hbr) (by rw [HQ.out]; omega)
      have c1' := hca k (by rw [HQ.out]; omega)
      have hms := HS.out _ (List.getElem_mem (by rw [HQ.out]; omega : k < ts.length))
      have hgx := List.getElem?_eq_getElem (l := ts) (i := k) (by rw [HQ.out]; omega)
      generalize ts[k]'(by rw [HQ.out]; omega) = x at *
      have htk := HTK.out k x hgx
      have hct := HCT.out k x hgx
      have hmo := HMO.out (k + 1)
      rw [← HZ.out] at htk hct
      rw [htk] at hmo
      have hpos := needJ_pos x.size
      have hle := needJ_le hms
      have hrl := rec_len' g (a + z) x
      have hrf := rec_fill g (a + z) x.data.toList
      have HTK1 := Lib.hid htk
      have HCT1 := Lib.hid hct
      clear hca hgx htk hct hbr
      obtain ⟨y, hy⟩ : ∃ y, y = needJ x.size := ⟨_, rfl⟩
      by_cases hfit : a + z + needJ x.size ≤ 128
      · have hpc : ∀ wx : World, Calls Tryd.prog 12 #[.int .i64 g, .int .i64 ((a : Int) + z), .string x] wx fun e w' => ∃ v', e = .returned (.tuple #[v', .int .i64 0]) ∧ RowV w' v' (recL g (a + z) x.data.toList) ∧ Below wx.heap.size wx w' := fun wx => dpieces_ok g (a + z) x wx hg hg2 (by omega) hms hfit
        have HPC := Lib.hid hpc
        obtain ⟨P, hP⟩ : ∃ P, P = recL g (a + z) x.data.toList := ⟨_, rfl⟩
        rw [← hP] at HPC HCT1 hrl hrf
        rw [← hy] at hrl hfit hpos hle HTK1 hmo
        have HRL := Lib.hid hrl
        have HPF := Lib.hid hrf
        clear hpc hP hrl hrf hy
        go_wp2_with fail
        refine (HPC.out _).mono ?_
        rintro e w3 ⟨v3, rfl, hv3, hb3⟩
        have HT3 := Lib.hid (HTT.out.on hb3)
        have HO3 := Lib.hid (show EBlk w3 go (.slice Ae n ce) (.slice Be m2 de) from Box.on HOO.out hb3)
        have HB3 := Lib.hid (HBR.out.trans (hb3.mono HBR.out.size))
        have hpt : Calls Tryd.prog 42 #[.agg #[.slice Ae n ce, .slice Be m2 de], .int .i64 (2 + ((a : Int) + z)), v3] w3 fun e w' => ∃ v', e = .returned (.tuple #[v', .int .i64 0]) ∧ DV w' v' S (W2 ++ putL ((2 + (a + z) : Nat) : Int) P) ∧ Below w3.heap.size w3 w' := djput_ok (a := 2 + (a + z)) (HDZ.out.on hb3) hv3.sv (by rw [HM2.out]; have := HMZ.out; omega) (by rw [HRL.out]; omega) (by rw [HW2.out]; exact HJR.out k (by rw [← HZ.out]; exact hfit0)) HPF.out (by rw [HRL.out, HSN.out]; have := HSB.out; omega)
        obtain ⟨W3, hW3⟩ : ∃ W3, W3 = W2 ++ putL ((2 + (a + z) : Nat) : Int) P := ⟨_, rfl⟩
        rw [← hW3] at hpt
        have HW3L := Lib.hid (show W3.length = m2 + y by rw [hW3, List.length_append, put_len, HRL.out, HM2.out])
        have HW3 := Lib.hid (show W3 = W ++ putL (2 + (a : Int)) (chainL g a (ts.take (k + 1))) by
          rw [hW3, HW2.out, HCT1.out, put_append, HCL.out k, ← HZ.out, List.append_assoc]
          congr 3
          omega)
        obtain ⟨A3, c3, rfl, _, _⟩ := hv3
        rw [HRL.out] at hpt ⊢
        clear hb3 HPC hW3 j0 j1 o0 o1 hzo hzt
        obtain ⟨o0, o1⟩ := EBlk.cells HO3.out
        have hzo := Box.lt HO3.out
        go_wp2_with fail
        refine hpt.mono ?_
        clear hpt o0 o1 hzo
        rintro e w4 ⟨v4, rfl, ⟨A4, c4, B4, d4, rfl, hA4, hB4⟩, hb4⟩
        have hv4 : DV w4 _ S W3 := ⟨A4, c4, B4, d4, rfl, hA4, hB4⟩
        rw [HSN.out, HW3L.out] at hv4 ⊢
        have HT4 := Lib.hid (HT3.out.on hb4)
        have HO4 := Lib.hid (show EBlk w4 go (.slice Ae n ce) (.slice Be m2 de) from Box.on HO3.out hb4)
        have HB4 := Lib.hid (HB3.out.trans (hb4.mono HB3.out.size))
        have HV4 := Lib.hid hv4
        clear hA4 hB4 hv4 hb4
        have f0 := Box.free HO4.out 0
        have f1 := Box.free HO4.out 1
        obtain ⟨o0, o1⟩ := EBlk.cells HO4.out
        have hzo := Box.lt HO4.out
        have HDZ4 := Lib.hid (DV.z (HV4.out.eapart HO4.out A4 n c4 B4 (m2 + y) d4) (by rw [HW3L.out]; omega))
        have HO5 := Lib.hid (show EBlk ((w4.setCell ⟨go, 0, none⟩ (.slice A4 n c4)).setCell ⟨go, 1, none⟩ (.slice B4 (m2 + y) d4)) go (.slice A4 n c4) (.slice B4 (m2 + y) d4) from Box.set (Box.set HO4.out 0 _) 1 _)
        have HT5 := Lib.hid (show ETwo ((w4.setCell ⟨go, 0, none⟩ (.slice A4 n c4)).setCell ⟨go, 1, none⟩ (.slice B4 (m2 + y) d4)) w.heap.size A n c B m d from ⟨Box.away (Box.away HT4.out.1 (by have := HGL.out; simp; omega) _) (by have := HGL.out; simp; omega) _, Box.away (Box.away HT4.out.2 (by have := HGL.out; simp; omega) _) (by have := HGL.out; simp; omega) _⟩)
        have HB5 := Lib.hid ((HB4.out.setCell (p := ⟨go, 0, none⟩) (by have := HGL.out; simp; omega) (.slice A4 n c4)).setCell (p := ⟨go, 1, none⟩) (by have := HGL.out; simp; omega) (.slice B4 (m2 + y) d4))
        go_wp2
        go_roundw
        case rel => exact ⟨k + 1, z + y, A4, c4, B4, d4, m2 + y, W3, by go_num, by go_num, by omega, HTK1.out.symm, by omega, HT5.out, HO5.out, HW3.out, HW3L.out, by have := HMZ.out; omega, HDZ4.out, HB5.out⟩
        case measure => simp [intOf]; omega
      · have hpc : ∀ wx : World, Calls Tryd.prog 12 #[.int .i64 g, .int .i64 ((a : Int) + z), .string x] wx fun e w' => e = .returned (.tuple #[.slice none 0 0, .int .i64 6]) ∧ Below wx.heap.size wx w' := fun wx => dpieces_full g (a + z) x wx hg hg2 (by omega) hms (by omega)
        have HPC := Lib.hid hpc
        have HNF := Lib.hid (show 128 < a + needs ts by omega)
        clear hpc
        go_wp2_with fail
        refine (HPC.out _).mono ?_
        rintro e w3 ⟨rfl, hb3⟩
        have HT3 := Lib.hid (HTT.out.on hb3)
        have HB3 := Lib.hid (HBR.out.trans (hb3.mono HBR.out.size))
        clear hb3 j0 j1 o0 o1 hzo hzt
        have f0 := Box.free HT3.out.2 0
        have f1 := Box.free HT3.out.2 1
        obtain ⟨k0, k1⟩ := EBlk.cells HT3.out.2
        obtain ⟨j0, j1⟩ := EBlk.cells HT3.out.1
        have hzt : w.heap.size + 1 < w3.heap.size := Box.lt HT3.out.2
        go_wp2
        have hp := eans_cells (.slice A n c) (.slice B m d) HT3.out.2
        exact bodyPost_ret (v := .tuple #[.agg #[.slice A n c, .slice B m d], .int .i64 a, .int .i64 6]) (by simp [results, Tryd.results22, go_sem, hp.1, hp.2]) rfl ⟨.inr ⟨rfl, HNF.out⟩, (HB3.out.setCell (by simp) _).setCell (by simp) _⟩
    · obtain rfl : k = q := by omega
      have hZ := HZ.out
      have hW := HW2.out
      rw [HWH.out] at hZ hW
      have HNF := Lib.hid (show a + needs ts ≤ 128 by rw [← hZ]; exact hfit0)
      have HZN := Lib.hid hZ
      have HDV := Lib.hid (show DV wr (.agg #[.slice Ae n ce, .slice Be m2 de]) S (W ++ putL (2 + (a : Int)) (chainL g a ts)) by rw [← hW]; exact HDZ.out.dv)
      have f0 := Box.free HTT.out.2 0
      have f1 := Box.free HTT.out.2 1
      obtain ⟨k0, k1⟩ := EBlk.cells HTT.out.2
      clear hZ hW hlt hk
      go_wp2
      have hp := eans_cells (.slice Ae n ce) (.slice Be m2 de) HTT.out.2
      exact bodyPost_ret (v := .tuple #[.agg #[.slice Ae n ce, .slice Be m2 de], .int .i64 (a + z), .int .i64 0]) (by simp [results, Tryd.results22, go_sem, hp.1, hp.2]) rfl ⟨.inl ⟨_, by rw [HZN.out]; first | rfl | simp, HDV.out.eapart HTT.out.2 Ae n ce Be m2 de, HNF.out⟩, (hbr.setCell (by simp) _).setCell (by simp) _⟩

end Go.Proofs.YtdgjnjhmjgdhnaaDoor
