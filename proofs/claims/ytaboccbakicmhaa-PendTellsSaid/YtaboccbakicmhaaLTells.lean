/- The walk of the law PendTells. -/
import Derived.Test.YtaboccbakicmhaaFct
set_option linter.unusedVariables false
set_option linter.unusedSimpArgs false
namespace Go.Proofs.Ytaboccbakicmhaa
open Go.RowKit

set_option maxHeartbeats 8000000 in
set_option maxRecDepth 100000 in
theorem tells_walk (v u : Value) (l : List Nt) (ns : List Nt) (key : ByteArray) (w0 : World) (hP : NV w0 v l) (hQ : NV w0 u ns) (hn : l.length ≤ maxLen) (hm : ns.length ≤ maxLen) :
    Calls Try.prog 3 #[v, u, .string key] w0 fun e w' => e = .returned (.bool true) ∧ Below w0.heap.size w0 w' := by
  have HP0 := Lib.hid hP
  have HQ0 := Lib.hid hQ
  obtain ⟨A, c, rfl, _, _, _⟩ := hP
  have HN := Lib.hid hn
  have HB0 := Lib.hid (Below.refl w0.heap.size w0)
  obtain ⟨n, hl⟩ : ∃ n, l.length = n := ⟨_, rfl⟩
  rw [hl] at HP0 ⊢
  have HL := Lib.hid hl
  clear hl hn hm hQ
  go_enter Try.func3, Try.ntmps3
  go_wp2_with fail
  refine (few_v HP0.out).mono ?_
  rintro e w1 ⟨R, rfl, h60, hb⟩
  have HB1 := Lib.hid (HB0.out.trans (hb.mono HB0.out.size))
  have HP1 := Lib.hid (HP0.out.on hb)
  have HQ1 := Lib.hid (HQ0.out.on hb)
  clear hb HB0 HP0 HQ0
  have H60 := Lib.hid h60
  clear h60
  cases R with
  | false =>
    go_wp2_with fail
    refine (awake_true _).mono ?_
    rintro e w9 ⟨rfl, hb9⟩
    have HB9 := Lib.hid (HB1.out.trans (hb9.mono HB1.out.size))
    clear hb9
    go_wp2
    go_ret
    exact ⟨rfl, HB9.out⟩
  | true =>
  have HL60 := Lib.hid (H60.out rfl)
  clear H60
  go_wp2_with fail
  refine (few_v HQ1.out).mono ?_
  rintro e w2 ⟨R, rfl, h60, hb⟩
  have HB2 := Lib.hid (HB1.out.trans (hb.mono HB1.out.size))
  have HP2 := Lib.hid (HP1.out.on hb)
  have HQ2 := Lib.hid (HQ1.out.on hb)
  clear hb HB1 HP1 HQ1
  have H60 := Lib.hid h60
  clear h60
  cases R with
  | false =>
    go_wp2_with fail
    refine (awake_true _).mono ?_
    rintro e w9 ⟨rfl, hb9⟩
    have HB9 := Lib.hid (HB2.out.trans (hb9.mono HB2.out.size))
    clear hb9
    go_wp2
    go_ret
    exact ⟨rfl, HB9.out⟩
  | true =>
  have HM60 := Lib.hid (H60.out rfl)
  clear H60
  by_cases hk : key.size ≤ 300
  case neg =>
    have hd : decide (300 < (key.size : Int)) = true := by simp; omega
    clear hk
    go_wp2_with fail
    refine (awake_true _).mono ?_
    rintro e w9 ⟨rfl, hb9⟩
    have HB9 := Lib.hid (HB2.out.trans (hb9.mono HB2.out.size))
    clear hb9
    go_wp2
    go_ret
    exact ⟨rfl, HB9.out⟩
  have hd : decide (300 < (key.size : Int)) = false := by simp; omega
  clear hk
  obtain ⟨E1, hE1⟩ : ∃ E1, E1 = pushE l ns := ⟨_, rfl⟩
  obtain ⟨L1, hL1⟩ : ∃ L1, L1 = pushA l ns := ⟨_, rfl⟩
  obtain ⟨F, hF⟩ : ∃ F, F = findA l key := ⟨_, rfl⟩
  obtain ⟨W, hW⟩ : ∃ W, wellN l = W := ⟨_, rfl⟩
  have hsum : l.length + ns.length ≤ 1000 := by have h3 := HL60.out; have h4 := HM60.out; omega
  have HLAST := Lib.hid (show lastN l key W l.length = F from by rw [← hW, hF]; exact last_all l key)
  have C1 := Lib.hid (fun (wx : World) (h : NV wx (.slice A n c) l) (g : NV wx u ns) => show Calls Try.prog 11 #[.slice A n c, u] wx fun e w' => ∃ v', e = .returned (.tuple #[v', .int .i64 E1]) ∧ NV w' v' L1 ∧ Below wx.heap.size wx w' from by
    have h := ppush_v h g hsum
    rw [← hE1, ← hL1] at h; exact h)
  have C2 := Lib.hid (fun (wx : World) (h : NV wx (.slice A n c) l) (g : NV wx u ns) => show Calls Try.prog 12 #[.slice A n c, u] wx fun e w' => ∃ v', e = .returned (.tuple #[v', .int .i64 E1]) ∧ NV w' v' L1 ∧ Below wx.heap.size wx w' from by
    have h := dPush_v h g hsum
    rw [← hE1, ← hL1] at h; exact h)
  have HLL := Lib.hid (show L1.length ≤ 1000 from by have h0 := len_pushA l ns; rw [← hL1] at h0; omega)
  obtain ⟨⟨fk, fe, fv, fn⟩, fb⟩ := F
  have CF := Lib.hid (fun (wx : World) (h : NV wx (.slice A n c) l) => show Calls Try.prog 13 #[.slice A n c, .string key] wx fun e w' => e = .returned (.tuple #[.agg #[.int .i64 fk, .string fe, .string fv, .int .u64 (fn.toNat : Int)], .bool fb]) ∧ Below wx.heap.size wx w' from by
    have h1 := pfind_v h key (by omega)
    rw [← hF] at h1; exact h1)
  have CR := Lib.hid (fun (wx : World) (h : NV wx (.slice A n c) l) => show Calls Try.prog 14 #[.slice A n c] wx fun e w' => e = .returned (.bool W) ∧ Below wx.heap.size wx w' from by
    have h1 := dwell_v h HN.out
    rw [hW] at h1; exact h1)
  have CQ := Lib.hid (fun (wx : World) (h : NV wx (.slice A n c) l) => show Calls Try.prog 15 #[.slice A n c] wx fun e w' => e = .returned (.bool W) ∧ Below wx.heap.size wx w' from by
    have h1 := pright_v h HN.out
    rw [hW] at h1; exact h1)
  have hee : (E1 == E1) = true := by simp
  have hww : (W == W) = true := by simp
  have HWW := Lib.hid hww
  have HEE := Lib.hid hee
  clear hE1 hL1 hF hW hsum hww hee
  go_wp2_with fail
  refine (C1.out _ HP2.out HQ2.out).mono ?_
  rintro e w3 ⟨va, rfl, hx, hb⟩
  have HX3 := Lib.hid hx
  clear hx
  have HB3 := Lib.hid (HB2.out.trans (hb.mono HB2.out.size))
  have HP3 := Lib.hid (HP2.out.on hb)
  have HQ3 := Lib.hid (HQ2.out.on hb)
  clear hb HB2 HP2 HQ2
  go_wp2_with fail
  refine (C2.out _ HP3.out HQ3.out).mono ?_
  rintro e w4 ⟨vb, rfl, hx, hb⟩
  have HY4 := Lib.hid hx
  clear hx
  have HB4 := Lib.hid (HB3.out.trans (hb.mono HB3.out.size))
  have HP4 := Lib.hid (HP3.out.on hb)
  have HQ4 := Lib.hid (HQ3.out.on hb)
  have HX4 := Lib.hid (HX3.out.on hb)
  clear hb HB3 HP3 HQ3 HX3
  clear C1 C2
  clear HQ4
  go_wp2_with fail
  refine (CF.out _ HP4.out).mono ?_
  rintro e w5 ⟨rfl, hb⟩
  have HB5 := Lib.hid (HB4.out.trans (hb.mono HB4.out.size))
  have HP5 := Lib.hid (HP4.out.on hb)
  have HX5 := Lib.hid (HX4.out.on hb)
  have HY5 := Lib.hid (HY4.out.on hb)
  clear hb HB4 HP4 HX4 HY4
  clear CF
  go_upto_region 6 with fail
  obtain ⟨g1, hg1⟩ : ∃ g, g = w5.heap.size := ⟨_, rfl⟩
  obtain ⟨wb, hwb⟩ : ∃ wb, wb = w5.alloc (.cells #[.int .i64 fk, .string fe, .string fv, .int .u64 (fn.toNat : Int)] 32) := ⟨_, rfl⟩
  have HFb := Lib.hid (show NBlk wb g1 ⟨fk, fe, fv, fn⟩ by rw [hwb]; exact Box.at_ w5 _ _ hg1)
  have hb : Below w5.heap.size w5 wb := by rw [hwb]; exact (Below.refl _ _).alloc (Nat.le_refl _) _
  rw [← hg1, ← hwb]
  clear hg1 hwb
  have HBb := Lib.hid (HB5.out.trans (hb.mono HB5.out.size))
  have HPb := Lib.hid (HP5.out.on hb)
  have HXb := Lib.hid (HX5.out.on hb)
  have HYb := Lib.hid (HY5.out.on hb)
  clear hb HB5 HP5 HX5 HY5
  go_wp2_with fail
  refine (CR.out _ HPb.out).mono ?_
  rintro e wc ⟨rfl, hb⟩
  have HBc := Lib.hid (HBb.out.trans (hb.mono HBb.out.size))
  have HPc := Lib.hid (HPb.out.on hb)
  have HXc := Lib.hid (HXb.out.on hb)
  have HYc := Lib.hid (HYb.out.on hb)
  have HFc := Lib.hid (HFb.out.on hb)
  clear hb HBb HPb HXb HYb HFb
  clear CR
  go_upto_region 8 with fail
  obtain ⟨g2, hg2⟩ : ∃ g, g = wc.heap.size := ⟨_, rfl⟩
  obtain ⟨wd, hwd⟩ : ∃ wd, wd = wc.alloc (.cells #[.int .i64 0, .string noB, .string noB, .int .u64 0] 32) := ⟨_, rfl⟩
  have HG0 := Lib.hid (show NBlk wd g2 nt0 by rw [hwd]; exact Box.at_ wc _ _ hg2)
  have hbd : Below wc.heap.size wc wd := by rw [hwd]; exact (Below.refl _ _).alloc (Nat.le_refl _) _
  have HG2 := Lib.hid hg2
  have HBD := Lib.hid hbd
  rw [← hg2, ← hwd]
  clear hg2 hwd hbd
  have HNA := Lib.hid (HPc.out.see)
  have hl60 : n ≤ 60 := by have := HL60.out; have := HL.out; omega
  have hlast0 := last_zero l key W
  have HLZ := Lib.hid hlast0
  clear hlast0
  go_wp2
  go_loopw [15, 55] (fun vis vi wr => ∃ i : Nat, vi = .int .i64 i ∧ i ≤ n ∧ vis = .bool (lastN l key W i).2 ∧ Hid (NBlk wr g2 (lastN l key W i).1) ∧ Below wc.heap.size wc wr) (fun _ vi _ => (n - intOf vi).toNat)
  case atStart => exact ⟨0, rfl, by omega, by rw [HLZ.out], by show NBlk _ _ _; rw [HLZ.out]; exact HG0.out, HBD.out⟩
  case round =>
    clear HG0 HBD
    obtain ⟨i, rfl, hi, rfl, HG, hbr⟩ := hrel
    by_cases hlt : i < n
    · obtain ⟨ad, rfl, hab, hca⟩ := (HNA.out.below hbr).seeN (by rw [HL.out]; omega)
      have hil : i < l.length := by rw [HL.out]; exact hlt
      obtain ⟨c1, c2, c3, c4⟩ := hca i hil
      have hst := last_succ hil key W
      obtain ⟨x, hx⟩ : ∃ x, x = l[i]'hil := ⟨_, rfl⟩
      rw [← hx] at c1 c2 c3 c4 hst
      clear hx hca
      obtain ⟨xk, xe, xv, xn⟩ := x
      simp only at c1 c2 c3 c4 hst
      have hbs := hbr.size
      have hlt3 : (ad.add (i * 4)).block < wc.heap.size := by rw [block_of_add]; exact hab
      obtain ⟨g3, hg3⟩ : ∃ g, g = wr.heap.size := ⟨_, rfl⟩
      obtain ⟨we, hwe⟩ : ∃ we, we = wr.alloc (.cells #[.int .i64 xk, .string xe, .string xv, .int .u64 (xn.toNat : Int)] 32) := ⟨_, rfl⟩
      have hbx : NBlk we g3 ⟨xk, xe, xv, xn⟩ := by rw [hwe]; exact Box.at_ wr _ _ hg3
      have hgx : NBlk we g2 (lastN l key W i).1 := by rw [hwe]; exact HG.out.push _
      have hbe : Below wc.heap.size wc we := by rw [hwe]; exact hbr.alloc hbs _
      have hne : g2 ≠ g3 := by
        have h1 := HG.out.lt
        omega
      obtain ⟨d1, d2, d3, d4⟩ := NBlk.cells hbx
      simp only at d1 d2 d3 d4
      have HBX := Lib.hid hbx
      have HGX := Lib.hid hgx
      have HBE := Lib.hid hbe
      go_upto_region 11 with fail
      rw [← hg3, ← hwe]
      clear hwe hg3 hbx hgx hbe c1 c2 c3 c4 hlt3 hab hbr hbs HG hne
      by_cases hke : xe = key
      · have hz := str_eq hke
        cases W with
        | true =>
          rw [if_pos ⟨hke, rfl⟩] at hst
          have HST := Lib.hid hst
          have f0 := Box.free HGX.out 0
          have f1 := Box.free HGX.out 1
          have f2 := Box.free HGX.out 2
          have f3 := Box.free HGX.out 3
          obtain ⟨k0, k1, k2, k3⟩ := NBlk.cells HGX.out
          clear hst hke
          go_upto_region 13 with fail
          obtain ⟨wf, hwf⟩ : ∃ wf, wf = ((((we.setCell ⟨g2, 0, none⟩ (.int .i64 xk)).setCell ⟨g2, 1, none⟩ (.string xe)).setCell ⟨g2, 2, none⟩ (.string xv)).setCell ⟨g2, 3, none⟩ (.int .u64 (xn.toNat : Int))) := ⟨_, rfl⟩
          have HGF := Lib.hid (show NBlk wf g2 ⟨xk, xe, xv, xn⟩ by rw [hwf]; exact NBlk.put HGX.out ⟨xk, xe, xv, xn⟩)
          have HBF := Lib.hid (show Below wc.heap.size wc wf by rw [hwf]; exact below_put HBE.out (Nat.le_of_eq HG2.out.symm) _ _ _ _)
          rw [← hwf]
          clear hwf f0 f1 f2 f3 k0 k1 k2 k3 d1 d2 d3 d4
          go_wp2
          go_roundw
          case rel => exact ⟨i + 1, by first | rfl | go_num, by omega, by rw [HST.out], by show NBlk _ _ _; rw [HST.out]; exact HGF.out, HBF.out⟩
          case measure => simp [intOf]; omega
        | false =>
          rw [if_neg (by simp)] at hst
          have HST := Lib.hid hst
          clear hst hke
          go_wp2
          go_roundw
          case rel => exact ⟨i + 1, by first | rfl | go_num, by omega, by rw [HST.out], by show NBlk _ _ _; rw [HST.out]; exact HGX.out, HBE.out⟩
          case measure => simp [intOf]; omega
      · have hz := str_ne hke
        rw [if_neg (fun h => hke h.1)] at hst
        have HST := Lib.hid hst
        clear hst hke
        go_wp2
        go_roundw
        case rel => exact ⟨i + 1, by first | rfl | go_num, by omega, by rw [HST.out], by show NBlk _ _ _; rw [HST.out]; exact HGX.out, HBE.out⟩
        case measure => simp [intOf]; omega
    · have hin : i = n := by omega
      have HLF := Lib.hid (show lastN l key W i = (⟨fk, fe, fv, fn⟩, fb) from by rw [hin, ← HL.out]; exact HLAST.out)
      obtain ⟨wr', hwr⟩ : ∃ wx, wx = wr := ⟨_, rfl⟩
      rw [← hwr] at HG hbr ⊢
      have HG' := Lib.hid (show NBlk wr' g2 ⟨fk, fe, fv, fn⟩ from by have h := HG.out; rw [HLF.out] at h; exact h)
      have hfb : (lastN l key W i).2 = fb := by rw [HLF.out]
      rw [hfb]
      clear hfb HG hin hwr HLF
      have HBe := Lib.hid (HBc.out.trans (hbr.mono HBc.out.size))
      have HPe := Lib.hid (HPc.out.on hbr)
      have HXe := Lib.hid (HXc.out.on hbr)
      have HYe := Lib.hid (HYc.out.on hbr)
      have HFe := Lib.hid (HFc.out.on hbr)
      clear hbr HBc HPc HXc HYc HFc
      obtain ⟨w5, hw5⟩ : ∃ wx, wx = wr' := ⟨_, rfl⟩
      rw [← hw5] at HBe HPe HXe HYe HFe HG' ⊢
      clear hw5
      have HB5 := HBe
      have HP5 := HPe
      have HX5 := HXe
      have HY5 := HYe
      have HF5 := HFe
      have HG5 := HG'
      clear HBe HPe HXe HYe HFe HG'
      have hww := HWW.out
      go_wp2_with fail
      refine (CQ.out _ HP5.out).mono ?_
      rintro e w6 ⟨rfl, hb⟩
      have HB6 := Lib.hid (HB5.out.trans (hb.mono HB5.out.size))
      have HP6 := Lib.hid (HP5.out.on hb)
      have HX6 := Lib.hid (HX5.out.on hb)
      have HY6 := Lib.hid (HY5.out.on hb)
      have HF6 := Lib.hid (HF5.out.on hb)
      have HG6 := Lib.hid (HG5.out.on hb)
      clear hb HB5 HP5 HX5 HY5 HF5 HG5
      have ca := dsame_v HX6.out HY6.out (by have := HLL.out; unfold maxLen; omega)
      rw [decide_eq_true rfl] at ca
      go_wp2_with fail
      refine (ca).mono ?_
      clear ca
      rintro e w7 ⟨rfl, hb⟩
      have HB7 := Lib.hid (HB6.out.trans (hb.mono HB6.out.size))
      have HP7 := Lib.hid (HP6.out.on hb)
      have HX7 := Lib.hid (HX6.out.on hb)
      have HY7 := Lib.hid (HY6.out.on hb)
      have HF7 := Lib.hid (HF6.out.on hb)
      have HG7 := Lib.hid (HG6.out.on hb)
      clear hb HB6 HP6 HX6 HY6 HF6 HG6
      obtain ⟨d1, d2, d3, d4⟩ := NBlk.cells HF7.out
      obtain ⟨k0, k1, k2, k3⟩ := NBlk.cells HG7.out
      simp only at d1 d2 d3 d4 k0 k1 k2 k3
      have hee := HEE.out
      have hfb : (fb == fb) = true := by simp
      have hs1 := str_eq (rfl : fe = fe)
      have hs2 := str_eq (rfl : fv = fv)
      have hs3 : (fk == fk) = true := by simp
      have hs4 : ((fn.toNat : Int) == (fn.toNat : Int)) = true := by simp
      go_wp2_with fail
      refine (awake_true _).mono ?_
      rintro e w9 ⟨rfl, hb9⟩
      have HB9 := Lib.hid (HB7.out.trans (hb9.mono HB7.out.size))
      clear hb9
      go_wp2
      go_ret
      exact ⟨rfl, HB9.out⟩

end Go.Proofs.Ytaboccbakicmhaa
