/- The walk of the law PendKeys. -/
import Derived.Test.YtaboccbakicmhaaFct
set_option linter.unusedVariables false
set_option linter.unusedSimpArgs false
namespace Go.Proofs.Ytaboccbakicmhaa
open Go.RowKit

set_option maxHeartbeats 8000000 in
set_option maxRecDepth 100000 in
theorem keys_walk (v : Value) (l : List Nt) (key : ByteArray) (w0 : World) (hP : NV w0 v l) (hn : l.length ≤ maxLen) :
    Calls Try.prog 7 #[v, .string key] w0 fun e w' => e = .returned (.bool true) ∧ Below w0.heap.size w0 w' := by
  have HP0 := Lib.hid hP
  obtain ⟨A, c, rfl, _, _, _⟩ := hP
  have HB0 := Lib.hid (Below.refl w0.heap.size w0)
  obtain ⟨n, hl⟩ : ∃ n, l.length = n := ⟨_, rfl⟩
  rw [hl] at HP0 ⊢
  have HL := Lib.hid hl
  clear hl hn
  go_enter Try.func7, Try.ntmps7
  go_wp2_with fail
  refine (few_v HP0.out).mono ?_
  rintro e w1 ⟨R, rfl, h60, hb⟩
  have HB1 := Lib.hid (HB0.out.trans (hb.mono HB0.out.size))
  have HP1 := Lib.hid (HP0.out.on hb)
  clear hb HB0 HP0
  have H60 := Lib.hid h60
  clear h60
  cases R with
  | false =>
    go_wp2_with fail
    refine (awake_true _).mono ?_
    rintro e w9 ⟨rfl, hb9⟩
    have HB9 := Lib.hid (HB1.out.trans (hb9.mono HB1.out.size))
    clear hb9
    go_wp2
    go_ret
    exact ⟨rfl, HB9.out⟩
  | true =>
  have HL60 := Lib.hid (H60.out rfl)
  clear H60
  by_cases hk : key.size ≤ 300
  case neg =>
    have hd : decide (300 < (key.size : Int)) = true := by simp; omega
    clear hk
    go_wp2_with fail
    refine (awake_true _).mono ?_
    rintro e w9 ⟨rfl, hb9⟩
    have HB9 := Lib.hid (HB1.out.trans (hb9.mono HB1.out.size))
    clear hb9
    go_wp2
    go_ret
    exact ⟨rfl, HB9.out⟩
  have hd : decide (300 < (key.size : Int)) = false := by simp; omega
  clear hk
  obtain ⟨E1, hE1⟩ : ∃ E1, E1 = pushE [] l := ⟨_, rfl⟩
  obtain ⟨X, hX⟩ : ∃ X, X = pushA [] l := ⟨_, rfl⟩
  obtain ⟨F, hF⟩ : ∃ F, F = findA X key := ⟨_, rfl⟩
  have hxl : X.length ≤ 60 := by have h0 := len_pushA [] l; rw [← hX] at h0; have h3 := HL60.out; simp at h0; omega
  have C1 := Lib.hid (fun (wx : World) (h : NV wx (.slice A n c) l) => show Calls Try.prog 11 #[.slice none 0 0, .slice A n c] wx fun e w' => ∃ v', e = .returned (.tuple #[v', .int .i64 E1]) ∧ NV w' v' X ∧ Below wx.heap.size wx w' from by
    have h := ppush_v (NV.nil wx) h (by have h3 := HL60.out; simp; omega)
    rw [← hE1, ← hX] at h; exact h)
  have HEE := Lib.hid (show (E1 = 1 ∧ X = []) ∨ (E1 = 0 ∧ l.all rightN = true ∧ wellN X = true ∧ joinN l key l.length = F) from by
    by_cases h0 : pushE [] l = 0
    · obtain ⟨h1, h2, h3⟩ := push_yes h0
      refine .inr ⟨hE1.trans h0, h2, ?_, ?_⟩
      · rw [hX, h3]; exact well_pushL h1 h2
      · rw [hF, hX, h3]; exact join_all h2 key
    · obtain ⟨h1, h2, h3⟩ := push_no h0
      exact .inl ⟨hE1.trans h2, hX.trans h3⟩)
  obtain ⟨⟨fk, fe, fv, fn⟩, fb⟩ := F
  have CF := Lib.hid (fun (wx : World) (vx : Value) (h : NV wx vx X) => show Calls Try.prog 13 #[vx, .string key] wx fun e w' => e = .returned (.tuple #[.agg #[.int .i64 fk, .string fe, .string fv, .int .u64 (fn.toNat : Int)], .bool fb]) ∧ Below wx.heap.size wx w' from by
    have h1 := pfind_v h key (by omega)
    rw [← hF] at h1; exact h1)
  have CQ := Lib.hid (fun (hw : wellN X = true) (wx : World) (vx : Value) (h : NV wx vx X) => show Calls Try.prog 15 #[vx] wx fun e w' => e = .returned (.bool true) ∧ Below wx.heap.size wx w' from by
    have h1 := pright_v h (by unfold maxLen; omega)
    rw [hw] at h1; exact h1)
  clear hE1 hX hF hxl
  go_wp2_with fail
  refine (C1.out _ HP1.out).mono ?_
  clear C1
  rintro e w2 ⟨va, rfl, hx, hb⟩
  have HX2 := Lib.hid hx
  clear hx
  have HB2 := Lib.hid (HB1.out.trans (hb.mono HB1.out.size))
  have HP2 := Lib.hid (HP1.out.on hb)
  clear hb HB1 HP1
  rcases HEE.out with ⟨hE, hXX⟩ | ⟨hE, hr, hwx, hjn⟩
  · subst hE
    have hx0 := HX2.out
    rw [hXX] at hx0
    obtain ⟨B1, d1, rfl⟩ := hx0.shape
    clear hXX hx0
    go_wp2_with fail
    refine (awake_true _).mono ?_
    rintro e w9 ⟨rfl, hb9⟩
    have HB9 := Lib.hid (HB2.out.trans (hb9.mono HB2.out.size))
    clear hb9
    go_wp2
    go_ret
    exact ⟨rfl, HB9.out⟩
  subst hE
  have HWX := Lib.hid hwx
  have HJN := Lib.hid hjn
  clear hr hwx hjn HEE
  go_wp2_with fail
  refine (CF.out _ _ HX2.out).mono ?_
  clear CF
  rintro e w3 ⟨rfl, hb⟩
  have HB3 := Lib.hid (HB2.out.trans (hb.mono HB2.out.size))
  have HP3 := Lib.hid (HP2.out.on hb)
  have HX3 := Lib.hid (HX2.out.on hb)
  clear hb HB2 HP2 HX2
  go_upto_region 7 with fail
  obtain ⟨g1, hg1⟩ : ∃ g, g = w3.heap.size := ⟨_, rfl⟩
  obtain ⟨wb, hwb⟩ : ∃ wb, wb = w3.alloc (.cells #[.int .i64 fk, .string fe, .string fv, .int .u64 (fn.toNat : Int)] 32) := ⟨_, rfl⟩
  have HFb := Lib.hid (show NBlk wb g1 ⟨fk, fe, fv, fn⟩ by rw [hwb]; exact Box.at_ w3 _ _ hg1)
  have hb : Below w3.heap.size w3 wb := by rw [hwb]; exact (Below.refl _ _).alloc (Nat.le_refl _) _
  rw [← hg1, ← hwb]
  clear hg1 hwb
  have HBb := Lib.hid (HB3.out.trans (hb.mono HB3.out.size))
  have HPb := Lib.hid (HP3.out.on hb)
  have HXb := Lib.hid (HX3.out.on hb)
  clear hb HB3 HP3 HX3
  go_upto_region 8 with fail
  obtain ⟨g2, hg2⟩ : ∃ g, g = wb.heap.size := ⟨_, rfl⟩
  obtain ⟨wd, hwd⟩ : ∃ wd, wd = wb.alloc (.cells #[.int .i64 0, .string noB, .string noB, .int .u64 0] 32) := ⟨_, rfl⟩
  have HG0 := Lib.hid (show NBlk wd g2 nt0 by rw [hwd]; exact Box.at_ wb _ _ hg2)
  have hbd : Below wb.heap.size wb wd := by rw [hwd]; exact (Below.refl _ _).alloc (Nat.le_refl _) _
  have HG2 := Lib.hid hg2
  have HBD := Lib.hid hbd
  rw [← hg2, ← hwd]
  clear hg2 hwd hbd
  have HNA := Lib.hid (HPb.out.see)
  have hl60 : n ≤ 60 := by have := HL60.out; have := HL.out; omega
  have hlast0 := join_zero l key
  have HLZ := Lib.hid hlast0
  clear hlast0
  go_wp2
  go_loopw [10, 44] (fun vis vi wr => ∃ i : Nat, vi = .int .i64 i ∧ i ≤ n ∧ vis = .bool (joinN l key i).2 ∧ Hid (NBlk wr g2 (joinN l key i).1) ∧ Below wb.heap.size wb wr) (fun _ vi _ => (n - intOf vi).toNat)
  case atStart => exact ⟨0, rfl, by omega, by rw [HLZ.out], by show NBlk _ _ _; rw [HLZ.out]; exact HG0.out, HBD.out⟩
  case round =>
    clear HG0 HBD
    obtain ⟨i, rfl, hi, rfl, HG, hbr⟩ := hrel
    by_cases hlt : i < n
    · obtain ⟨ad, rfl, hab, hca⟩ := (HNA.out.below hbr).seeN (by rw [HL.out]; omega)
      have hil : i < l.length := by rw [HL.out]; exact hlt
      obtain ⟨c1, c2, c3, c4⟩ := hca i hil
      have hst := join_succ hil key
      obtain ⟨x, hx⟩ : ∃ x, x = l[i]'hil := ⟨_, rfl⟩
      rw [← hx] at c1 c2 c3 c4 hst
      clear hx hca
      obtain ⟨xk, xe, xv, xn⟩ := x
      simp only at c1 c2 c3 c4 hst
      have hbs := hbr.size
      have hlt3 : (ad.add (i * 4)).block < wb.heap.size := by rw [block_of_add]; exact hab
      obtain ⟨J, hJ⟩ : ∃ J, J = joinN l key i := ⟨_, rfl⟩
      have hgj := HG.out
      rw [← hJ] at hst hgj ⊢
      obtain ⟨⟨jk, je, jv, jn⟩, jb⟩ := J
      simp only at hst hgj ⊢
      have HJ := Lib.hid hJ
      obtain ⟨g3, hg3⟩ : ∃ g, g = wr.heap.size := ⟨_, rfl⟩
      obtain ⟨we, hwe⟩ : ∃ we, we = wr.alloc (.cells #[.int .i64 xk, .string xe, .string xv, .int .u64 (xn.toNat : Int)] 32) := ⟨_, rfl⟩
      have hbx : NBlk we g3 ⟨xk, xe, xv, xn⟩ := by rw [hwe]; exact Box.at_ wr _ _ hg3
      have hgx : NBlk we g2 ⟨jk, je, jv, jn⟩ := by rw [hwe]; exact hgj.push _
      have hbe : Below wb.heap.size wb we := by rw [hwe]; exact hbr.alloc hbs _
      have HNE := Lib.hid (show g2 ≠ g3 by
        have h1 := hgj.lt
        omega)
      have HG3 := Lib.hid (show wb.heap.size ≤ g3 by rw [hg3]; exact hbs)
      obtain ⟨d1, d2, d3, d4⟩ := NBlk.cells hbx
      simp only at d1 d2 d3 d4
      have HBX := Lib.hid hbx
      have HGX := Lib.hid hgx
      have HBE := Lib.hid hbe
      go_upto_region 11 with fail
      rw [← hg3, ← hwe]
      clear hwe hg3 hbx hgx hbe c1 c2 c3 c4 hlt3 hab hbr hbs HG hgj hJ
      by_cases hke : xe = key
      · have hz := str_eq hke
        rw [if_pos hke] at hst
        clear hke
        cases jb with
        | false =>
          have HST := Lib.hid (show joinN l key (i + 1) = (⟨xk, xe, xv, xn⟩, true) from hst)
          clear hst
          have f0 := Box.free HGX.out 0
          have f1 := Box.free HGX.out 1
          have f2 := Box.free HGX.out 2
          have f3 := Box.free HGX.out 3
          obtain ⟨k0, k1, k2, k3⟩ := NBlk.cells HGX.out
          go_upto_region 15 with fail
          obtain ⟨wf, hwf⟩ : ∃ wf, wf = ((((we.setCell ⟨g2, 0, none⟩ (.int .i64 xk)).setCell ⟨g2, 1, none⟩ (.string xe)).setCell ⟨g2, 2, none⟩ (.string xv)).setCell ⟨g2, 3, none⟩ (.int .u64 (xn.toNat : Int))) := ⟨_, rfl⟩
          have HGF := Lib.hid (show NBlk wf g2 ⟨xk, xe, xv, xn⟩ by rw [hwf]; exact NBlk.put HGX.out ⟨xk, xe, xv, xn⟩)
          have HBF := Lib.hid (show Below wb.heap.size wb wf by rw [hwf]; exact below_put HBE.out (Nat.le_of_eq HG2.out.symm) _ _ _ _)
          rw [← hwf]
          clear hwf f0 f1 f2 f3 k0 k1 k2 k3 d1 d2 d3 d4
          go_wp2
          go_roundw
          case rel => exact ⟨i + 1, by first | rfl | go_num, by omega, by rw [HST.out], by show NBlk _ _ _; rw [HST.out]; exact HGF.out, HBF.out⟩
          case measure => simp [intOf]; omega
        | true =>
          obtain ⟨b, hb⟩ : ∃ b, b = bothN ⟨jk, je, jv, jn⟩ ⟨xk, xe, xv, xn⟩ := ⟨_, rfl⟩
          have hst2 : joinN l key (i + 1) = (b, true) := by rw [hst, hb]; rfl
          have hboth := dboth_any jk je jv jn xk xe xv xn we
          rw [← hb] at hboth
          clear hb hst
          obtain ⟨bk, be, bv, bn⟩ := b
          unfold Nt.v at hboth
          simp only at hboth
          have HST := Lib.hid hst2
          obtain ⟨k0, k1, k2, k3⟩ := NBlk.cells HGX.out
          simp only at k0 k1 k2 k3
          clear hst2
          go_wp2_with fail
          refine hboth.mono ?_
          clear hboth k0 k1 k2 k3 d1 d2 d3 d4
          rintro e wf ⟨rfl, hbf⟩
          have hbx := HBX.out.on hbf
          have hgx := HGX.out.on hbf
          have HBF := Lib.hid (HBE.out.trans (hbf.mono HBE.out.size))
          have f0 := Box.free hbx 0
          have f1 := Box.free hbx 1
          have f2 := Box.free hbx 2
          have f3 := Box.free hbx 3
          obtain ⟨k0, k1, k2, k3⟩ := NBlk.cells hbx
          have HX3 := Lib.hid hbx
          have HG3' := Lib.hid hgx
          clear hbf hbx hgx HBX HGX HBE
          go_upto_region 14 with fail
          obtain ⟨wg, hwg⟩ : ∃ wg, wg = ((((wf.setCell ⟨g3, 0, none⟩ (.int .i64 bk)).setCell ⟨g3, 1, none⟩ (.string be)).setCell ⟨g3, 2, none⟩ (.string bv)).setCell ⟨g3, 3, none⟩ (.int .u64 (bn.toNat : Int))) := ⟨_, rfl⟩
          have hbx : NBlk wg g3 ⟨bk, be, bv, bn⟩ := by rw [hwg]; exact NBlk.put HX3.out ⟨bk, be, bv, bn⟩
          have hgx : NBlk wg g2 ⟨jk, je, jv, jn⟩ := by rw [hwg]; exact NBlk.away4 HG3'.out HNE.out _ _ _ _
          have HBG := Lib.hid (show Below wb.heap.size wb wg by rw [hwg]; exact below_put HBF.out HG3.out _ _ _ _)
          rw [← hwg]
          clear hwg f0 f1 f2 f3 k0 k1 k2 k3 HX3 HG3' HBF
          obtain ⟨d1, d2, d3, d4⟩ := NBlk.cells hbx
          simp only at d1 d2 d3 d4
          have f0 := Box.free hgx 0
          have f1 := Box.free hgx 1
          have f2 := Box.free hgx 2
          have f3 := Box.free hgx 3
          obtain ⟨k0, k1, k2, k3⟩ := NBlk.cells hgx
          have HGX := Lib.hid hgx
          clear hgx hbx
          go_upto_region 15 with fail
          obtain ⟨wh, hwh⟩ : ∃ wh, wh = ((((wg.setCell ⟨g2, 0, none⟩ (.int .i64 bk)).setCell ⟨g2, 1, none⟩ (.string be)).setCell ⟨g2, 2, none⟩ (.string bv)).setCell ⟨g2, 3, none⟩ (.int .u64 (bn.toNat : Int))) := ⟨_, rfl⟩
          have HGH := Lib.hid (show NBlk wh g2 ⟨bk, be, bv, bn⟩ by rw [hwh]; exact NBlk.put HGX.out ⟨bk, be, bv, bn⟩)
          have HBH := Lib.hid (show Below wb.heap.size wb wh by rw [hwh]; exact below_put HBG.out (Nat.le_of_eq HG2.out.symm) _ _ _ _)
          rw [← hwh]
          clear hwh f0 f1 f2 f3 k0 k1 k2 k3 d1 d2 d3 d4 HBG HGX
          go_wp2
          go_roundw
          case rel => exact ⟨i + 1, by first | rfl | go_num, by omega, by rw [HST.out], by show NBlk _ _ _; rw [HST.out]; exact HGH.out, HBH.out⟩
          case measure => simp [intOf]; omega
      · have hz := str_ne hke
        rw [if_neg hke] at hst
        have HST := Lib.hid hst
        clear hst hke
        go_wp2
        go_roundw
        case rel => exact ⟨i + 1, by first | rfl | go_num, by omega, by rw [HST.out], by show NBlk _ _ _; rw [HST.out]; exact HGX.out, HBE.out⟩
        case measure => simp [intOf]; omega
    · have hin : i = n := by omega
      have HLF := Lib.hid (show joinN l key i = (⟨fk, fe, fv, fn⟩, fb) from by rw [hin, ← HL.out]; exact HJN.out)
      obtain ⟨w5, hw5⟩ : ∃ wx, wx = wr := ⟨_, rfl⟩
      rw [← hw5] at HG hbr ⊢
      have HG5 := Lib.hid (show NBlk w5 g2 ⟨fk, fe, fv, fn⟩ from by have h := HG.out; rw [HLF.out] at h; exact h)
      have hfb : (joinN l key i).2 = fb := by rw [HLF.out]
      rw [hfb]
      clear hfb HG hin hw5 HLF
      have HB5 := Lib.hid (HBb.out.trans (hbr.mono HBb.out.size))
      have HP5 := Lib.hid (HPb.out.on hbr)
      have HX5 := Lib.hid (HXb.out.on hbr)
      have HF5 := Lib.hid (HFb.out.on hbr)
      clear hbr HBb HPb HXb HFb
      have hfb : (fb == fb) = true := by simp
      obtain ⟨d1, d2, d3, d4⟩ := NBlk.cells HF5.out
      obtain ⟨k0, k1, k2, k3⟩ := NBlk.cells HG5.out
      simp only at d1 d2 d3 d4 k0 k1 k2 k3
      have hs1 := str_eq (rfl : fe = fe)
      have hs2 := str_eq (rfl : fv = fv)
      have hs3 : (fk == fk) = true := by simp
      have hs4 : ((fn.toNat : Int) == (fn.toNat : Int)) = true := by simp
      go_wp2_with fail
      refine (CQ.out HWX.out _ _ HX5.out).mono ?_
      clear d1 d2 d3 d4 k0 k1 k2 k3
      rintro e w6 ⟨rfl, hb⟩
      have HB6 := Lib.hid (HB5.out.trans (hb.mono HB5.out.size))
      have HP6 := Lib.hid (HP5.out.on hb)
      have HX6 := Lib.hid (HX5.out.on hb)
      have HF6 := Lib.hid (HF5.out.on hb)
      have HG6 := Lib.hid (HG5.out.on hb)
      clear hb HB5 HP5 HX5 HF5 HG5
      go_wp2_with fail
      refine (awake_true _).mono ?_
      rintro e w9 ⟨rfl, hb9⟩
      have HB9 := Lib.hid (HB6.out.trans (hb9.mono HB6.out.size))
      clear hb9
      go_wp2
      go_ret
      exact ⟨rfl, HB9.out⟩

end Go.Proofs.Ytaboccbakicmhaa
