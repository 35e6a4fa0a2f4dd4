/- The walk of the law TreeApart. -/
import Derived.Test.YteddjmkoleclpaaFT
set_option linter.unusedVariables false
set_option linter.unusedSimpArgs false
namespace Go.Proofs.Yteddjmkoleclpaa
open Go.RowKit Go.Sort

def ApartV (tv uv rv : Value) (P : List Pr) (t : Nat) (v : Value) (w : World) : Prop :=
  match t with
  | 81 => v = .int .i64 0
  | 82 => v = .bool true
  | 83 => v = .bool true
  | 84 => v = .int .i64 0
  | 85 => v = .bool true
  | 86 => v = .bool true
  | 87 => v = .bool true
  | 88 => v = tv
  | 89 => v = rv
  | 90 => PV w v P
  | 91 => v = uv
  | 92 => v = rv
  | 93 => PV w v P
  | 94 => v = .bool true
  | 95 => v = .bool true
  | 96 => v = .bool true
  | 97 => v = .bool true
  | 98 => v = .bool true
  | 4 => v = .bool true
  | _ => True
theorem ApartV.on {tv uv rv : Value} {P : List Pr} {t : Nat} {v : Value} {w w' : World} (h : ApartV tv uv rv P t v w) (hb : Below w.heap.size w w') : ApartV tv uv rv P t v w' := by
  unfold ApartV at *
  split at h <;> first | exact h | exact PV.on h hb

set_option maxHeartbeats 8000000 in
set_option maxRecDepth 100000 in
theorem apart_walk (v1 : Value) (l : List Nt) (d : Nat) (w0 : World) (hA : NV w0 v1 l) (hl : l.length ≤ maxLen) (hd : d ≤ 255) :
    Calls Try.prog 8 #[v1, .int .u8 (d : Int)] w0 fun e w' => e = .returned (.bool true) ∧ Below w0.heap.size w0 w' := by
  have HA0 := Lib.hid hA
  have HB0 := Lib.hid (Below.refl w0.heap.size w0)
  obtain ⟨A, ca, rfl, _, _, _⟩ := hA
  obtain ⟨nl, hla⟩ : ∃ n, n = l.length := ⟨_, rfl⟩
  rw [← hla] at HA0 ⊢
  have HLA := Lib.hid hla
  have HLM := Lib.hid hl
  clear hl hla
  go_enter Try.func8, Try.ntmps8
  have hc := dfew_v HA0.out 60 HLM.out
  rw [← HLA.out] at hc
  go_wp2_with fail
  refine hc.mono ?_
  clear hc
  rintro e w1 ⟨R, rfl, hR, hb⟩
  have HR := Lib.hid hR
  clear hR
  have HB1 := Lib.hid (HB0.out.trans (hb.mono HB0.out.size))
  have HA1 := Lib.hid (HA0.out.on hb)
  clear hb HB0 HA0 
  cases R with
  | false =>
    go_wp2_with fail
    refine (awake_true _).mono ?_
    rintro e w9 ⟨rfl, hb9⟩
    have HB9 := Lib.hid (HB1.out.trans (hb9.mono HB1.out.size))
    clear hb9
    go_wp2
    go_ret
    exact ⟨rfl, HB9.out⟩
  | true =>
  have hl60 : nl ≤ 60 := HR.out rfl
  clear HR
  have hc := dall_any A ca l w1 HA1.out.see.1 HLM.out
  rw [← HLA.out] at hc
  cases hall : l.all rightN with
  | false =>
    rw [hall] at hc
    go_wp2_with fail
    refine hc.mono ?_
    clear hc
    rintro e w2 ⟨rfl, hb⟩
    have HB2 := Lib.hid (HB1.out.trans (hb.mono HB1.out.size))
    clear hb
    go_wp2_with fail
    refine (awake_true _).mono ?_
    rintro e w9 ⟨rfl, hb9⟩
    have HB9 := Lib.hid (HB2.out.trans (hb9.mono HB2.out.size))
    clear hb9
    go_wp2
    go_ret
    exact ⟨rfl, HB9.out⟩
  | true =>
  rw [hall] at hc
  have HALL := Lib.hid hall
  have HL60 := Lib.hid hl60
  clear hall hl60
  go_wp2_with fail
  refine hc.mono ?_
  clear hc
  rintro e w2 ⟨rfl, hb⟩
  have HB2 := Lib.hid (HB1.out.trans (hb.mono HB1.out.size))
  have HA2 := Lib.hid (HA1.out.on hb)
  clear hb HB1 HA1 
  by_cases hn0 : nl = 0
  · have hd0 : decide ((nl : Int) = 0) = true := by simp; omega
    have hd0' : ((nl : Int) == 0) = true := by simp; omega
    go_wp2_with fail
    refine (awake_true _).mono ?_
    rintro e w9 ⟨rfl, hb9⟩
    have HB9 := Lib.hid (HB2.out.trans (hb9.mono HB2.out.size))
    clear hb9
    go_wp2
    go_ret
    exact ⟨rfl, HB9.out⟩
  have hd0 : decide ((nl : Int) = 0) = false := by simp; omega
  have hd0' : ((nl : Int) == 0) = false := by simp; omega
  have hpos : 0 < nl := by omega
  obtain ⟨ws, hws⟩ : ∃ wz, wz = w2 := ⟨_, rfl⟩
  go_wp2
  rw [← hws] at HB2 HA2 ⊢
  clear hws
  go_loopw [5, 30] (fun va vi wr => ∃ i : Nat, vi = .int .i64 i ∧ i ≤ nl ∧ Hid (wr.ownsRow ws.heap.size 52 4 va i (((turnN l d).take i).flatMap Nt.cells)) ∧ Hid (Unlike (l.take i)) ∧ Below ws.heap.size ws wr) (fun _ vi _ => (nl - intOf vi).toNat)
  case atStart => exact ⟨0, rfl, by omega, World.ownsRow_nil _ _ _ _, List.Pairwise.nil, Below.refl _ _⟩
  case round =>
    obtain ⟨i, rfl, hin, HO, HU, hbr⟩ := hrel
    by_cases hlt : i < nl
    · have hil : i < l.length := by rw [← HLA.out]; exact hlt
      have hcap := HA2.out.see.2.2.1
      rw [← HLA.out] at hcap
      obtain ⟨ad, rfl, hab, hca⟩ := HA2.out.see.1.seeN (by omega)
      have HCA := Lib.hid (fun (wx : World) (hb : Below ws.heap.size ws wx) (j : Nat) (hj : j < l.length) => show wx.cell? (ad.add (j * 4)) = some (.int .i64 l[j].kind) ∧ wx.cell? ⟨(ad.add (j * 4)).block, (ad.add (j * 4)).off + 1, none⟩ = some (.string l[j].key) ∧ wx.cell? ⟨(ad.add (j * 4)).block, (ad.add (j * 4)).off + 2, none⟩ = some (.string l[j].value) ∧ wx.cell? ⟨(ad.add (j * 4)).block, (ad.add (j * 4)).off + 3, none⟩ = some (.int .u64 (l[j].n.toNat : Int)) from by
        obtain ⟨c0, c1, c2, c3⟩ := hca j hj
        exact ⟨(hb.cell (lt_of_cell c0)).trans c0, (hb.cell (lt_of_cell c1)).trans c1, (hb.cell (lt_of_cell c2)).trans c2, (hb.cell (lt_of_cell c3)).trans c3⟩)
      have HBR := Lib.hid hbr
      have HIL := Lib.hid hil
      have hic : i ≤ ca := by omega
      have hln := HL60.out
      have hdl : decide ((i : Int) < (nl : Int)) = true := by simp; omega
      obtain ⟨K, hK⟩ : ∃ K, K = (l[i]'hil).key := ⟨_, rfl⟩
      have HK := Lib.hid hK
      obtain ⟨wi, hwi⟩ : ∃ wz, wz = wr := ⟨_, rfl⟩
      clear hca hbr hK
      go_wp2
      rw [← hwi] at HO HBR ⊢
      clear hwi
      go_loopw [37] (fun vj wr => ∃ j : Nat, vj = .int .i64 j ∧ j ≤ i ∧ Hid (∀ x ∈ l.take j, x.key ≠ K) ∧ Below wi.heap.size wi wr) (fun vj _ => (i - intOf vj).toNat)
      case atStart => exact ⟨0, rfl, by omega, Lib.hid (fun x hx => by rw [List.take_zero] at hx; cases hx), Below.refl _ _⟩
      case round =>
        obtain ⟨j, rfl, hji, HJ, hbj⟩ := hrel
        by_cases hlj : j < i
        · have hjl : j < l.length := by have := HIL.out; omega
          have hbs := HBR.out.trans (hbj.mono HBR.out.size)
          obtain ⟨c0, c1, c2, c3⟩ := HCA.out wr hbs j hjl
          obtain ⟨_, e1, _, _⟩ := HCA.out wr hbs i HIL.out
          rw [← HK.out] at e1
          obtain ⟨x, hx⟩ : ∃ x, x = l[j]'hjl := ⟨_, rfl⟩
          have HX := Lib.hid hx
          rw [← hx] at c0 c1 c2 c3
          clear hx
          obtain ⟨xk, xe, xv, xn⟩ := x
          simp only at c0 c1 c2 c3
          have HBS := Lib.hid hbs
          have HBJ := Lib.hid hbj
          obtain ⟨w5, hw5⟩ : ∃ wz, wz = wr.alloc (.cells #[.int .i64 xk, .string xe, .string xv, .int .u64 (xn.toNat : Int)] 52) := ⟨_, rfl⟩
          obtain ⟨g5, hg5⟩ : ∃ gz, gz = wr.heap.size := ⟨_, rfl⟩
          have hb5 : Below wr.heap.size wr w5 := by rw [hw5]; exact (Below.refl _ _).alloc (Nat.le_refl _) _
          have HX5 := Lib.hid (show NBlk w5 g5 ⟨xk, xe, xv, xn⟩ from by rw [hw5]; exact NBlk.fresh wr ⟨xk, xe, xv, xn⟩ hg5)
          have HB5 := Lib.hid (hbj.trans (hb5.mono hbj.size))
          replace e1 := (hb5.cell (lt_of_cell e1)).trans e1
          go_upto_region 10 with fail
          rw [← hg5, ← hw5]
          clear hg5 hw5 hb5 hbs hbj c0 c1 c2 c3
          obtain ⟨d0, d1, d2, d3⟩ := NBlk.cells HX5.out
          simp only at d0 d1 d2 d3
          have HJI := Lib.hid hlj
          have hji2 : j < i := hlj
          by_cases hke : xe = K
          · have hzz : (xe.toList == K.toList) = true := str_eq hke
            clear hke
            go_quiet (fail)
            go_wp2_with fail
            refine (awake_true _).mono ?_
            rintro e w9 ⟨rfl, hb9⟩
            have HB10 := Lib.hid (HB2.out.trans ((HBR.out.trans (((below_drewN HB5.out _).trans (hb9.mono (below_drewN HB5.out _).size)).mono HBR.out.size)).mono HB2.out.size))
            clear hb9
            go_wp2
            go_ret
            exact ⟨rfl, HB10.out⟩
          · have hzz : (xe.toList == K.toList) = false := str_ne hke
            have HJ2 := Lib.hid (show ∀ y ∈ l.take (j + 1), y.key ≠ K from fun y hy => by
              rw [List.take_succ_eq_append_getElem hjl] at hy
              rcases List.mem_append.1 hy with hy | hy
              · exact HJ.out y hy
              · rw [List.mem_singleton.1 hy, ← HX.out]; exact hke)
            clear hke HX
            go_quiet (fail)
            go_wp2
            go_roundw
            case rel => exact ⟨j + 1, by first | rfl | go_num, by have := HJI.out; omega, HJ2, below_drewN HB5.out _⟩
            case measure => have := HJI.out; simp [intOf]; omega
        · have hj2 : j = i := by omega
          subst hj2
          have HUN := Lib.hid (show Unlike (l.take (j + 1)) from HU.out.snoc HIL.out fun x hx => by rw [← HK.out]; exact HJ.out x hx)
          obtain ⟨m, hm⟩ : ∃ m, m = (nl - j + d) % nl := ⟨_, rfl⟩
          have hmn : m < nl := by rw [hm]; exact Nat.mod_lt _ hpos
          have hml : m < l.length := by rw [← HLA.out]; exact hmn
          have HTT := Lib.hid (turnN_take (d := d) HIL.out (by rw [← HLA.out]; exact hm) hml)
          have hbs := HBR.out.trans (hbj.mono HBR.out.size)
          obtain ⟨c0, c1, c2, c3⟩ := HCA.out wr hbs m hml
          obtain ⟨x, hx⟩ : ∃ x, x = l[m]'hml := ⟨_, rfl⟩
          rw [← hx] at c0 c1 c2 c3 HTT
          clear hx
          obtain ⟨xk, xe, xv, xn⟩ := x
          simp only at c0 c1 c2 c3
          have hrem : ((nl : Int) - (j : Int) + (d : Int)).tmod (nl : Int) = (m : Int) := by
            have e : ((nl : Int) - (j : Int) + (d : Int)) = ((nl - j + d : Nat) : Int) := by omega
            rw [e, hm]
            rfl
          have hown := own_below HO.out hbj
          have HBS := Lib.hid hbs
          have hbz := hbs.size
          generalize hxs : ((turnN l d).take j).flatMap Nt.cells = xs at *
          have HXS := Lib.hid hxs
          clear hxs hm hbj
          go_wp2_with (at_builtin; refine append_nts _ rfl _ _ rfl ws.heap.size _ j xs rfl (hown.alloc _) (wr.heap.size + 1) (some ⟨wr.heap.size, 0, none⟩) 1 1 [⟨xk, xe, xv, xn⟩] rfl rfl ?cz (fun h => by cases h) ?cn ?cb ?_)
          case cz => exact (Lies.lit Nt.cells4 rfl)
          case cn => omega
          case cb => simp; omega
          intro v7 w7 hown7 hg7
          have hb7 : Below ws.heap.size ws w7 := (hbs.alloc hbs.size _).grown hg7 (by simp; omega) (fun g hk => (own_lt hown hk).1)
          have HO7 := Lib.hid (show w7.ownsRow ws.heap.size 52 4 v7 (j + 1) (((turnN l d).take (j + 1)).flatMap Nt.cells) from by
            rw [HTT.out, List.flatMap_append, HXS.out]; exact hown7)
          have HB7 := Lib.hid hb7
          clear hown hown7 hg7 hb7 hbs hbz c0 c1 c2 c3 hrem HO HU HJ
          go_wp2
          go_roundw
          case rel => exact ⟨j + 1, by first | rfl | go_num, by omega, HO7, HUN, HB7.out⟩
          case measure => simp [intOf]; omega
    · skip
      have hdl : decide ((i : Int) < (nl : Int)) = false := by simp; omega
      have HQr := Lib.hid (show NV wr u5 (turnN l d) from by
        have h := HO.out
        rw [List.take_of_length_le (by rw [turnN_len, ← HLA.out]; omega)] at h
        exact NV.own h (by rw [turnN_len, ← HLA.out]; omega))
      have HUL := Lib.hid (show Unlike l from by have h := HU.out; rw [List.take_of_length_le (by rw [← HLA.out]; omega)] at h; exact h)
      have HBr := Lib.hid (HB2.out.trans (hbr.mono HB2.out.size))
      have HAr := Lib.hid (HA2.out.on hbr)
      obtain ⟨P, hP⟩ : ∃ P, P = foldOne [] l := ⟨_, rfl⟩
      have HPT := Lib.hid (show foldOne [] (turnN l d) = P from by rw [hP]; exact turnN_fold HUL.out d)
      have hc := tapply_any _ _ [] l 0 0 wr (tree_none wr) HAr.out (by rw [← HLA.out]; have := HL60.out; omega)
      rw [(right_app HALL.out []).1, (right_app HALL.out []).2, ← hP] at hc
      clear hbr HO HU HB2 HA2 hP
      go_wp2_with fail
      refine (hc).mono ?_
      clear  hc
      rintro e w3 ⟨v3, rfl, ht, hb⟩
      have HT3 := Lib.hid ht
      clear ht
      have HB3 := Lib.hid (HBr.out.trans (hb.mono HBr.out.size))
      have HA3 := Lib.hid (HAr.out.on hb)
      have HQ3 := Lib.hid (HQr.out.on hb)
      clear hb HBr HAr HQr 
      obtain ⟨lo1, ka1, kn1, kc1, na1, nn1, nc1, pa1, pn1, pc1, rfl⟩ := tree_shape HT3.out
      obtain ⟨w4, hw2⟩ : ∃ wz, wz = w3.alloc (.cells #[.string lo1, .slice ka1 kn1 kc1, .slice na1 nn1 nc1, .slice pa1 pn1 pc1] 32) := ⟨_, rfl⟩
      obtain ⟨g1, hg2⟩ : ∃ gz, gz = w3.heap.size := ⟨_, rfl⟩
      have hb2 : Below w3.heap.size w3 w4 := by rw [hw2]; exact (Below.refl _ _).alloc (Nat.le_refl _) _
      have BX4 := Lib.hid (show TBox w4 g1 ⟨lo1, ⟨ka1, kn1, kc1⟩, ⟨na1, nn1, nc1⟩, ⟨pa1, pn1, pc1⟩⟩ from by rw [hw2]; exact Box.at_ w3 _ _ hg2)
      have HB4 := Lib.hid (HB3.out.trans (hb2.mono HB3.out.size))
      have HA4 := Lib.hid (HA3.out.on hb2)
      have HQ4 := Lib.hid (HQ3.out.on hb2)
      have HT4 := Lib.hid (HT3.out.on hb2)
      clear hb2 HB3 HA3 HQ3 HT3 
      go_upto_region 16 with fail
      rw [← hg2, ← hw2]
      clear hg2 hw2
      clear HA4
      have hc := tapply_any _ _ [] (turnN l d) 0 0 w4 (tree_none w4) HQ4.out (by rw [turnN_len, ← HLA.out]; have := HL60.out; omega)
      rw [(right_app (turnN_right HALL.out d) []).1, (right_app (turnN_right HALL.out d) []).2, HPT.out] at hc
      go_wp2_with fail
      refine (hc).mono ?_
      clear  hc
      rintro e w5 ⟨v5, rfl, ht, hb⟩
      have HU5 := Lib.hid ht
      clear ht
      have HB5 := Lib.hid (HB4.out.trans (hb.mono HB4.out.size))
      have HQ5 := Lib.hid (HQ4.out.on hb)
      have HT5 := Lib.hid (HT4.out.on hb)
      have BX5 := Lib.hid (show TBox w5 g1 ⟨lo1, ⟨ka1, kn1, kc1⟩, ⟨na1, nn1, nc1⟩, ⟨pa1, pn1, pc1⟩⟩ from BX4.out.on hb)
      clear hb HB4 HQ4 HT4 BX4 
      clear HQ5
      obtain ⟨lo2, ka2, kn2, kc2, na2, nn2, nc2, pa2, pn2, pc2, rfl⟩ := tree_shape HU5.out
      obtain ⟨w6, hw2⟩ : ∃ wz, wz = w5.alloc (.cells #[.string lo2, .slice ka2 kn2 kc2, .slice na2 nn2 nc2, .slice pa2 pn2 pc2] 32) := ⟨_, rfl⟩
      obtain ⟨g2, hg2⟩ : ∃ gz, gz = w5.heap.size := ⟨_, rfl⟩
      have hb2 : Below w5.heap.size w5 w6 := by rw [hw2]; exact (Below.refl _ _).alloc (Nat.le_refl _) _
      have BY6 := Lib.hid (show TBox w6 g2 ⟨lo2, ⟨ka2, kn2, kc2⟩, ⟨na2, nn2, nc2⟩, ⟨pa2, pn2, pc2⟩⟩ from by rw [hw2]; exact Box.at_ w5 _ _ hg2)
      have HB6 := Lib.hid (HB5.out.trans (hb2.mono HB5.out.size))
      have HT6 := Lib.hid (HT5.out.on hb2)
      have BX6 := Lib.hid (show TBox w6 g1 ⟨lo1, ⟨ka1, kn1, kc1⟩, ⟨na1, nn1, nc1⟩, ⟨pa1, pn1, pc1⟩⟩ from BX5.out.on hb2)
      have HU6 := Lib.hid (HU5.out.on hb2)
      clear hb2 HB5 HT5 BX5 HU5 
      go_upto_region 17 with fail
      rw [← hg2, ← hw2]
      clear hg2 hw2
      obtain ⟨w7, hw7⟩ : ∃ wz, wz = w6.alloc (.cells #[.string noB, .string noB, .bool true] 24) := ⟨_, rfl⟩
      obtain ⟨g7, hg7⟩ : ∃ gz, gz = w6.heap.size := ⟨_, rfl⟩
      have hb7 : Below w6.heap.size w6 w7 := by rw [hw7]; exact (Below.refl _ _).alloc (Nat.le_refl _) _
      have HR7 := Lib.hid (show RBlk w7 g7 ⟨noB, noB, true⟩ from by rw [hw7]; exact Box.at_ w6 _ _ hg7)
      have HB7 := Lib.hid (HB6.out.trans (hb7.mono HB6.out.size))
      have HT7 := Lib.hid (HT6.out.on hb7)
      have BX7 := Lib.hid (show TBox w7 g1 ⟨lo1, ⟨ka1, kn1, kc1⟩, ⟨na1, nn1, nc1⟩, ⟨pa1, pn1, pc1⟩⟩ from BX6.out.on hb7)
      have HU7 := Lib.hid (HU6.out.on hb7)
      have BY7 := Lib.hid (show TBox w7 g2 ⟨lo2, ⟨ka2, kn2, kc2⟩, ⟨na2, nn2, nc2⟩, ⟨pa2, pn2, pc2⟩⟩ from BY6.out.on hb7)
      clear hb7 HB6 HT6 BX6 HU6 BY6 
      go_upto_region 18 with fail
      rw [← hg7, ← hw7]
      clear hg7 hw7
      have HLP := Lib.hid (tree_len HT7.out)
      have HC1 := Lib.hid (show ∀ wx, Below w7.heap.size w7 wx → _ from fun wx h => TBox.cells (BX7.out.on h))
      have HC2 := Lib.hid (show ∀ wx, Below w7.heap.size w7 wx → _ from fun wx h => TBox.cells (BY7.out.on h))
      have HCR := Lib.hid (show ∀ wx, Below w7.heap.size w7 wx → _ from fun wx h => RBlk.cells (cells_of HR7.out h))
      simp only at HC1 HC2 HCR
      have HS1 := Lib.hid (show ∀ wx, Below w7.heap.size w7 wx → Calls Try.prog 17 #[.agg #[.string lo1, .slice ka1 kn1 kc1, .slice na1 nn1 nc1, .slice pa1 pn1 pc1], .agg #[.string noB, .string noB, .bool true]] wx fun e w' => ∃ v', e = .returned v' ∧ PV w' v' P ∧ Below wx.heap.size wx w' from fun wx h => by
        have h1 := tscan_any _ _ _ _ ⟨noS, noS, true⟩ wx (HT7.out.on h) (by rw [← HLA.out]; have := HL60.out; omega)
        rw [pick_all] at h1
        exact h1)
      have HS2 := Lib.hid (show ∀ wx, Below w7.heap.size w7 wx → Calls Try.prog 17 #[.agg #[.string lo2, .slice ka2 kn2 kc2, .slice na2 nn2 nc2, .slice pa2 pn2 pc2], .agg #[.string noB, .string noB, .bool true]] wx fun e w' => ∃ v', e = .returned v' ∧ PV w' v' P ∧ Below wx.heap.size wx w' from fun wx h => by
        have h1 := tscan_any _ _ _ _ ⟨noS, noS, true⟩ wx (HU7.out.on h) (by rw [turnN_len, ← HLA.out]; have := HL60.out; omega)
        rw [pick_all] at h1
        exact h1)
      have HSQ := Lib.hid (show ∀ wx v u, PV wx v P → PV wx u P → Calls Try.prog 16 #[v, u] wx fun e w' => e = .returned (.bool true) ∧ Below wx.heap.size wx w' from fun wx v u h1 h2 => by
        have h := same_v h1 h2 (by have h1 := HLP.out.1; rw [← HLA.out] at h1; have := HL60.out; unfold maxLen; omega)
        rw [decide_eq_true rfl] at h
        exact h)
      refine wp_region_inv [81, 82, 83, 84, 85, 86, 87, 88, 89, 90, 91, 92, 93, 94, 95, 96, 97, 98, 4] (by kernel_rfl) (by kernel_rfl) (fun w' => Below w7.heap.size w7 w') (fun wa wb => Below wa.heap.size wa wb) (ApartV (.agg #[.string lo1, .slice ka1 kn1 kc1, .slice na1 nn1 nc1, .slice pa1 pn1 pc1]) (.agg #[.string lo2, .slice ka2 kn2 kc2, .slice na2 nn2 nc2, .slice pa2 pn2 pc2]) (.agg #[.string noB, .string noB, .bool true]) P) (by kernel_rfl) (fun wa wb h1 h2 => h2.trans (h1.mono h2.size)) (fun t v wa wb h1 h2 => h2.on h1) (Below.refl _ _).drew (steps_of ?_) ?_
      · skip
        refine Steps1.cons (fun ax wx hS hG => ?_) (Steps1.cons (fun ax wx hS hG => ?_) (Steps1.cons (fun ax wx hS hG => ?_) (Steps1.cons (fun ax wx hS hG => ?_) (Steps1.cons (fun ax wx hS hG => ?_) (Steps1.cons (fun ax wx hS hG => ?_) (Steps1.cons (fun ax wx hS hG => ?_) (Steps1.cons (fun ax wx hS hG => ?_) (Steps1.cons (fun ax wx hS hG => ?_) (Steps1.cons (fun ax wx hS hG => ?_) (Steps1.cons (fun ax wx hS hG => ?_) (Steps1.cons (fun ax wx hS hG => ?_) (Steps1.cons (fun ax wx hS hG => ?_) (Steps1.cons (fun ax wx hS hG => ?_) (Steps1.cons (fun ax wx hS hG => ?_) (Steps1.cons (fun ax wx hS hG => ?_) (Steps1.cons (fun ax wx hS hG => ?_) (Steps1.cons (fun ax wx hS hG => ?_) (Steps1.cons (fun ax wx hS hG => ?_) Steps1.nil))))))))))))))))))
        · have q10 := hG.old 10 (by kernel_rfl) (by kernel_rfl)
          refine step_value (v := .int .i64 0) (w' := wx) rfl rfl ?_ (Below.refl _ _) (fun d hd => by cases hd; exact rfl)
          go_simp
        · obtain ⟨_, q81, rfl⟩ := hG.new 81 (by kernel_rfl) (by kernel_rfl)
          refine step_value (v := .bool true) (w' := wx) rfl rfl ?_ (Below.refl _ _) (fun d hd => by cases hd; exact rfl)
          go_simp
        · obtain ⟨_, q82, rfl⟩ := hG.new 82 (by kernel_rfl) (by kernel_rfl)
          refine step_value (v := .bool true) (w' := wx) rfl rfl ?_ (Below.refl _ _) (fun d hd => by cases hd; exact rfl)
          go_simp
        · have q12 := hG.old 12 (by kernel_rfl) (by kernel_rfl)
          obtain ⟨_, q83, rfl⟩ := hG.new 83 (by kernel_rfl) (by kernel_rfl)
          refine step_value (v := .int .i64 0) (w' := wx) rfl (by simp [Region.wanted, yielded, q83]) ?_ (Below.refl _ _) (fun d hd => by cases hd; exact rfl)
          go_simp
        · obtain ⟨_, q84, rfl⟩ := hG.new 84 (by kernel_rfl) (by kernel_rfl)
          obtain ⟨_, q83, rfl⟩ := hG.new 83 (by kernel_rfl) (by kernel_rfl)
          refine step_value (v := .bool true) (w' := wx) rfl (by simp [Region.wanted, yielded, q83]) ?_ (Below.refl _ _) (fun d hd => by cases hd; exact rfl)
          go_simp
        · obtain ⟨_, q83, rfl⟩ := hG.new 83 (by kernel_rfl) (by kernel_rfl)
          obtain ⟨_, q85, rfl⟩ := hG.new 85 (by kernel_rfl) (by kernel_rfl)
          refine step_value (v := .bool true) (w' := wx) rfl rfl ?_ (Below.refl _ _) (fun d hd => by cases hd; exact rfl)
          go_simp
        · obtain ⟨_, q86, rfl⟩ := hG.new 86 (by kernel_rfl) (by kernel_rfl)
          refine step_value (v := .bool true) (w' := wx) rfl rfl ?_ (Below.refl _ _) (fun d hd => by cases hd; exact rfl)
          go_simp
        · have q9 := hG.old 9 (by kernel_rfl) (by kernel_rfl)
          obtain ⟨_, q87, rfl⟩ := hG.new 87 (by kernel_rfl) (by kernel_rfl)
          obtain ⟨z0, z1, z2, z3⟩ := HC1.out wx hS
          refine step_value (v := .agg #[.string lo1, .slice ka1 kn1 kc1, .slice na1 nn1 nc1, .slice pa1 pn1 pc1]) (w' := wx) rfl (by simp [Region.wanted, yielded, q87]) ?_ (Below.refl _ _) (fun d hd => by cases hd; exact rfl)
          go_simp
        · have q13 := hG.old 13 (by kernel_rfl) (by kernel_rfl)
          obtain ⟨_, q87, rfl⟩ := hG.new 87 (by kernel_rfl) (by kernel_rfl)
          obtain ⟨z0, z1, z2⟩ := HCR.out wx hS
          refine step_value (v := .agg #[.string noB, .string noB, .bool true]) (w' := wx) rfl (by simp [Region.wanted, yielded, q87]) ?_ (Below.refl _ _) (fun d hd => by cases hd; exact rfl)
          go_simp
        · obtain ⟨_, q88, rfl⟩ := hG.new 88 (by kernel_rfl) (by kernel_rfl)
          obtain ⟨_, q89, rfl⟩ := hG.new 89 (by kernel_rfl) (by kernel_rfl)
          obtain ⟨_, q87, rfl⟩ := hG.new 87 (by kernel_rfl) (by kernel_rfl)
          refine step_call (w1 := wx) (f := 17) (args := #[.agg #[.string lo1, .slice ka1 kn1 kc1, .slice na1 nn1 nc1, .slice pa1 pn1 pc1], .agg #[.string noB, .string noB, .bool true]]) rfl (by simp [Region.wanted, yielded, q87]) ?_ ((HS1.out wx hS).mono ?_)
          · skip
            go_simp
          · rintro e w' ⟨v', rfl, hv, hq⟩
            exact ⟨_, rfl, hq, fun d hd => by cases hd; exact hv⟩
        · have q11 := hG.old 11 (by kernel_rfl) (by kernel_rfl)
          obtain ⟨_, q87, rfl⟩ := hG.new 87 (by kernel_rfl) (by kernel_rfl)
          obtain ⟨z0, z1, z2, z3⟩ := HC2.out wx hS
          refine step_value (v := .agg #[.string lo2, .slice ka2 kn2 kc2, .slice na2 nn2 nc2, .slice pa2 pn2 pc2]) (w' := wx) rfl (by simp [Region.wanted, yielded, q87]) ?_ (Below.refl _ _) (fun d hd => by cases hd; exact rfl)
          go_simp
        · have q13 := hG.old 13 (by kernel_rfl) (by kernel_rfl)
          obtain ⟨_, q87, rfl⟩ := hG.new 87 (by kernel_rfl) (by kernel_rfl)
          obtain ⟨z0, z1, z2⟩ := HCR.out wx hS
          refine step_value (v := .agg #[.string noB, .string noB, .bool true]) (w' := wx) rfl (by simp [Region.wanted, yielded, q87]) ?_ (Below.refl _ _) (fun d hd => by cases hd; exact rfl)
          go_simp
        · obtain ⟨_, q91, rfl⟩ := hG.new 91 (by kernel_rfl) (by kernel_rfl)
          obtain ⟨_, q92, rfl⟩ := hG.new 92 (by kernel_rfl) (by kernel_rfl)
          obtain ⟨_, q87, rfl⟩ := hG.new 87 (by kernel_rfl) (by kernel_rfl)
          refine step_call (w1 := wx) (f := 17) (args := #[.agg #[.string lo2, .slice ka2 kn2 kc2, .slice na2 nn2 nc2, .slice pa2 pn2 pc2], .agg #[.string noB, .string noB, .bool true]]) rfl (by simp [Region.wanted, yielded, q87]) ?_ ((HS2.out wx hS).mono ?_)
          · skip
            go_simp
          · rintro e w' ⟨v', rfl, hv, hq⟩
            exact ⟨_, rfl, hq, fun d hd => by cases hd; exact hv⟩
        · obtain ⟨v90, q90, h90⟩ := hG.new 90 (by kernel_rfl) (by kernel_rfl)
          have p90 : PV wx v90 P := h90
          obtain ⟨v93, q93, h93⟩ := hG.new 93 (by kernel_rfl) (by kernel_rfl)
          have p93 : PV wx v93 P := h93
          obtain ⟨_, q87, rfl⟩ := hG.new 87 (by kernel_rfl) (by kernel_rfl)
          refine step_call (w1 := wx) (f := 16) (args := #[v90, v93]) rfl (by simp [Region.wanted, yielded, q87]) ?_ ((HSQ.out wx _ _ p90 p93).mono ?_)
          · clear h90 p90 h93 p93
            go_simp
          · rintro e w' ⟨rfl, hq⟩
            exact ⟨_, rfl, hq, fun d hd => by cases hd; exact rfl⟩
        · obtain ⟨_, q87, rfl⟩ := hG.new 87 (by kernel_rfl) (by kernel_rfl)
          obtain ⟨_, q94, rfl⟩ := hG.new 94 (by kernel_rfl) (by kernel_rfl)
          refine step_value (v := .bool true) (w' := wx) rfl rfl ?_ (Below.refl _ _) (fun d hd => by cases hd; exact rfl)
          go_simp
        · obtain ⟨_, q95, rfl⟩ := hG.new 95 (by kernel_rfl) (by kernel_rfl)
          refine step_value (v := .bool true) (w' := wx) rfl rfl ?_ (Below.refl _ _) (fun d hd => by cases hd; exact rfl)
          go_simp
        · obtain ⟨_, q96, rfl⟩ := hG.new 96 (by kernel_rfl) (by kernel_rfl)
          refine step_call (w1 := wx) (f := 9) (args := #[]) rfl (by simp [Region.wanted, yielded, q96]) ?_ ((awake_true wx).mono ?_)
          · skip
            go_simp
          · rintro e w' ⟨rfl, hq⟩
            exact ⟨_, rfl, hq, fun d hd => by cases hd; exact rfl⟩
        · obtain ⟨_, q96, rfl⟩ := hG.new 96 (by kernel_rfl) (by kernel_rfl)
          obtain ⟨_, q97, rfl⟩ := hG.new 97 (by kernel_rfl) (by kernel_rfl)
          refine step_value (v := .bool true) (w' := wx) rfl rfl ?_ (Below.refl _ _) (fun d hd => by cases hd; exact rfl)
          go_simp
        · obtain ⟨_, q98, rfl⟩ := hG.new 98 (by kernel_rfl) (by kernel_rfl)
          refine step_value (v := .bool true) (w' := wx) rfl rfl ?_ (Below.refl _ _) (fun d hd => by cases hd; exact rfl)
          go_simp
      intro fv w8 hS8 hV8
      have e4 : fv 4 = .bool true := hV8 4 (by decide)
      simp only [puts, Act.put, List.setIfInBounds_toArray, List.set_cons_succ, List.set_cons_zero]
      clear hV8
      rw [e4]
      have HB9 := Lib.hid (HB7.out.trans (hS8.mono HB7.out.size))
      clear hS8
      go_wp2
      go_ret
      exact ⟨rfl, HB9.out⟩

end Go.Proofs.Yteddjmkoleclpaa
