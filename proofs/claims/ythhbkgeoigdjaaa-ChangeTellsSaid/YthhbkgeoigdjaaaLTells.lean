/- The walk of ChangeTells: what any note is to any pairs, and two changes as one. -/
import Derived.Test.YthhbkgeoigdjaaaAwk
import Derived.Test.YthhbkgeoigdjaaaSf
import Derived.Test.YthhbkgeoigdjaaaROf
import Derived.Test.YthhbkgeoigdjaaaRJn
set_option linter.unusedVariables false
set_option linter.unusedSimpArgs false
namespace Go.Proofs.Ythhbkgeoigdjaaa
open Go.RowKit

theorem cv_lit2' (w : World) (x y : Ch) : CV (w.alloc (.cells (chCells x ++ chCells y) 27)) (.slice (some ⟨w.heap.size, 0, none⟩) 2 2) [x, y] := CV.lit rfl (by simp [chCells, Ch.cells]) rfl

set_option maxRecDepth 100000 in
set_option maxHeartbeats 8000000 in
theorem tells_walk (v : Value) (l : List Pr) (s : Int) (x : Nt) (x1 x2 : Ch) (w : World) (hv : PV w v l) (hn : l.length ≤ maxLen) (hxk : x.key.size ≤ maxLen) (hxv : x.value.size ≤ maxLen) :
    Calls Try.prog 3 #[v, .int .i64 s, x.v, x1.v, x2.v] w fun e w' => e = .returned (.bool true) ∧ Below w.heap.size w w' := by
  have hj := fun w => join_any x1 x2 w
  have hrj := fun w => rjoin_any x1 x2 w
  have hof := fun (hn : l.length ≤ 100000) w h => of_v (v := v) (l := l) s x w h hn
  have hrof := fun (hn : l.length ≤ 100000) w h => rof_any (v := v) (l := l) s x w h hn
  obtain ⟨E, hE⟩ : ∃ E, joinE x1 x2 = E := ⟨_, rfl⟩
  obtain ⟨X, hX⟩ : ∃ X, joinA x1 x2 = X := ⟨_, rfl⟩
  obtain ⟨F, hF⟩ : ∃ E, ofE l s x = E := ⟨_, rfl⟩
  obtain ⟨Y, hY⟩ : ∃ X, ofA l s x = X := ⟨_, rfl⟩
  rw [hE, hX] at hj hrj
  rw [hF, hY] at hof hrof
  clear hE hX hF hY
  obtain ⟨nk, nkey, nval, nn⟩ := x
  obtain ⟨xn, hxn⟩ : ∃ xn : Int, ((nn.toNat : Nat) : Int) = xn := ⟨_, rfl⟩
  simp only [Nt.cells, hxn] at hof hrof
  show Calls _ _ #[v, .int .i64 s, .agg #[.int .i64 nk, .string nkey, .string nval, .int .u64 ((nn.toNat : Nat) : Int)], x1.v, x2.v] _ _
  rw [hxn]
  obtain ⟨s1, k1, m1, b1, n1, a1⟩ := x1
  obtain ⟨s2, k2, m2, b2, n2, a2⟩ := x2
  obtain ⟨sx, kx, mx, bx, nx, ax⟩ := X
  obtain ⟨sv, kv, mv, bv, nv, av⟩ := Y
  unfold Ch.v chV at *
  have HJ1 := Lib.hid hj
  have HJ2 := Lib.hid hrj
  have HO1 := Lib.hid hof
  have HO2 := Lib.hid hrof
  obtain ⟨wa, hwa⟩ : ∃ q, q = w.alloc (.cells #[.int .i64 nk, .string nkey, .string nval, .int .u64 xn] 25) := ⟨_, rfl⟩
  obtain ⟨wb, hwb⟩ : ∃ q, q = wa.alloc (.cells #[.int .i64 s1, .string k1, .bool m1, .string b1, .bool n1, .string a1] 27) := ⟨_, rfl⟩
  obtain ⟨w0, hw0⟩ : ∃ q, q = wb.alloc (.cells #[.int .i64 s2, .string k2, .bool m2, .string b2, .bool n2, .string a2] 27) := ⟨_, rfl⟩
  obtain ⟨g1, hg1⟩ : ∃ q, q = w.heap.size := ⟨_, rfl⟩
  have ea : wa.heap.size = g1 + 1 := by rw [hwa, hg1]; simp
  have eb : wb.heap.size = g1 + 1 + 1 := by rw [hwb]; simp [ea]
  have hb0 : Below w.heap.size w w0 := by rw [hw0, hwb, hwa]; exact (((Below.refl _ _).alloc (Nat.le_refl _) _).alloc (by simp) _).alloc (by simp; omega) _
  have HB0 := Lib.hid hb0
  have BN0 := Lib.hid (show Box w0 g1 25 #[.int .i64 nk, .string nkey, .string nval, .int .u64 xn] from by rw [hw0, hwb]; exact Box.push (Box.push (by rw [hwa]; exact Box.at_ w _ _ hg1) _) _)
  have B10 := Lib.hid (show Box w0 (g1 + 1) 27 #[.int .i64 s1, .string k1, .bool m1, .string b1, .bool n1, .string a1] from by rw [hw0]; exact Box.push (by rw [hwb]; exact Box.at_ wa _ _ ea.symm) _)
  have B20 := Lib.hid (show Box w0 (g1 + 1 + 1) 27 #[.int .i64 s2, .string k2, .bool m2, .string b2, .bool n2, .string a2] from by rw [hw0]; exact Box.at_ wb _ _ eb.symm)
  have VP0 := Lib.hid (hv.on hb0)
  have HXK := Lib.hid hxk
  have HXV := Lib.hid hxv
  clear hb0 hv hn hj hrj hof hrof hxn hxk hxv
  go_enter Try.func3, Try.ntmps3
  go_wp2_with fail
  rw [← hg1, ← hwa, ← hwb, ← hw0]
  clear hw0 hwa hwb hg1 ea eb
  go_wp2_with fail
  refine (small_v VP0.out).mono ?_
  rintro e w1 ⟨R1, rfl, h1, hb⟩
  have HB1 := Lib.hid (HB0.out.trans (hb.mono HB0.out.size))
  have BN1 := Lib.hid (BN0.out.on hb)
  have B11 := Lib.hid (B10.out.on hb)
  have B21 := Lib.hid (B20.out.on hb)
  have VP1 := Lib.hid (VP0.out.on hb)
  clear hb HB0 BN0 B10 B20 VP0 
  have H1 := Lib.hid h1
  clear h1
  cases R1 with
  | false =>
    go_wp2_with fail
    refine (awake_true _).mono ?_
    rintro e w2 ⟨rfl, hb⟩
    have HB2 := Lib.hid (HB1.out.trans (hb.mono HB1.out.size))
    clear hb HB1 
    go_wp2
    go_ret
    exact ⟨rfl, HB2.out⟩
  | true =>
    have kB10 := Box.cell B11.out 0 rfl
    have kB11 := Box.cell B11.out 1 rfl
    have kB12 := Box.cell B11.out 2 rfl
    have kB13 := Box.cell B11.out 3 rfl
    have kB14 := Box.cell B11.out 4 rfl
    have kB15 := Box.cell B11.out 5 rfl
    have kB20 := Box.cell B21.out 0 rfl
    have kB21 := Box.cell B21.out 1 rfl
    have kB22 := Box.cell B21.out 2 rfl
    have kB23 := Box.cell B21.out 3 rfl
    have kB24 := Box.cell B21.out 4 rfl
    have kB25 := Box.cell B21.out 5 rfl
    go_wp2_with fail
    refine (few_v (cv_lit2' _ ⟨s1, k1, m1, b1, n1, a1⟩ ⟨s2, k2, m2, b2, n2, a2⟩)).mono ?_
    rintro e w3 ⟨R2, rfl, h2, hb⟩
    replace hb := ((Below.refl _ w1).alloc (Nat.le_refl _) _).trans (hb.mono (by simp))
    have HB3 := Lib.hid (HB1.out.trans (hb.mono HB1.out.size))
    have BN3 := Lib.hid (BN1.out.on hb)
    have B13 := Lib.hid (B11.out.on hb)
    have B23 := Lib.hid (B21.out.on hb)
    have VP3 := Lib.hid (VP1.out.on hb)
    clear hb HB1 BN1 B11 B21 VP1 kB10 kB11 kB12 kB13 kB14 kB15 kB20 kB21 kB22 kB23 kB24 kB25
    have H2 := Lib.hid h2
    clear h2
    cases R2 with
    | false =>
      go_wp2_with fail
      refine (awake_true _).mono ?_
      rintro e w4 ⟨rfl, hb⟩
      have HB4 := Lib.hid (HB3.out.trans (hb.mono HB3.out.size))
      clear hb HB3 
      go_wp2
      go_ret
      exact ⟨rfl, HB4.out⟩
    | true =>
      have hl60 := H1.out (by simp)
      have HL := Lib.hid hl60
      clear H1 H2 hl60
      have kBN0 := Box.cell BN3.out 0 rfl
      have kBN1 := Box.cell BN3.out 1 rfl
      have kBN2 := Box.cell BN3.out 2 rfl
      have kBN3 := Box.cell BN3.out 3 rfl
      have hxk := HXK.out
      have hxv := HXV.out
      by_cases hk3 : nkey.size ≤ 300
      case neg =>
        have hd : decide (300 < (nkey.size : Int)) = true := by simp; omega
        clear hk3 hxk hxv
        go_wp2_with fail
        refine (awake_true _).mono ?_
        rintro e w5 ⟨rfl, hb⟩
        have HB5 := Lib.hid (HB3.out.trans (hb.mono HB3.out.size))
        clear hb HB3 
        go_wp2
        go_ret
        exact ⟨rfl, HB5.out⟩
      have hd : decide (300 < (nkey.size : Int)) = false := by simp; omega
      clear hk3
      by_cases hk4 : nval.size ≤ 300
      case neg =>
        have hd2 : decide (300 < (nval.size : Int)) = true := by simp; omega
        clear hk4 hxk hxv
        go_wp2_with fail
        refine (awake_true _).mono ?_
        rintro e w6 ⟨rfl, hb⟩
        have HB6 := Lib.hid (HB3.out.trans (hb.mono HB3.out.size))
        clear hb HB3 
        go_wp2
        go_ret
        exact ⟨rfl, HB6.out⟩
      have hd2 : decide (300 < (nval.size : Int)) = false := by simp; omega
      clear hk4 hxk hxv
      go_wp2_with fail
      refine (HO1.out (by have := HL.out; omega) _ VP3.out).mono ?_
      rintro e w7 ⟨rfl, hb⟩
      have HB7 := Lib.hid (HB3.out.trans (hb.mono HB3.out.size))
      have BN7 := Lib.hid (BN3.out.on hb)
      have B17 := Lib.hid (B13.out.on hb)
      have B27 := Lib.hid (B23.out.on hb)
      have VP7 := Lib.hid (VP3.out.on hb)
      clear hb HB3 BN3 B13 B23 VP3 kBN0 kBN1 kBN2 kBN3 hd hd2
      go_upto_region 4 with fail
      obtain ⟨gx, hgx⟩ : ∃ gx, gx = w7.heap.size := ⟨_, rfl⟩
      obtain ⟨w8, hz0⟩ : ∃ wz, wz = w7.alloc (.cells #[.int .i64 sv, .string kv, .bool mv, .string bv, .bool nv, .string av] 27) := ⟨_, rfl⟩
      rw [← hgx, ← hz0]
      have hb : Below w7.heap.size w7 w8 := by rw [hz0]; exact ((Below.refl _ _).alloc (Nat.le_refl _) _)
      have BX8 := Lib.hid (show Box w8 gx 27 #[.int .i64 sv, .string kv, .bool mv, .string bv, .bool nv, .string av] from (by rw [hz0]; exact Box.at_ w7 _ _ hgx))
      have HGgx := Lib.hid (show w.heap.size ≤ gx from by rw [hgx]; exact HB7.out.size)
      have HB8 := Lib.hid (HB7.out.trans (hb.mono HB7.out.size))
      have BN8 := Lib.hid (BN7.out.on hb)
      have B18 := Lib.hid (B17.out.on hb)
      have B28 := Lib.hid (B27.out.on hb)
      have VP8 := Lib.hid (VP7.out.on hb)
      clear hb HB7 BN7 B17 B27 VP7 hgx  hz0
      have kBN0 := Box.cell BN8.out 0 rfl
      have kBN1 := Box.cell BN8.out 1 rfl
      have kBN2 := Box.cell BN8.out 2 rfl
      have kBN3 := Box.cell BN8.out 3 rfl
      go_wp2_with fail
      refine (HO2.out (by have := HL.out; omega) _ VP8.out).mono ?_
      rintro e w9 ⟨rfl, hb⟩
      have HB9 := Lib.hid (HB8.out.trans (hb.mono HB8.out.size))
      have BN9 := Lib.hid (BN8.out.on hb)
      have B19 := Lib.hid (B18.out.on hb)
      have B29 := Lib.hid (B28.out.on hb)
      have VP9 := Lib.hid (VP8.out.on hb)
      have BX9 := Lib.hid (BX8.out.on hb)
      clear hb HB8 BN8 B18 B28 VP8 BX8 kBN0 kBN1 kBN2 kBN3
      go_upto_region 5 with fail
      obtain ⟨gy, hgy⟩ : ∃ gy, gy = w9.heap.size := ⟨_, rfl⟩
      obtain ⟨w10, hz0⟩ : ∃ wz, wz = w9.alloc (.cells #[.int .i64 sv, .string kv, .bool mv, .string bv, .bool nv, .string av] 27) := ⟨_, rfl⟩
      rw [← hgy, ← hz0]
      have hb : Below w9.heap.size w9 w10 := by rw [hz0]; exact ((Below.refl _ _).alloc (Nat.le_refl _) _)
      have BY10 := Lib.hid (show Box w10 gy 27 #[.int .i64 sv, .string kv, .bool mv, .string bv, .bool nv, .string av] from (by rw [hz0]; exact Box.at_ w9 _ _ hgy))
      have HGgy := Lib.hid (show w.heap.size ≤ gy from by rw [hgy]; exact HB9.out.size)
      have HN_gy_gx := Lib.hid (show gy ≠ gx from by have := BX9.out.lt; omega)
      have HB10 := Lib.hid (HB9.out.trans (hb.mono HB9.out.size))
      have BN10 := Lib.hid (BN9.out.on hb)
      have B110 := Lib.hid (B19.out.on hb)
      have B210 := Lib.hid (B29.out.on hb)
      have VP10 := Lib.hid (VP9.out.on hb)
      have BX10 := Lib.hid (BX9.out.on hb)
      clear hb HB9 BN9 B19 B29 VP9 BX9 hgy  hz0
      have kB10 := Box.cell B110.out 0 rfl
      have kB11 := Box.cell B110.out 1 rfl
      have kB12 := Box.cell B110.out 2 rfl
      have kB13 := Box.cell B110.out 3 rfl
      have kB14 := Box.cell B110.out 4 rfl
      have kB15 := Box.cell B110.out 5 rfl
      have kB20 := Box.cell B210.out 0 rfl
      have kB21 := Box.cell B210.out 1 rfl
      have kB22 := Box.cell B210.out 2 rfl
      have kB23 := Box.cell B210.out 3 rfl
      have kB24 := Box.cell B210.out 4 rfl
      have kB25 := Box.cell B210.out 5 rfl
      go_wp2_with fail
      refine (HJ1.out _).mono ?_
      rintro e w11 ⟨rfl, hb⟩
      have HB11 := Lib.hid (HB10.out.trans (hb.mono HB10.out.size))
      have BN11 := Lib.hid (BN10.out.on hb)
      have B111 := Lib.hid (B110.out.on hb)
      have B211 := Lib.hid (B210.out.on hb)
      have VP11 := Lib.hid (VP10.out.on hb)
      have BX11 := Lib.hid (BX10.out.on hb)
      have BY11 := Lib.hid (BY10.out.on hb)
      clear hb HB10 BN10 B110 B210 VP10 BX10 BY10 kB10 kB11 kB12 kB13 kB14 kB15 kB20 kB21 kB22 kB23 kB24 kB25
      go_upto_region 6 with fail
      obtain ⟨gu, hgu⟩ : ∃ gu, gu = w11.heap.size := ⟨_, rfl⟩
      obtain ⟨w12, hz0⟩ : ∃ wz, wz = w11.alloc (.cells #[.int .i64 sx, .string kx, .bool mx, .string bx, .bool nx, .string ax] 27) := ⟨_, rfl⟩
      rw [← hgu, ← hz0]
      have hb : Below w11.heap.size w11 w12 := by rw [hz0]; exact ((Below.refl _ _).alloc (Nat.le_refl _) _)
      have BU12 := Lib.hid (show Box w12 gu 27 #[.int .i64 sx, .string kx, .bool mx, .string bx, .bool nx, .string ax] from (by rw [hz0]; exact Box.at_ w11 _ _ hgu))
      have HGgu := Lib.hid (show w.heap.size ≤ gu from by rw [hgu]; exact HB11.out.size)
      have HN_gu_gx := Lib.hid (show gu ≠ gx from by have := BX11.out.lt; omega)
      have HN_gu_gy := Lib.hid (show gu ≠ gy from by have := BY11.out.lt; omega)
      have HB12 := Lib.hid (HB11.out.trans (hb.mono HB11.out.size))
      have BN12 := Lib.hid (BN11.out.on hb)
      have B112 := Lib.hid (B111.out.on hb)
      have B212 := Lib.hid (B211.out.on hb)
      have VP12 := Lib.hid (VP11.out.on hb)
      have BX12 := Lib.hid (BX11.out.on hb)
      have BY12 := Lib.hid (BY11.out.on hb)
      clear hb HB11 BN11 B111 B211 VP11 BX11 BY11 hgu  hz0
      have kB10 := Box.cell B112.out 0 rfl
      have kB11 := Box.cell B112.out 1 rfl
      have kB12 := Box.cell B112.out 2 rfl
      have kB13 := Box.cell B112.out 3 rfl
      have kB14 := Box.cell B112.out 4 rfl
      have kB15 := Box.cell B112.out 5 rfl
      have kB20 := Box.cell B212.out 0 rfl
      have kB21 := Box.cell B212.out 1 rfl
      have kB22 := Box.cell B212.out 2 rfl
      have kB23 := Box.cell B212.out 3 rfl
      have kB24 := Box.cell B212.out 4 rfl
      have kB25 := Box.cell B212.out 5 rfl
      go_wp2_with fail
      refine (HJ2.out _).mono ?_
      rintro e w13 ⟨rfl, hb⟩
      have HB13 := Lib.hid (HB12.out.trans (hb.mono HB12.out.size))
      have BN13 := Lib.hid (BN12.out.on hb)
      have B113 := Lib.hid (B112.out.on hb)
      have B213 := Lib.hid (B212.out.on hb)
      have VP13 := Lib.hid (VP12.out.on hb)
      have BX13 := Lib.hid (BX12.out.on hb)
      have BY13 := Lib.hid (BY12.out.on hb)
      have BU13 := Lib.hid (BU12.out.on hb)
      clear hb HB12 BN12 B112 B212 VP12 BX12 BY12 BU12 kB10 kB11 kB12 kB13 kB14 kB15 kB20 kB21 kB22 kB23 kB24 kB25
      go_upto_region 7 with fail
      obtain ⟨gv, hgv⟩ : ∃ gv, gv = w13.heap.size := ⟨_, rfl⟩
      obtain ⟨w14, hz0⟩ : ∃ wz, wz = w13.alloc (.cells #[.int .i64 sx, .string kx, .bool mx, .string bx, .bool nx, .string ax] 27) := ⟨_, rfl⟩
      rw [← hgv, ← hz0]
      have hb : Below w13.heap.size w13 w14 := by rw [hz0]; exact ((Below.refl _ _).alloc (Nat.le_refl _) _)
      have BV14 := Lib.hid (show Box w14 gv 27 #[.int .i64 sx, .string kx, .bool mx, .string bx, .bool nx, .string ax] from (by rw [hz0]; exact Box.at_ w13 _ _ hgv))
      have HGgv := Lib.hid (show w.heap.size ≤ gv from by rw [hgv]; exact HB13.out.size)
      have HN_gv_gx := Lib.hid (show gv ≠ gx from by have := BX13.out.lt; omega)
      have HN_gv_gy := Lib.hid (show gv ≠ gy from by have := BY13.out.lt; omega)
      have HN_gv_gu := Lib.hid (show gv ≠ gu from by have := BU13.out.lt; omega)
      have HB14 := Lib.hid (HB13.out.trans (hb.mono HB13.out.size))
      have BN14 := Lib.hid (BN13.out.on hb)
      have B114 := Lib.hid (B113.out.on hb)
      have B214 := Lib.hid (B213.out.on hb)
      have VP14 := Lib.hid (VP13.out.on hb)
      have BX14 := Lib.hid (BX13.out.on hb)
      have BY14 := Lib.hid (BY13.out.on hb)
      have BU14 := Lib.hid (BU13.out.on hb)
      clear hb HB13 BN13 B113 B213 VP13 BX13 BY13 BU13 hgv  hz0
      have kBX0 := Box.cell BX14.out 0 rfl
      have kBX1 := Box.cell BX14.out 1 rfl
      have kBX2 := Box.cell BX14.out 2 rfl
      have kBX3 := Box.cell BX14.out 3 rfl
      have kBX4 := Box.cell BX14.out 4 rfl
      have kBX5 := Box.cell BX14.out 5 rfl
      have kBY0 := Box.cell BY14.out 0 rfl
      have kBY1 := Box.cell BY14.out 1 rfl
      have kBY2 := Box.cell BY14.out 2 rfl
      have kBY3 := Box.cell BY14.out 3 rfl
      have kBY4 := Box.cell BY14.out 4 rfl
      have kBY5 := Box.cell BY14.out 5 rfl
      have kBU0 := Box.cell BU14.out 0 rfl
      have kBU1 := Box.cell BU14.out 1 rfl
      have kBU2 := Box.cell BU14.out 2 rfl
      have kBU3 := Box.cell BU14.out 3 rfl
      have kBU4 := Box.cell BU14.out 4 rfl
      have kBU5 := Box.cell BU14.out 5 rfl
      have kBV0 := Box.cell BV14.out 0 rfl
      have kBV1 := Box.cell BV14.out 1 rfl
      have kBV2 := Box.cell BV14.out 2 rfl
      have kBV3 := Box.cell BV14.out 3 rfl
      have kBV4 := Box.cell BV14.out 4 rfl
      have kBV5 := Box.cell BV14.out 5 rfl
      go_wp2_with fail
      refine (awake_true _).mono ?_
      rintro e w15 ⟨rfl, hb⟩
      have HB15 := Lib.hid (HB14.out.trans (hb.mono HB14.out.size))
      clear hb HB14 kBX0 kBX1 kBX2 kBX3 kBX4 kBX5 kBY0 kBY1 kBY2 kBY3 kBY4 kBY5 kBU0 kBU1 kBU2 kBU3 kBU4 kBU5 kBV0 kBV1 kBV2 kBV3 kBV4 kBV5
      go_wp2
      go_ret
      exact ⟨by simp, HB15.out⟩

end Go.Proofs.Ythhbkgeoigdjaaa
