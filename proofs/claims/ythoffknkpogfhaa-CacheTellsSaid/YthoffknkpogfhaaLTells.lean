/- The walk of CacheTells: whether anything is a cache, any item of it, it with others put, and cleaned, are what the document says. -/
import Derived.Test.YthoffknkpogfhaaRc
set_option linter.unusedVariables false
set_option linter.unusedSimpArgs false
namespace Go.Proofs.Ythoffknkpogfhaa
open Go.RowKit

def TellsV (m : Int) (A A1 A3 : Option Addr) (n c c1 c3 : Nat) (za : Int) (zt : ByteArray) (zd is R : Bool) (l : List It) (p t : Nat) (v : Value) (w : World) : Prop :=
  match t with
  | 77 => v = .agg #[.int .i64 m, .slice A1 n c1]
  | 78 => v = .agg #[.int .i64 m, .slice A3 n c3]
  | 79 => v = .bool true
  | 80 => v = .bool false
  | 81 => v = .bool false
  | 82 => v = .agg #[.int .i64 za, .string zt, .bool zd]
  | 83 => v = .agg #[.int .i64 za, .string zt, .bool zd]
  | 84 => v = .bool false
  | 85 => v = .bool false
  | 86 => v = .bool false
  | 87 => v = .bool is
  | 88 => v = .bool is
  | 89 => v = .bool false
  | 90 => v = .bool false
  | 91 => v = .bool false
  | 92 => v = .agg #[.int .i64 m, .slice A n c]
  | 93 => v = .bool R
  | 94 => v = .agg #[.int .i64 m, .slice A n c]
  | 95 => ∃ s', v = .agg #[.int .i64 m, s'] ∧ IV w s' l
  | 96 => v = .bool R
  | 97 => v = .bool false
  | 98 => v = .bool false
  | _ => True
theorem TellsV.on {m : Int} {A A1 A3 : Option Addr} {n c c1 c3 : Nat} {za : Int} {zt : ByteArray} {zd is R : Bool} {l : List It} {p t : Nat} {v : Value} {w w' : World} (h : TellsV m A A1 A3 n c c1 c3 za zt zd is R l p t v w) (hb : Below w.heap.size w w') : TellsV m A A1 A3 n c c1 c3 za zt zd is R l p t v w' := by
  unfold TellsV at *
  split at h <;> first | exact h | exact (let ⟨s', e1, h1⟩ := h; ⟨s', e1, h1.on hb⟩)

set_option maxRecDepth 100000 in
set_option maxHeartbeats 8000000 in
theorem tells_walk (m : Int) (s : Value) (l : List It) (a : Int) (it : Value) (xs : List It) (w : World) (hv : IV w s l) (hx : IV w it xs) (hn : l.length ≤ maxLen) (hxn : xs.length ≤ maxLen) :
    Calls Try.prog 3 #[.agg #[.int .i64 m, s], .int .i64 a, it] w fun e w' => e = .returned (.bool true) ∧ Below w.heap.size w w' := by
  obtain ⟨A, c, rfl⟩ := hv.shape rfl
  obtain ⟨n, hl⟩ : ∃ n, l.length = n := ⟨_, rfl⟩
  rw [hl] at hv hn ⊢
  have HL := Lib.hid hl
  obtain ⟨AX, cx, rfl⟩ := hx.shape rfl
  obtain ⟨nx, hlx⟩ : ∃ nx, xs.length = nx := ⟨_, rfl⟩
  rw [hlx] at hx hxn ⊢
  have HLX := Lib.hid hlx
  have HXW := Lib.hid hx
  unfold maxLen at hn hxn
  obtain ⟨w0, hw0⟩ : ∃ w0, w0 = w.alloc (.cells #[.int .i64 m, .slice A n c] 24) := ⟨_, rfl⟩
  obtain ⟨g, hg⟩ : ∃ g, g = w.heap.size := ⟨_, rfl⟩
  have hb0 : Below w.heap.size w w0 := by rw [hw0]; exact (Below.refl _ _).alloc (Nat.le_refl _) _
  have HB0 := Lib.hid hb0
  have BC0 := Lib.hid (show Box w0 g 24 #[.int .i64 m, .slice A n c] from by rw [hw0]; exact Box.at_ w _ _ hg)
  have VC0 := Lib.hid (hv.on hb0)
  have VX0 := Lib.hid (hx.on hb0)
  clear hv hx hb0 hl hlx
  have kBC0 := Box.cell BC0.out 0 rfl
  have kBC1 := Box.cell BC0.out 1 rfl
  go_enter Try.func3, Try.ntmps3
  go_upto_region 1 with fail
  rw [← hg, ← hw0]
  clear hg hw0
  by_cases hn100 : n ≤ 100
  · have hd : decide ((100 : Int) < (n : Int)) = false := by simp; omega
    by_cases hx60 : nx ≤ 60
    · have hd2 : decide ((60 : Int) < (nx : Int)) = false := by simp; omega
      obtain ⟨R, hR⟩ : ∃ R, rightL m l = R := ⟨_, rfl⟩
      have HR := Lib.hid hR
      obtain ⟨er, her⟩ : ∃ er : Int, (if rightL m l = true then 0 else 1) = er := ⟨_, rfl⟩
      have HER := Lib.hid her
      obtain ⟨G, hG⟩ : ∃ G, getL m l a = G := ⟨_, rfl⟩
      obtain ⟨z, hz⟩ : ∃ z, getI m l a = z := ⟨_, rfl⟩
      obtain ⟨is, hi⟩ : ∃ is, getB m l a = is := ⟨_, rfl⟩
      have HG := Lib.hid hG
      have HZ := Lib.hid hz
      have HI := Lib.hid hi
      have HGL := Lib.hid (show G.length ≤ 1000 from by rw [← hG, getL_len, HL.out]; omega)
      obtain ⟨P, hP⟩ : ∃ P, P = (putC m l xs).1 := ⟨_, rfl⟩
      obtain ⟨O, hO⟩ : ∃ O, O = (putC m l xs).2 := ⟨_, rfl⟩
      have hpl := putC_len m l xs (by rw [HL.out]; omega)
      have HPUT := Lib.hid (show putC m l xs = (P, O) from by rw [hP, hO])
      have HPL := Lib.hid (show P.length ≤ 1000 from by rw [hP]; exact hpl.1)
      have HOL := Lib.hid (show O.length ≤ 1000 from by rw [hO]; have := hpl.2; have := HLX.out; omega)
      obtain ⟨Q, hQ⟩ : ∃ Q, Q = (cleanC m l).1 := ⟨_, rfl⟩
      obtain ⟨D, hD⟩ : ∃ D, D = (cleanC m l).2 := ⟨_, rfl⟩
      have hcl := cleanC_len m l
      have HCL := Lib.hid (show cleanC m l = (Q, D) from by rw [hQ, hD])
      have HQL := Lib.hid (show Q.length ≤ 1000 from by rw [hQ, hcl.1, HL.out]; omega)
      have HDL := Lib.hid (show D.length ≤ 1000 from by rw [hD]; have := hcl.2; rw [HL.out] at this; omega)
      obtain ⟨np, hnp⟩ : ∃ np, P.length = np := ⟨_, rfl⟩
      obtain ⟨no, hno⟩ : ∃ no, O.length = no := ⟨_, rfl⟩
      obtain ⟨nq, hnq⟩ : ∃ nq, Q.length = nq := ⟨_, rfl⟩
      obtain ⟨nd, hnd⟩ : ∃ nd, D.length = nd := ⟨_, rfl⟩
      have HNP := Lib.hid hnp
      have HNO := Lib.hid hno
      have HNQ := Lib.hid hnq
      have HND := Lib.hid hnd
      have HLK := Lib.hid (show l.length ≤ 1000 ∧ n ≤ 1000 ∧ xs.length ≤ 10000 ∧ nx ≤ 1000 from ⟨by rw [HL.out]; omega, by omega, by rw [HLX.out]; omega, by omega⟩)
      clear hR her hG hz hi hP hO hpl hQ hD hcl hnp hno hnq hnd
      obtain ⟨za, zt, zd⟩ := z
      go_wp2_with fail
      refine (get_s m a _ VC0.out HL.out HLK.out.2.1 HG.out HZ.out HI.out).mono ?_
      rintro e w1 ⟨A1, c1, rfl, h1, hb⟩
      have V11 := Lib.hid h1
      clear h1
      have HB1 := Lib.hid (HB0.out.trans (hb.mono HB0.out.size))
      have BC1 := Lib.hid (BC0.out.on hb)
      have VC1 := Lib.hid (VC0.out.on hb)
      have VX1 := Lib.hid (VX0.out.on hb)
      clear hb HB0 BC0 VC0 VX0 kBC0 kBC1
      go_upto_region 4 with fail
      obtain ⟨g7, hg7⟩ : ∃ g7, g7 = w1.heap.size := ⟨_, rfl⟩
      obtain ⟨wz0, hz0⟩ : ∃ wz, wz = w1.alloc (.cells #[.int .i64 m, .slice A1 n c1] 24) := ⟨_, rfl⟩
      obtain ⟨g8, hg8⟩ : ∃ g8, g8 = wz0.heap.size := ⟨_, rfl⟩
      obtain ⟨w2, hz1⟩ : ∃ wz, wz = wz0.alloc (.cells #[.int .i64 za, .string zt, .bool zd] 27) := ⟨_, rfl⟩
      have hg81 : g7 + 1 = g8 := by rw [hg8, hz0, hg7]; simp
      rw [← hg7, hg81, ← hz0, ← hz1]
      have hb : Below w1.heap.size w1 w2 := by rw [hz1, hz0]; exact (((Below.refl _ _).alloc (Nat.le_refl _) _).alloc (by simp) _)
      have B72 := Lib.hid (show Box w2 g7 24 #[.int .i64 m, .slice A1 n c1] from (by rw [hz1]; exact Box.push (by rw [hz0]; exact Box.at_ w1 _ _ hg7) _))
      have B82 := Lib.hid (show Box w2 g8 27 #[.int .i64 za, .string zt, .bool zd] from (by rw [hz1]; exact Box.at_ wz0 _ _ hg8))
      have HGg7 := Lib.hid (show w.heap.size ≤ g7 from by rw [hg7]; exact HB1.out.size)
      have HB2 := Lib.hid (HB1.out.trans (hb.mono HB1.out.size))
      have BC2 := Lib.hid (BC1.out.on hb)
      have VC2 := Lib.hid (VC1.out.on hb)
      have VX2 := Lib.hid (VX1.out.on hb)
      have V12 := Lib.hid (V11.out.on hb)
      clear hb HB1 BC1 VC1 VX1 V11 hg7 hg8 hg81 hz0 hz1
      have kBC0 := Box.cell BC2.out 0 rfl
      have kBC1 := Box.cell BC2.out 1 rfl
      go_wp2_with fail
      refine (ref_s m _ VC2.out HL.out HLK.out.2.1).mono ?_
      rintro e w3 ⟨A2, c2, rfl, h1, hb⟩
      have V23 := Lib.hid h1
      clear h1
      have HB3 := Lib.hid (HB2.out.trans (hb.mono HB2.out.size))
      have BC3 := Lib.hid (BC2.out.on hb)
      have VC3 := Lib.hid (VC2.out.on hb)
      have VX3 := Lib.hid (VX2.out.on hb)
      have V13 := Lib.hid (V12.out.on hb)
      have B73 := Lib.hid (B72.out.on hb)
      have B83 := Lib.hid (B82.out.on hb)
      clear hb HB2 BC2 VC2 VX2 V12 B72 B82 kBC0 kBC1
      go_wp2_with fail
      refine (rget_s m a _ V23.out HL.out HLK.out.2.1 HG.out HZ.out HI.out).mono ?_
      rintro e w4 ⟨A3, c3, rfl, h1, hb⟩
      have V34 := Lib.hid h1
      clear h1
      have HB4 := Lib.hid (HB3.out.trans (hb.mono HB3.out.size))
      have BC4 := Lib.hid (BC3.out.on hb)
      have VC4 := Lib.hid (VC3.out.on hb)
      have VX4 := Lib.hid (VX3.out.on hb)
      have V14 := Lib.hid (V13.out.on hb)
      have B74 := Lib.hid (B73.out.on hb)
      have B84 := Lib.hid (B83.out.on hb)
      have V24 := Lib.hid (V23.out.on hb)
      clear hb HB3 BC3 VC3 VX3 V13 B73 B83 V23 
      go_upto_region 5 with fail
      obtain ⟨g10, hg10⟩ : ∃ g10, g10 = w4.heap.size := ⟨_, rfl⟩
      obtain ⟨wz0, hz0⟩ : ∃ wz, wz = w4.alloc (.cells #[.int .i64 m, .slice A3 n c3] 32) := ⟨_, rfl⟩
      obtain ⟨g11, hg11⟩ : ∃ g11, g11 = wz0.heap.size := ⟨_, rfl⟩
      obtain ⟨w5, hz1⟩ : ∃ wz, wz = wz0.alloc (.cells #[.int .i64 za, .string zt, .bool zd] 33) := ⟨_, rfl⟩
      have hg111 : g10 + 1 = g11 := by rw [hg11, hz0, hg10]; simp
      rw [← hg10, hg111, ← hz0, ← hz1]
      have hb : Below w4.heap.size w4 w5 := by rw [hz1, hz0]; exact (((Below.refl _ _).alloc (Nat.le_refl _) _).alloc (by simp) _)
      have B105 := Lib.hid (show Box w5 g10 32 #[.int .i64 m, .slice A3 n c3] from (by rw [hz1]; exact Box.push (by rw [hz0]; exact Box.at_ w4 _ _ hg10) _))
      have B115 := Lib.hid (show Box w5 g11 33 #[.int .i64 za, .string zt, .bool zd] from (by rw [hz1]; exact Box.at_ wz0 _ _ hg11))
      have HGg10 := Lib.hid (show w.heap.size ≤ g10 from by rw [hg10]; exact HB4.out.size)
      have HN_g10_g7 := Lib.hid (show g10 ≠ g7 from by have := B74.out.lt; omega)
      have HN_g11_g7 := Lib.hid (show g11 ≠ g7 from by have := B74.out.lt; omega)
      have HN_g10_g8 := Lib.hid (show g10 ≠ g8 from by have := B84.out.lt; omega)
      have HN_g11_g8 := Lib.hid (show g11 ≠ g8 from by have := B84.out.lt; omega)
      have HB5 := Lib.hid (HB4.out.trans (hb.mono HB4.out.size))
      have BC5 := Lib.hid (BC4.out.on hb)
      have VC5 := Lib.hid (VC4.out.on hb)
      have VX5 := Lib.hid (VX4.out.on hb)
      have V15 := Lib.hid (V14.out.on hb)
      have B75 := Lib.hid (B74.out.on hb)
      have B85 := Lib.hid (B84.out.on hb)
      have V25 := Lib.hid (V24.out.on hb)
      have V35 := Lib.hid (V34.out.on hb)
      clear hb HB4 BC4 VC4 VX4 V14 B74 B84 V24 V34 hg10 hg11 hg111 hz0 hz1
      have kBC0 := Box.cell BC5.out 0 rfl
      have kBC1 := Box.cell BC5.out 1 rfl
      go_wp2_with fail
      refine (put_s m _ VC5.out HLK.out.1 VX5.out HLK.out.2.2.1 HPUT.out HNP.out HNO.out HER.out).mono ?_
      rintro e w6 ⟨A4, c4, B4, d4, rfl, h1, h2, hb⟩
      have V46 := Lib.hid h1
      clear h1
      have V56 := Lib.hid h2
      clear h2
      have HB6 := Lib.hid (HB5.out.trans (hb.mono HB5.out.size))
      have BC6 := Lib.hid (BC5.out.on hb)
      have VC6 := Lib.hid (VC5.out.on hb)
      have VX6 := Lib.hid (VX5.out.on hb)
      have V16 := Lib.hid (V15.out.on hb)
      have B76 := Lib.hid (B75.out.on hb)
      have B86 := Lib.hid (B85.out.on hb)
      have V26 := Lib.hid (V25.out.on hb)
      have V36 := Lib.hid (V35.out.on hb)
      have B106 := Lib.hid (B105.out.on hb)
      have B116 := Lib.hid (B115.out.on hb)
      clear hb HB5 BC5 VC5 VX5 V15 B75 B85 V25 V35 B105 B115 kBC0 kBC1
      go_upto_region 6 with fail
      obtain ⟨g13, hg13⟩ : ∃ g13, g13 = w6.heap.size := ⟨_, rfl⟩
      obtain ⟨w7, hz0⟩ : ∃ wz, wz = w6.alloc (.cells #[.int .i64 m, .slice A4 np c4] 24) := ⟨_, rfl⟩
      rw [← hg13, ← hz0]
      have hb : Below w6.heap.size w6 w7 := by rw [hz0]; exact ((Below.refl _ _).alloc (Nat.le_refl _) _)
      have B137 := Lib.hid (show Box w7 g13 24 #[.int .i64 m, .slice A4 np c4] from (by rw [hz0]; exact Box.at_ w6 _ _ hg13))
      have HGg13 := Lib.hid (show w.heap.size ≤ g13 from by rw [hg13]; exact HB6.out.size)
      have HN_g13_g7 := Lib.hid (show g13 ≠ g7 from by have := B76.out.lt; omega)
      have HN_g13_g8 := Lib.hid (show g13 ≠ g8 from by have := B86.out.lt; omega)
      have HN_g13_g10 := Lib.hid (show g13 ≠ g10 from by have := B106.out.lt; omega)
      have HN_g13_g11 := Lib.hid (show g13 ≠ g11 from by have := B116.out.lt; omega)
      have HB7 := Lib.hid (HB6.out.trans (hb.mono HB6.out.size))
      have BC7 := Lib.hid (BC6.out.on hb)
      have VC7 := Lib.hid (VC6.out.on hb)
      have VX7 := Lib.hid (VX6.out.on hb)
      have V17 := Lib.hid (V16.out.on hb)
      have B77 := Lib.hid (B76.out.on hb)
      have B87 := Lib.hid (B86.out.on hb)
      have V27 := Lib.hid (V26.out.on hb)
      have V37 := Lib.hid (V36.out.on hb)
      have B107 := Lib.hid (B106.out.on hb)
      have B117 := Lib.hid (B116.out.on hb)
      have V47 := Lib.hid (V46.out.on hb)
      have V57 := Lib.hid (V56.out.on hb)
      clear hb HB6 BC6 VC6 VX6 V16 B76 B86 V26 V36 B106 B116 V46 V56 hg13  hz0
      have kBC0 := Box.cell BC7.out 0 rfl
      have kBC1 := Box.cell BC7.out 1 rfl
      go_wp2_with fail
      refine (ref_s m _ VC7.out HL.out HLK.out.2.1).mono ?_
      rintro e w8 ⟨A5, c5, rfl, h1, hb⟩
      have V68 := Lib.hid h1
      clear h1
      have HB8 := Lib.hid (HB7.out.trans (hb.mono HB7.out.size))
      have BC8 := Lib.hid (BC7.out.on hb)
      have VC8 := Lib.hid (VC7.out.on hb)
      have VX8 := Lib.hid (VX7.out.on hb)
      have V18 := Lib.hid (V17.out.on hb)
      have B78 := Lib.hid (B77.out.on hb)
      have B88 := Lib.hid (B87.out.on hb)
      have V28 := Lib.hid (V27.out.on hb)
      have V38 := Lib.hid (V37.out.on hb)
      have B108 := Lib.hid (B107.out.on hb)
      have B118 := Lib.hid (B117.out.on hb)
      have V48 := Lib.hid (V47.out.on hb)
      have V58 := Lib.hid (V57.out.on hb)
      have B138 := Lib.hid (B137.out.on hb)
      clear hb HB7 BC7 VC7 VX7 V17 B77 B87 V27 V37 B107 B117 V47 V57 B137 kBC0 kBC1
      go_wp2_with fail
      refine (refs_s _ VX8.out HLX.out HLK.out.2.2.2).mono ?_
      rintro e w9 ⟨A6, c6, rfl, h1, hb⟩
      have V79 := Lib.hid h1
      clear h1
      have HB9 := Lib.hid (HB8.out.trans (hb.mono HB8.out.size))
      have BC9 := Lib.hid (BC8.out.on hb)
      have VC9 := Lib.hid (VC8.out.on hb)
      have VX9 := Lib.hid (VX8.out.on hb)
      have V19 := Lib.hid (V18.out.on hb)
      have B79 := Lib.hid (B78.out.on hb)
      have B89 := Lib.hid (B88.out.on hb)
      have V29 := Lib.hid (V28.out.on hb)
      have V39 := Lib.hid (V38.out.on hb)
      have B109 := Lib.hid (B108.out.on hb)
      have B119 := Lib.hid (B118.out.on hb)
      have V49 := Lib.hid (V48.out.on hb)
      have V59 := Lib.hid (V58.out.on hb)
      have B139 := Lib.hid (B138.out.on hb)
      have V69 := Lib.hid (V68.out.on hb)
      clear hb HB8 BC8 VC8 VX8 V18 B78 B88 V28 V38 B108 B118 V48 V58 B138 V68 
      go_wp2_with fail
      refine (rput_s m _ V69.out HLK.out.1 V79.out HLK.out.2.2.1 HPUT.out HNP.out HNO.out HR.out).mono ?_
      rintro e w10 ⟨A7, c7, B7, d7, rfl, h1, h2, hb⟩
      have V810 := Lib.hid h1
      clear h1
      have V910 := Lib.hid h2
      clear h2
      have HB10 := Lib.hid (HB9.out.trans (hb.mono HB9.out.size))
      have BC10 := Lib.hid (BC9.out.on hb)
      have VC10 := Lib.hid (VC9.out.on hb)
      have VX10 := Lib.hid (VX9.out.on hb)
      have V110 := Lib.hid (V19.out.on hb)
      have B710 := Lib.hid (B79.out.on hb)
      have B810 := Lib.hid (B89.out.on hb)
      have V210 := Lib.hid (V29.out.on hb)
      have V310 := Lib.hid (V39.out.on hb)
      have B1010 := Lib.hid (B109.out.on hb)
      have B1110 := Lib.hid (B119.out.on hb)
      have V410 := Lib.hid (V49.out.on hb)
      have V510 := Lib.hid (V59.out.on hb)
      have B1310 := Lib.hid (B139.out.on hb)
      have V610 := Lib.hid (V69.out.on hb)
      have V710 := Lib.hid (V79.out.on hb)
      clear hb HB9 BC9 VC9 VX9 V19 B79 B89 V29 V39 B109 B119 V49 V59 B139 V69 V79 
      go_upto_region 7 with fail
      obtain ⟨g16, hg16⟩ : ∃ g16, g16 = w10.heap.size := ⟨_, rfl⟩
      obtain ⟨w11, hz0⟩ : ∃ wz, wz = w10.alloc (.cells #[.int .i64 m, .slice A7 np c7] 32) := ⟨_, rfl⟩
      rw [← hg16, ← hz0]
      have hb : Below w10.heap.size w10 w11 := by rw [hz0]; exact ((Below.refl _ _).alloc (Nat.le_refl _) _)
      have B1611 := Lib.hid (show Box w11 g16 32 #[.int .i64 m, .slice A7 np c7] from (by rw [hz0]; exact Box.at_ w10 _ _ hg16))
      have HGg16 := Lib.hid (show w.heap.size ≤ g16 from by rw [hg16]; exact HB10.out.size)
      have HN_g16_g7 := Lib.hid (show g16 ≠ g7 from by have := B710.out.lt; omega)
      have HN_g16_g8 := Lib.hid (show g16 ≠ g8 from by have := B810.out.lt; omega)
      have HN_g16_g10 := Lib.hid (show g16 ≠ g10 from by have := B1010.out.lt; omega)
      have HN_g16_g11 := Lib.hid (show g16 ≠ g11 from by have := B1110.out.lt; omega)
      have HN_g16_g13 := Lib.hid (show g16 ≠ g13 from by have := B1310.out.lt; omega)
      have HB11 := Lib.hid (HB10.out.trans (hb.mono HB10.out.size))
      have BC11 := Lib.hid (BC10.out.on hb)
      have VC11 := Lib.hid (VC10.out.on hb)
      have VX11 := Lib.hid (VX10.out.on hb)
      have V111 := Lib.hid (V110.out.on hb)
      have B711 := Lib.hid (B710.out.on hb)
      have B811 := Lib.hid (B810.out.on hb)
      have V211 := Lib.hid (V210.out.on hb)
      have V311 := Lib.hid (V310.out.on hb)
      have B1011 := Lib.hid (B1010.out.on hb)
      have B1111 := Lib.hid (B1110.out.on hb)
      have V411 := Lib.hid (V410.out.on hb)
      have V511 := Lib.hid (V510.out.on hb)
      have B1311 := Lib.hid (B1310.out.on hb)
      have V611 := Lib.hid (V610.out.on hb)
      have V711 := Lib.hid (V710.out.on hb)
      have V811 := Lib.hid (V810.out.on hb)
      have V911 := Lib.hid (V910.out.on hb)
      clear hb HB10 BC10 VC10 VX10 V110 B710 B810 V210 V310 B1010 B1110 V410 V510 B1310 V610 V710 V810 V910 hg16  hz0
      have kBC0 := Box.cell BC11.out 0 rfl
      have kBC1 := Box.cell BC11.out 1 rfl
      go_wp2_with fail
      refine (clean_s m _ VC11.out HLK.out.1 HCL.out HNQ.out HND.out).mono ?_
      rintro e w12 ⟨A8, c8, B8, d8, rfl, h1, h2, hb⟩
      have V1012 := Lib.hid h1
      clear h1
      have V1112 := Lib.hid h2
      clear h2
      have HB12 := Lib.hid (HB11.out.trans (hb.mono HB11.out.size))
      have BC12 := Lib.hid (BC11.out.on hb)
      have VC12 := Lib.hid (VC11.out.on hb)
      have VX12 := Lib.hid (VX11.out.on hb)
      have V112 := Lib.hid (V111.out.on hb)
      have B712 := Lib.hid (B711.out.on hb)
      have B812 := Lib.hid (B811.out.on hb)
      have V212 := Lib.hid (V211.out.on hb)
      have V312 := Lib.hid (V311.out.on hb)
      have B1012 := Lib.hid (B1011.out.on hb)
      have B1112 := Lib.hid (B1111.out.on hb)
      have V412 := Lib.hid (V411.out.on hb)
      have V512 := Lib.hid (V511.out.on hb)
      have B1312 := Lib.hid (B1311.out.on hb)
      have V612 := Lib.hid (V611.out.on hb)
      have V712 := Lib.hid (V711.out.on hb)
      have V812 := Lib.hid (V811.out.on hb)
      have V912 := Lib.hid (V911.out.on hb)
      have B1612 := Lib.hid (B1611.out.on hb)
      clear hb HB11 BC11 VC11 VX11 V111 B711 B811 V211 V311 B1011 B1111 V411 V511 B1311 V611 V711 V811 V911 B1611 kBC0 kBC1
      go_upto_region 8 with fail
      obtain ⟨g19, hg19⟩ : ∃ g19, g19 = w12.heap.size := ⟨_, rfl⟩
      obtain ⟨w13, hz0⟩ : ∃ wz, wz = w12.alloc (.cells #[.int .i64 m, .slice A8 nq c8] 24) := ⟨_, rfl⟩
      rw [← hg19, ← hz0]
      have hb : Below w12.heap.size w12 w13 := by rw [hz0]; exact ((Below.refl _ _).alloc (Nat.le_refl _) _)
      have B1913 := Lib.hid (show Box w13 g19 24 #[.int .i64 m, .slice A8 nq c8] from (by rw [hz0]; exact Box.at_ w12 _ _ hg19))
      have HGg19 := Lib.hid (show w.heap.size ≤ g19 from by rw [hg19]; exact HB12.out.size)
      have HN_g19_g7 := Lib.hid (show g19 ≠ g7 from by have := B712.out.lt; omega)
      have HN_g19_g8 := Lib.hid (show g19 ≠ g8 from by have := B812.out.lt; omega)
      have HN_g19_g10 := Lib.hid (show g19 ≠ g10 from by have := B1012.out.lt; omega)
      have HN_g19_g11 := Lib.hid (show g19 ≠ g11 from by have := B1112.out.lt; omega)
      have HN_g19_g13 := Lib.hid (show g19 ≠ g13 from by have := B1312.out.lt; omega)
      have HN_g19_g16 := Lib.hid (show g19 ≠ g16 from by have := B1612.out.lt; omega)
      have HB13 := Lib.hid (HB12.out.trans (hb.mono HB12.out.size))
      have BC13 := Lib.hid (BC12.out.on hb)
      have VC13 := Lib.hid (VC12.out.on hb)
      have VX13 := Lib.hid (VX12.out.on hb)
      have V113 := Lib.hid (V112.out.on hb)
      have B713 := Lib.hid (B712.out.on hb)
      have B813 := Lib.hid (B812.out.on hb)
      have V213 := Lib.hid (V212.out.on hb)
      have V313 := Lib.hid (V312.out.on hb)
      have B1013 := Lib.hid (B1012.out.on hb)
      have B1113 := Lib.hid (B1112.out.on hb)
      have V413 := Lib.hid (V412.out.on hb)
      have V513 := Lib.hid (V512.out.on hb)
      have B1313 := Lib.hid (B1312.out.on hb)
      have V613 := Lib.hid (V612.out.on hb)
      have V713 := Lib.hid (V712.out.on hb)
      have V813 := Lib.hid (V812.out.on hb)
      have V913 := Lib.hid (V912.out.on hb)
      have B1613 := Lib.hid (B1612.out.on hb)
      have V1013 := Lib.hid (V1012.out.on hb)
      have V1113 := Lib.hid (V1112.out.on hb)
      clear hb HB12 BC12 VC12 VX12 V112 B712 B812 V212 V312 B1012 B1112 V412 V512 B1312 V612 V712 V812 V912 B1612 V1012 V1112 hg19  hz0
      have kBC0 := Box.cell BC13.out 0 rfl
      have kBC1 := Box.cell BC13.out 1 rfl
      go_wp2_with fail
      refine (ref_s m _ VC13.out HL.out HLK.out.2.1).mono ?_
      rintro e w14 ⟨A9, c9, rfl, h1, hb⟩
      have V1214 := Lib.hid h1
      clear h1
      have HB14 := Lib.hid (HB13.out.trans (hb.mono HB13.out.size))
      have BC14 := Lib.hid (BC13.out.on hb)
      have VC14 := Lib.hid (VC13.out.on hb)
      have VX14 := Lib.hid (VX13.out.on hb)
      have V114 := Lib.hid (V113.out.on hb)
      have B714 := Lib.hid (B713.out.on hb)
      have B814 := Lib.hid (B813.out.on hb)
      have V214 := Lib.hid (V213.out.on hb)
      have V314 := Lib.hid (V313.out.on hb)
      have B1014 := Lib.hid (B1013.out.on hb)
      have B1114 := Lib.hid (B1113.out.on hb)
      have V414 := Lib.hid (V413.out.on hb)
      have V514 := Lib.hid (V513.out.on hb)
      have B1314 := Lib.hid (B1313.out.on hb)
      have V614 := Lib.hid (V613.out.on hb)
      have V714 := Lib.hid (V713.out.on hb)
      have V814 := Lib.hid (V813.out.on hb)
      have V914 := Lib.hid (V913.out.on hb)
      have B1614 := Lib.hid (B1613.out.on hb)
      have V1014 := Lib.hid (V1013.out.on hb)
      have V1114 := Lib.hid (V1113.out.on hb)
      have B1914 := Lib.hid (B1913.out.on hb)
      clear hb HB13 BC13 VC13 VX13 V113 B713 B813 V213 V313 B1013 B1113 V413 V513 B1313 V613 V713 V813 V913 B1613 V1013 V1113 B1913 kBC0 kBC1
      go_wp2_with fail
      refine (rclean_s m _ V1214.out HLK.out.1 HCL.out HNQ.out HND.out).mono ?_
      rintro e w15 ⟨A10, c10, B10, d10, rfl, h1, h2, hb⟩
      have V1315 := Lib.hid h1
      clear h1
      have V1415 := Lib.hid h2
      clear h2
      have HB15 := Lib.hid (HB14.out.trans (hb.mono HB14.out.size))
      have BC15 := Lib.hid (BC14.out.on hb)
      have VC15 := Lib.hid (VC14.out.on hb)
      have VX15 := Lib.hid (VX14.out.on hb)
      have V115 := Lib.hid (V114.out.on hb)
      have B715 := Lib.hid (B714.out.on hb)
      have B815 := Lib.hid (B814.out.on hb)
      have V215 := Lib.hid (V214.out.on hb)
      have V315 := Lib.hid (V314.out.on hb)
      have B1015 := Lib.hid (B1014.out.on hb)
      have B1115 := Lib.hid (B1114.out.on hb)
      have V415 := Lib.hid (V414.out.on hb)
      have V515 := Lib.hid (V514.out.on hb)
      have B1315 := Lib.hid (B1314.out.on hb)
      have V615 := Lib.hid (V614.out.on hb)
      have V715 := Lib.hid (V714.out.on hb)
      have V815 := Lib.hid (V814.out.on hb)
      have V915 := Lib.hid (V914.out.on hb)
      have B1615 := Lib.hid (B1614.out.on hb)
      have V1015 := Lib.hid (V1014.out.on hb)
      have V1115 := Lib.hid (V1114.out.on hb)
      have B1915 := Lib.hid (B1914.out.on hb)
      have V1215 := Lib.hid (V1214.out.on hb)
      clear hb HB14 BC14 VC14 VX14 V114 B714 B814 V214 V314 B1014 B1114 V414 V514 B1314 V614 V714 V814 V914 B1614 V1014 V1114 B1914 V1214 
      go_upto_region 9 with fail
      obtain ⟨g21, hg21⟩ : ∃ g21, g21 = w15.heap.size := ⟨_, rfl⟩
      obtain ⟨w16, hz0⟩ : ∃ wz, wz = w15.alloc (.cells #[.int .i64 m, .slice A10 nq c10] 32) := ⟨_, rfl⟩
      rw [← hg21, ← hz0]
      have hb : Below w15.heap.size w15 w16 := by rw [hz0]; exact ((Below.refl _ _).alloc (Nat.le_refl _) _)
      have B2116 := Lib.hid (show Box w16 g21 32 #[.int .i64 m, .slice A10 nq c10] from (by rw [hz0]; exact Box.at_ w15 _ _ hg21))
      have HGg21 := Lib.hid (show w.heap.size ≤ g21 from by rw [hg21]; exact HB15.out.size)
      have HN_g21_g7 := Lib.hid (show g21 ≠ g7 from by have := B715.out.lt; omega)
      have HN_g21_g8 := Lib.hid (show g21 ≠ g8 from by have := B815.out.lt; omega)
      have HN_g21_g10 := Lib.hid (show g21 ≠ g10 from by have := B1015.out.lt; omega)
      have HN_g21_g11 := Lib.hid (show g21 ≠ g11 from by have := B1115.out.lt; omega)
      have HN_g21_g13 := Lib.hid (show g21 ≠ g13 from by have := B1315.out.lt; omega)
      have HN_g21_g16 := Lib.hid (show g21 ≠ g16 from by have := B1615.out.lt; omega)
      have HN_g21_g19 := Lib.hid (show g21 ≠ g19 from by have := B1915.out.lt; omega)
      have HB16 := Lib.hid (HB15.out.trans (hb.mono HB15.out.size))
      have BC16 := Lib.hid (BC15.out.on hb)
      have VC16 := Lib.hid (VC15.out.on hb)
      have VX16 := Lib.hid (VX15.out.on hb)
      have V116 := Lib.hid (V115.out.on hb)
      have B716 := Lib.hid (B715.out.on hb)
      have B816 := Lib.hid (B815.out.on hb)
      have V216 := Lib.hid (V215.out.on hb)
      have V316 := Lib.hid (V315.out.on hb)
      have B1016 := Lib.hid (B1015.out.on hb)
      have B1116 := Lib.hid (B1115.out.on hb)
      have V416 := Lib.hid (V415.out.on hb)
      have V516 := Lib.hid (V515.out.on hb)
      have B1316 := Lib.hid (B1315.out.on hb)
      have V616 := Lib.hid (V615.out.on hb)
      have V716 := Lib.hid (V715.out.on hb)
      have V816 := Lib.hid (V815.out.on hb)
      have V916 := Lib.hid (V915.out.on hb)
      have B1616 := Lib.hid (B1615.out.on hb)
      have V1016 := Lib.hid (V1015.out.on hb)
      have V1116 := Lib.hid (V1115.out.on hb)
      have B1916 := Lib.hid (B1915.out.on hb)
      have V1216 := Lib.hid (V1215.out.on hb)
      have V1316 := Lib.hid (V1315.out.on hb)
      have V1416 := Lib.hid (V1415.out.on hb)
      clear hb HB15 BC15 VC15 VX15 V115 B715 B815 V215 V315 B1015 B1115 V415 V515 B1315 V615 V715 V815 V915 B1615 V1015 V1115 B1915 V1215 V1315 V1415 hg21  hz0
      refine wp_region_phase 14 [77, 78, 79, 80, 81, 82, 83, 84, 85, 86, 87, 88, 89, 90, 91, 92, 93, 94, 95, 96, 97, 98] (by kernel_rfl) [] [] (fun _ _ => True) 0 rfl (by kernel_rfl) (SP (fun wx => Below w16.heap.size w16 wx) (fun _ => True) (fun _ => True)) (fun wa wb => Below wa.heap.size wa wb) (TellsV m A A1 A3 n c c1 c3 za zt zd is R l) (by kernel_rfl) (SP.on below_grow (fun _ _ _ _ => trivial) (fun _ _ _ _ => trivial)) (fun _ t v wa wb h1 h2 => h2.on h1) (fun _ _ _ _ _ _ _ => trivial) (Below.refl _ _).drew trivial (phase0 ?_) ?_
      · refine Steps1.cons (fun _ ax wx hS _ hG => ?_) (Steps1.cons (fun _ ax wx hS _ hG => ?_) (Steps1.cons (fun _ ax wx hS _ hG => ?_) (Steps1.cons (fun _ ax wx hS _ hG => ?_) (Steps1.cons (fun _ ax wx hS _ hG => ?_) (Steps1.cons (fun _ ax wx hS _ hG => ?_) (Steps1.cons (fun _ ax wx hS _ hG => ?_) (Steps1.cons (fun _ ax wx hS _ hG => ?_) (Steps1.cons (fun _ ax wx hS _ hG => ?_) (Steps1.cons (fun _ ax wx hS _ hG => ?_) (Steps1.cons (fun _ ax wx hS _ hG => ?_) (Steps1.cons (fun _ ax wx hS _ hG => ?_) (Steps1.cons (fun _ ax wx hS _ hG => ?_) (Steps1.cons (fun _ ax wx hS _ hG => ?_) (Steps1.cons (fun _ ax wx hS _ hG => ?_) (Steps1.cons (fun _ ax wx hS _ hG => ?_) (Steps1.cons (fun _ ax wx hS _ hG => ?_) (Steps1.cons (fun _ ax wx hS _ hG => ?_) (Steps1.cons (fun _ ax wx hS _ hG => ?_) (Steps1.cons (fun _ ax wx hS _ hG => ?_) (Steps1.cons (fun _ ax wx hS _ hG => ?_) (Steps1.cons (fun _ ax wx hS _ hG => ?_) Steps1.nil)))))))))))))))))))))
        · have q7 := hG.old 7 (by kernel_rfl) (by kernel_rfl)
          obtain ⟨z0, z1⟩ := (⟨Box.cell (B716.out.on hS) 0 rfl, Box.cell (B716.out.on hS) 1 rfl⟩ : _ ∧ _)
          refine step_slot rfl rfl rfl (step_value (v := .agg #[.int .i64 m, .slice A1 n c1]) (w' := wx) rfl rfl ?_ (Below.refl _ _) (fun d hd => by cases hd; exact rfl))
          go_simp
        · have q10 := hG.old 10 (by kernel_rfl) (by kernel_rfl)
          obtain ⟨z0, z1⟩ := (⟨Box.cell (B1016.out.on hS) 0 rfl, Box.cell (B1016.out.on hS) 1 rfl⟩ : _ ∧ _)
          refine step_slot rfl rfl rfl (step_value (v := .agg #[.int .i64 m, .slice A3 n c3]) (w' := wx) rfl rfl ?_ (Below.refl _ _) (fun d hd => by cases hd; exact rfl))
          go_simp
        · obtain ⟨_, q77, rfl⟩ := hG.new 77 (by kernel_rfl) (by kernel_rfl)
          obtain ⟨_, q78, rfl⟩ := hG.new 78 (by kernel_rfl) (by kernel_rfl)
          refine step_slot rfl rfl rfl (step_call (w1 := wx) (f := 18) (args := #[.agg #[.int .i64 m, .slice A1 n c1], .agg #[.int .i64 m, .slice A3 n c3]]) rfl rfl ?_ ((same_yes m wx (V116.out.on hS) (V316.out.on hS) HGL.out).mono ?_))
          · skip
            go_simp
          · rintro e w' ⟨rfl, hq⟩
            exact ⟨_, rfl, hq, fun d hd => by cases hd; exact rfl⟩
        · obtain ⟨_, q79, rfl⟩ := hG.new 79 (by kernel_rfl) (by kernel_rfl)
          refine step_slot rfl rfl rfl (step_value (v := .bool false) (w' := wx) rfl rfl ?_ (Below.refl _ _) (fun d hd => by cases hd; exact rfl))
          go_simp
        · obtain ⟨_, q80, rfl⟩ := hG.new 80 (by kernel_rfl) (by kernel_rfl)
          refine step_slot rfl rfl rfl (step_value (v := .bool false) (w' := wx) rfl rfl ?_ (Below.refl _ _) (fun d hd => by cases hd; exact rfl))
          go_simp
        · obtain ⟨_, q81, rfl⟩ := hG.new 81 (by kernel_rfl) (by kernel_rfl)
          have q8 := hG.old 8 (by kernel_rfl) (by kernel_rfl)
          obtain ⟨z0, z1, z2⟩ := (⟨Box.cell (B816.out.on hS) 0 rfl, Box.cell (B816.out.on hS) 1 rfl, Box.cell (B816.out.on hS) 2 rfl⟩ : _ ∧ _ ∧ _)
          refine step_slot rfl rfl rfl (step_value (v := .agg #[.int .i64 za, .string zt, .bool zd]) (w' := wx) rfl (by simp [Region.wanted, yielded, q81, undef]) ?_ (Below.refl _ _) (fun d hd => by cases hd; exact rfl))
          go_simp
        · obtain ⟨_, q81, rfl⟩ := hG.new 81 (by kernel_rfl) (by kernel_rfl)
          have q11 := hG.old 11 (by kernel_rfl) (by kernel_rfl)
          obtain ⟨z0, z1, z2⟩ := (⟨Box.cell (B1116.out.on hS) 0 rfl, Box.cell (B1116.out.on hS) 1 rfl, Box.cell (B1116.out.on hS) 2 rfl⟩ : _ ∧ _ ∧ _)
          refine step_slot rfl rfl rfl (step_value (v := .agg #[.int .i64 za, .string zt, .bool zd]) (w' := wx) rfl (by simp [Region.wanted, yielded, q81, undef]) ?_ (Below.refl _ _) (fun d hd => by cases hd; exact rfl))
          go_simp
        · obtain ⟨_, q81, rfl⟩ := hG.new 81 (by kernel_rfl) (by kernel_rfl)
          obtain ⟨_, q82, rfl⟩ := hG.new 82 (by kernel_rfl) (by kernel_rfl)
          obtain ⟨_, q83, rfl⟩ := hG.new 83 (by kernel_rfl) (by kernel_rfl)
          refine step_slot rfl rfl rfl (step_value (v := .bool false) (w' := wx) rfl (by simp [Region.wanted, yielded, q81, undef]) ?_ (Below.refl _ _) (fun d hd => by cases hd; exact rfl))
          go_simp
        · obtain ⟨_, q81, rfl⟩ := hG.new 81 (by kernel_rfl) (by kernel_rfl)
          obtain ⟨_, q84, rfl⟩ := hG.new 84 (by kernel_rfl) (by kernel_rfl)
          refine step_slot rfl rfl rfl (step_value (v := .bool false) (w' := wx) rfl rfl ?_ (Below.refl _ _) (fun d hd => by cases hd; exact rfl))
          go_simp
        · obtain ⟨_, q85, rfl⟩ := hG.new 85 (by kernel_rfl) (by kernel_rfl)
          refine step_slot rfl rfl rfl (step_value (v := .bool false) (w' := wx) rfl rfl ?_ (Below.refl _ _) (fun d hd => by cases hd; exact rfl))
          go_simp
        · obtain ⟨_, q86, rfl⟩ := hG.new 86 (by kernel_rfl) (by kernel_rfl)
          have q9 := hG.old 9 (by kernel_rfl) (by kernel_rfl)
          refine step_slot rfl rfl rfl (step_value (v := .bool is) (w' := wx) rfl (by simp [Region.wanted, yielded, q86, undef]) ?_ (Below.refl _ _) (fun d hd => by cases hd; exact rfl))
          go_simp
        · obtain ⟨_, q86, rfl⟩ := hG.new 86 (by kernel_rfl) (by kernel_rfl)
          have q12 := hG.old 12 (by kernel_rfl) (by kernel_rfl)
          refine step_slot rfl rfl rfl (step_value (v := .bool is) (w' := wx) rfl (by simp [Region.wanted, yielded, q86, undef]) ?_ (Below.refl _ _) (fun d hd => by cases hd; exact rfl))
          go_simp
        · obtain ⟨_, q86, rfl⟩ := hG.new 86 (by kernel_rfl) (by kernel_rfl)
          obtain ⟨_, q87, rfl⟩ := hG.new 87 (by kernel_rfl) (by kernel_rfl)
          obtain ⟨_, q88, rfl⟩ := hG.new 88 (by kernel_rfl) (by kernel_rfl)
          refine step_slot rfl rfl rfl (step_value (v := .bool false) (w' := wx) rfl (by simp [Region.wanted, yielded, q86, undef]) ?_ (Below.refl _ _) (fun d hd => by cases hd; exact rfl))
          go_simp
        · obtain ⟨_, q86, rfl⟩ := hG.new 86 (by kernel_rfl) (by kernel_rfl)
          obtain ⟨_, q89, rfl⟩ := hG.new 89 (by kernel_rfl) (by kernel_rfl)
          refine step_slot rfl rfl rfl (step_value (v := .bool false) (w' := wx) rfl rfl ?_ (Below.refl _ _) (fun d hd => by cases hd; exact rfl))
          go_simp
        · obtain ⟨_, q90, rfl⟩ := hG.new 90 (by kernel_rfl) (by kernel_rfl)
          refine step_slot rfl rfl rfl (step_value (v := .bool false) (w' := wx) rfl rfl ?_ (Below.refl _ _) (fun d hd => by cases hd; exact rfl))
          go_simp
        · obtain ⟨_, q91, rfl⟩ := hG.new 91 (by kernel_rfl) (by kernel_rfl)
          have q3 := hG.old 3 (by kernel_rfl) (by kernel_rfl)
          obtain ⟨z0, z1⟩ := (⟨Box.cell (BC16.out.on hS) 0 rfl, Box.cell (BC16.out.on hS) 1 rfl⟩ : _ ∧ _)
          refine step_slot rfl rfl rfl (step_value (v := .agg #[.int .i64 m, .slice A n c]) (w' := wx) rfl (by simp [Region.wanted, yielded, q91, undef]) ?_ (Below.refl _ _) (fun d hd => by cases hd; exact rfl))
          go_simp
        · obtain ⟨_, q91, rfl⟩ := hG.new 91 (by kernel_rfl) (by kernel_rfl)
          obtain ⟨_, q92, rfl⟩ := hG.new 92 (by kernel_rfl) (by kernel_rfl)
          refine step_slot rfl rfl rfl (step_call (w1 := wx) (f := 19) (args := #[.agg #[.int .i64 m, .slice A n c]]) rfl (by simp [Region.wanted, yielded, q91, undef]) ?_ ((right_s m wx (VC16.out.on hS) (Nat.le_trans HLK.out.1 (by decide)) HR.out).mono ?_))
          · skip
            go_simp
          · rintro e w' ⟨rfl, hq⟩
            exact ⟨_, rfl, hq, fun d hd => by cases hd; exact rfl⟩
        · obtain ⟨_, q91, rfl⟩ := hG.new 91 (by kernel_rfl) (by kernel_rfl)
          have q3 := hG.old 3 (by kernel_rfl) (by kernel_rfl)
          obtain ⟨z0, z1⟩ := (⟨Box.cell (BC16.out.on hS) 0 rfl, Box.cell (BC16.out.on hS) 1 rfl⟩ : _ ∧ _)
          refine step_slot rfl rfl rfl (step_value (v := .agg #[.int .i64 m, .slice A n c]) (w' := wx) rfl (by simp [Region.wanted, yielded, q91, undef]) ?_ (Below.refl _ _) (fun d hd => by cases hd; exact rfl))
          go_simp
        · obtain ⟨_, q91, rfl⟩ := hG.new 91 (by kernel_rfl) (by kernel_rfl)
          obtain ⟨_, q94, rfl⟩ := hG.new 94 (by kernel_rfl) (by kernel_rfl)
          refine step_slot rfl rfl rfl (step_call (w1 := wx) (f := 12) (args := #[.agg #[.int .i64 m, .slice A n c]]) rfl (by simp [Region.wanted, yielded, q91, undef]) ?_ ((ref_any m wx (VC16.out.on hS) HLK.out.1).mono ?_))
          · skip
            go_simp
          · rintro e w' ⟨s', rfl, hv, hq⟩
            exact ⟨_, rfl, hq, fun d hd => by cases hd; exact ⟨_, rfl, hv⟩⟩
        · obtain ⟨_, q91, rfl⟩ := hG.new 91 (by kernel_rfl) (by kernel_rfl)
          obtain ⟨v95, q95, h95⟩ := hG.new 95 (by kernel_rfl) (by kernel_rfl)
          have p95 : ∃ s', v95 = .agg #[.int .i64 m, s'] ∧ IV wx s' l := h95
          obtain ⟨s9, rfl, p95⟩ := p95
          refine step_slot rfl rfl rfl (step_call (w1 := wx) (f := 20) (args := #[.agg #[.int .i64 m, s9]]) rfl (by simp [Region.wanted, yielded, q91, undef]) ?_ ((rright_s m wx p95 (Nat.le_trans HLK.out.1 (by decide)) HR.out).mono ?_))
          · clear h95 p95
            go_simp
          · rintro e w' ⟨rfl, hq⟩
            exact ⟨_, rfl, hq, fun d hd => by cases hd; exact rfl⟩
        · obtain ⟨_, q91, rfl⟩ := hG.new 91 (by kernel_rfl) (by kernel_rfl)
          obtain ⟨_, q93, rfl⟩ := hG.new 93 (by kernel_rfl) (by kernel_rfl)
          obtain ⟨_, q96, rfl⟩ := hG.new 96 (by kernel_rfl) (by kernel_rfl)
          refine step_slot rfl rfl rfl (step_value (v := .bool false) (w' := wx) rfl (by simp [Region.wanted, yielded, q91, undef]) ?_ (Below.refl _ _) (fun d hd => by cases hd; exact rfl))
          go_simp
        · obtain ⟨_, q91, rfl⟩ := hG.new 91 (by kernel_rfl) (by kernel_rfl)
          obtain ⟨_, q97, rfl⟩ := hG.new 97 (by kernel_rfl) (by kernel_rfl)
          refine step_slot rfl rfl rfl (step_value (v := .bool false) (w' := wx) rfl rfl ?_ (Below.refl _ _) (fun d hd => by cases hd; exact rfl))
          go_simp
      intro fv w8 hS8 _ hV8
      have e98 : fv 98 = .bool false := hV8 98 (by decide)
      simp only [puts, Act.put, List.setIfInBounds_toArray, List.set_cons_succ, List.set_cons_zero]
      clear hV8
      rw [e98]
      have HBN := Lib.hid (HB16.out.trans ((show Below _ _ _ from hS8).mono HB16.out.size))
      have B13N := Lib.hid (B1316.out.on (show Below _ _ _ from hS8))
      have B16N := Lib.hid (B1616.out.on (show Below _ _ _ from hS8))
      have B19N := Lib.hid (B1916.out.on (show Below _ _ _ from hS8))
      have B21N := Lib.hid (B2116.out.on (show Below _ _ _ from hS8))
      have V4N := Lib.hid (V416.out.on (show Below _ _ _ from hS8))
      have V5N := Lib.hid (V516.out.on (show Below _ _ _ from hS8))
      have V8N := Lib.hid (V816.out.on (show Below _ _ _ from hS8))
      have V9N := Lib.hid (V916.out.on (show Below _ _ _ from hS8))
      have V10N := Lib.hid (V1016.out.on (show Below _ _ _ from hS8))
      have V11N := Lib.hid (V1116.out.on (show Below _ _ _ from hS8))
      have V13N := Lib.hid (V1316.out.on (show Below _ _ _ from hS8))
      have V14N := Lib.hid (V1416.out.on (show Below _ _ _ from hS8))
      clear hS8 HB16 BC16 VC16 VX16 V116 B716 B816 V216 V316 B1016 B1116 V416 V516 B1316 V616 V716 V816 V916 B1616 V1016 V1116 B1916 V1216 V1316 V1416 B2116
      obtain ⟨wN, hwN⟩ : ∃ wN, wN = w8 := ⟨_, rfl⟩
      rw [← hwN] at HBN B13N B16N B19N B21N V4N V5N V8N V9N V10N V11N V13N V14N ⊢
      clear hwN
      obtain ⟨bm, hbm⟩ : ∃ bm, mayM a = bm := ⟨_, rfl⟩
      obtain ⟨mm, hmm⟩ : ∃ mm : Int, (if mayM a then a else 0) = mm := ⟨_, rfl⟩
      obtain ⟨kk, hkk⟩ : ∃ kk : Int, (if mayM a then 0 else 1) = kk := ⟨_, rfl⟩
      have hnw := fun wx => new_any a wx
      rw [hmm, hkk] at hnw
      have HMM := Lib.hid hmm
      have HKK := Lib.hid hkk
      have HNW := Lib.hid hnw
      clear hbm hmm hkk hnw
      go_wp2_with fail
      refine (HNW.out _).mono ?_
      rintro e w17 ⟨rfl, hb⟩
      have HB17 := Lib.hid (HBN.out.trans (hb.mono HBN.out.size))
      have B1317 := Lib.hid (B13N.out.on hb)
      have B1617 := Lib.hid (B16N.out.on hb)
      have B1917 := Lib.hid (B19N.out.on hb)
      have B2117 := Lib.hid (B21N.out.on hb)
      have V417 := Lib.hid (V4N.out.on hb)
      have V517 := Lib.hid (V5N.out.on hb)
      have V817 := Lib.hid (V8N.out.on hb)
      have V917 := Lib.hid (V9N.out.on hb)
      have V1017 := Lib.hid (V10N.out.on hb)
      have V1117 := Lib.hid (V11N.out.on hb)
      have V1317 := Lib.hid (V13N.out.on hb)
      have V1417 := Lib.hid (V14N.out.on hb)
      clear hb HBN B13N B16N B19N B21N V4N V5N V8N V9N V10N V11N V13N V14N 
      go_upto_region 12 with fail
      obtain ⟨g23, hg23⟩ : ∃ g23, g23 = w17.heap.size := ⟨_, rfl⟩
      obtain ⟨w18, hz0⟩ : ∃ wz, wz = w17.alloc (.cells #[.int .i64 mm, .slice none 0 0] 24) := ⟨_, rfl⟩
      rw [← hg23, ← hz0]
      have hb : Below w17.heap.size w17 w18 := by rw [hz0]; exact ((Below.refl _ _).alloc (Nat.le_refl _) _)
      have B2318 := Lib.hid (show Box w18 g23 24 #[.int .i64 mm, .slice none 0 0] from (by rw [hz0]; exact Box.at_ w17 _ _ hg23))
      have HGg23 := Lib.hid (show w.heap.size ≤ g23 from by rw [hg23]; exact HB17.out.size)
      have HN_g23_g13 := Lib.hid (show g23 ≠ g13 from by have := B1317.out.lt; omega)
      have HN_g23_g16 := Lib.hid (show g23 ≠ g16 from by have := B1617.out.lt; omega)
      have HN_g23_g19 := Lib.hid (show g23 ≠ g19 from by have := B1917.out.lt; omega)
      have HN_g23_g21 := Lib.hid (show g23 ≠ g21 from by have := B2117.out.lt; omega)
      have HB18 := Lib.hid (HB17.out.trans (hb.mono HB17.out.size))
      have B1318 := Lib.hid (B1317.out.on hb)
      have B1618 := Lib.hid (B1617.out.on hb)
      have B1918 := Lib.hid (B1917.out.on hb)
      have B2118 := Lib.hid (B2117.out.on hb)
      have V418 := Lib.hid (V417.out.on hb)
      have V518 := Lib.hid (V517.out.on hb)
      have V818 := Lib.hid (V817.out.on hb)
      have V918 := Lib.hid (V917.out.on hb)
      have V1018 := Lib.hid (V1017.out.on hb)
      have V1118 := Lib.hid (V1117.out.on hb)
      have V1318 := Lib.hid (V1317.out.on hb)
      have V1418 := Lib.hid (V1417.out.on hb)
      clear hb HB17 B1317 B1617 B1917 B2117 V417 V517 V817 V917 V1017 V1117 V1317 V1417 hg23  hz0
      go_cut [128] (fun vv wx => vv = .bool false ∧ w18 = wx)
      case first =>
        have q0 := Box.cell B2318.out 0 rfl
        have q1 := Box.cell B2318.out 1 rfl
        by_cases h1 : 1 ≤ a
        · have g1 : decide (1 ≤ a) = true := decide_eq_true h1
          by_cases h2 : a ≤ 100
          · have hm : mayM a = true := by unfold mayM; exact decide_eq_true ⟨h1, h2⟩
            obtain rfl : kk = 0 := by rw [← HKK.out, hm]; rfl
            obtain rfl : mm = a := by rw [← HMM.out, hm]; rfl
            have g2 : decide (mm ≤ 100) = true := decide_eq_true h2
            have g3 : (mm != mm) = false := by simp
            go_wp2
            go_meet
            case rel => exact ⟨by first | rfl | trivial, by first | rfl | trivial⟩
          · have hm : mayM a = false := by unfold mayM; exact decide_eq_false (fun h => h2 h.2)
            obtain rfl : kk = 1 := by rw [← HKK.out, hm]; rfl
            have g2 : decide (a ≤ 100) = false := decide_eq_false h2
            go_wp2
            go_meet
            case rel => exact ⟨by first | rfl | trivial, by first | rfl | trivial⟩
        · have hm : mayM a = false := by unfold mayM; exact decide_eq_false (fun h => h1 h.1)
          obtain rfl : kk = 1 := by rw [← HKK.out, hm]; rfl
          have g1 : decide (1 ≤ a) = false := decide_eq_false h1
          go_wp2
          go_meet
          case rel => exact ⟨by first | rfl | trivial, by first | rfl | trivial⟩
      case rest =>
        obtain ⟨rfl, rfl⟩ := hcut
        cases R with
        | true =>
          obtain rfl : er = 0 := by rw [← HER.out, HR.out]; rfl
          have kB130 := Box.cell B1318.out 0 rfl
          have kB131 := Box.cell B1318.out 1 rfl
          have kB160 := Box.cell B1618.out 0 rfl
          have kB161 := Box.cell B1618.out 1 rfl
          go_wp2_with fail
          refine (same_yes m _ V418.out V818.out HPL.out).mono ?_
          rintro e w19 ⟨rfl, hb⟩
          have HB19 := Lib.hid (HB18.out.trans (hb.mono HB18.out.size))
          have B1319 := Lib.hid (B1318.out.on hb)
          have B1619 := Lib.hid (B1618.out.on hb)
          have B1919 := Lib.hid (B1918.out.on hb)
          have B2119 := Lib.hid (B2118.out.on hb)
          have V419 := Lib.hid (V418.out.on hb)
          have V519 := Lib.hid (V518.out.on hb)
          have V819 := Lib.hid (V818.out.on hb)
          have V919 := Lib.hid (V918.out.on hb)
          have V1019 := Lib.hid (V1018.out.on hb)
          have V1119 := Lib.hid (V1118.out.on hb)
          have V1319 := Lib.hid (V1318.out.on hb)
          have V1419 := Lib.hid (V1418.out.on hb)
          have B2319 := Lib.hid (B2318.out.on hb)
          clear hb HB18 B1318 B1618 B1918 B2118 V418 V518 V818 V918 V1018 V1118 V1318 V1418 B2318 kB130 kB131 kB160 kB161
          go_wp2_with fail
          refine (refs_s _ V519.out HNO.out (by rw [← HNO.out]; exact HOL.out)).mono ?_
          rintro e w20 ⟨E1, f1, rfl, h1, hb⟩
          have VE20 := Lib.hid h1
          clear h1
          have HB20 := Lib.hid (HB19.out.trans (hb.mono HB19.out.size))
          have B1320 := Lib.hid (B1319.out.on hb)
          have B1620 := Lib.hid (B1619.out.on hb)
          have B1920 := Lib.hid (B1919.out.on hb)
          have B2120 := Lib.hid (B2119.out.on hb)
          have V420 := Lib.hid (V419.out.on hb)
          have V520 := Lib.hid (V519.out.on hb)
          have V820 := Lib.hid (V819.out.on hb)
          have V920 := Lib.hid (V919.out.on hb)
          have V1020 := Lib.hid (V1019.out.on hb)
          have V1120 := Lib.hid (V1119.out.on hb)
          have V1320 := Lib.hid (V1319.out.on hb)
          have V1420 := Lib.hid (V1419.out.on hb)
          have B2320 := Lib.hid (B2319.out.on hb)
          clear hb HB19 B1319 B1619 B1919 B2119 V419 V519 V819 V919 V1019 V1119 V1319 V1419 B2319 
          go_wp2_with fail
          refine (rsame_yes VE20.out V920.out (Nat.le_trans HOL.out (by decide))).mono ?_
          rintro e w21 ⟨rfl, hb⟩
          have HB21 := Lib.hid (HB20.out.trans (hb.mono HB20.out.size))
          have B1321 := Lib.hid (B1320.out.on hb)
          have B1621 := Lib.hid (B1620.out.on hb)
          have B1921 := Lib.hid (B1920.out.on hb)
          have B2121 := Lib.hid (B2120.out.on hb)
          have V421 := Lib.hid (V420.out.on hb)
          have V521 := Lib.hid (V520.out.on hb)
          have V821 := Lib.hid (V820.out.on hb)
          have V921 := Lib.hid (V920.out.on hb)
          have V1021 := Lib.hid (V1020.out.on hb)
          have V1121 := Lib.hid (V1120.out.on hb)
          have V1321 := Lib.hid (V1320.out.on hb)
          have V1421 := Lib.hid (V1420.out.on hb)
          have B2321 := Lib.hid (B2320.out.on hb)
          have VE21 := Lib.hid (VE20.out.on hb)
          clear hb HB20 B1320 B1620 B1920 B2120 V420 V520 V820 V920 V1020 V1120 V1320 V1420 B2320 VE20 
          have kB190 := Box.cell B1921.out 0 rfl
          have kB191 := Box.cell B1921.out 1 rfl
          have kB210 := Box.cell B2121.out 0 rfl
          have kB211 := Box.cell B2121.out 1 rfl
          go_wp2_with fail
          refine (same_yes m _ V1021.out V1321.out HQL.out).mono ?_
          rintro e w22 ⟨rfl, hb⟩
          have HB22 := Lib.hid (HB21.out.trans (hb.mono HB21.out.size))
          have B1322 := Lib.hid (B1321.out.on hb)
          have B1622 := Lib.hid (B1621.out.on hb)
          have B1922 := Lib.hid (B1921.out.on hb)
          have B2122 := Lib.hid (B2121.out.on hb)
          have V422 := Lib.hid (V421.out.on hb)
          have V522 := Lib.hid (V521.out.on hb)
          have V822 := Lib.hid (V821.out.on hb)
          have V922 := Lib.hid (V921.out.on hb)
          have V1022 := Lib.hid (V1021.out.on hb)
          have V1122 := Lib.hid (V1121.out.on hb)
          have V1322 := Lib.hid (V1321.out.on hb)
          have V1422 := Lib.hid (V1421.out.on hb)
          have B2322 := Lib.hid (B2321.out.on hb)
          have VE22 := Lib.hid (VE21.out.on hb)
          clear hb HB21 B1321 B1621 B1921 B2121 V421 V521 V821 V921 V1021 V1121 V1321 V1421 B2321 VE21 kB190 kB191 kB210 kB211
          go_wp2_with fail
          refine (refs_s _ V1122.out HND.out (by rw [← HND.out]; exact HDL.out)).mono ?_
          rintro e w23 ⟨E2, f2, rfl, h1, hb⟩
          have VF23 := Lib.hid h1
          clear h1
          have HB23 := Lib.hid (HB22.out.trans (hb.mono HB22.out.size))
          have B1323 := Lib.hid (B1322.out.on hb)
          have B1623 := Lib.hid (B1622.out.on hb)
          have B1923 := Lib.hid (B1922.out.on hb)
          have B2123 := Lib.hid (B2122.out.on hb)
          have V423 := Lib.hid (V422.out.on hb)
          have V523 := Lib.hid (V522.out.on hb)
          have V823 := Lib.hid (V822.out.on hb)
          have V923 := Lib.hid (V922.out.on hb)
          have V1023 := Lib.hid (V1022.out.on hb)
          have V1123 := Lib.hid (V1122.out.on hb)
          have V1323 := Lib.hid (V1322.out.on hb)
          have V1423 := Lib.hid (V1422.out.on hb)
          have B2323 := Lib.hid (B2322.out.on hb)
          have VE23 := Lib.hid (VE22.out.on hb)
          clear hb HB22 B1322 B1622 B1922 B2122 V422 V522 V822 V922 V1022 V1122 V1322 V1422 B2322 VE22 
          go_wp2_with fail
          refine (rsame_yes VF23.out V1423.out (Nat.le_trans HDL.out (by decide))).mono ?_
          rintro e w24 ⟨rfl, hb⟩
          have HB24 := Lib.hid (HB23.out.trans (hb.mono HB23.out.size))
          have B1324 := Lib.hid (B1323.out.on hb)
          have B1624 := Lib.hid (B1623.out.on hb)
          have B1924 := Lib.hid (B1923.out.on hb)
          have B2124 := Lib.hid (B2123.out.on hb)
          have V424 := Lib.hid (V423.out.on hb)
          have V524 := Lib.hid (V523.out.on hb)
          have V824 := Lib.hid (V823.out.on hb)
          have V924 := Lib.hid (V923.out.on hb)
          have V1024 := Lib.hid (V1023.out.on hb)
          have V1124 := Lib.hid (V1123.out.on hb)
          have V1324 := Lib.hid (V1323.out.on hb)
          have V1424 := Lib.hid (V1423.out.on hb)
          have B2324 := Lib.hid (B2323.out.on hb)
          have VE24 := Lib.hid (VE23.out.on hb)
          have VF24 := Lib.hid (VF23.out.on hb)
          clear hb HB23 B1323 B1623 B1923 B2123 V423 V523 V823 V923 V1023 V1123 V1323 V1423 B2323 VE23 VF23 
          go_wp2_with fail
          refine (awake_true _).mono ?_
          rintro e w25 ⟨rfl, hb⟩
          have HB25 := Lib.hid (HB24.out.trans (hb.mono HB24.out.size))
          clear hb HB24 
          go_wp2
          go_ret
          exact ⟨rfl, HB25.out⟩
        | false =>
          obtain rfl : er = 1 := by rw [← HER.out, HR.out]; rfl
          have kB130 := Box.cell B1318.out 0 rfl
          have kB131 := Box.cell B1318.out 1 rfl
          have kB160 := Box.cell B1618.out 0 rfl
          have kB161 := Box.cell B1618.out 1 rfl
          go_wp2_with fail
          refine (same_yes m _ V418.out V818.out HPL.out).mono ?_
          rintro e w26 ⟨rfl, hb⟩
          have HB26 := Lib.hid (HB18.out.trans (hb.mono HB18.out.size))
          have B1326 := Lib.hid (B1318.out.on hb)
          have B1626 := Lib.hid (B1618.out.on hb)
          have B1926 := Lib.hid (B1918.out.on hb)
          have B2126 := Lib.hid (B2118.out.on hb)
          have V426 := Lib.hid (V418.out.on hb)
          have V526 := Lib.hid (V518.out.on hb)
          have V826 := Lib.hid (V818.out.on hb)
          have V926 := Lib.hid (V918.out.on hb)
          have V1026 := Lib.hid (V1018.out.on hb)
          have V1126 := Lib.hid (V1118.out.on hb)
          have V1326 := Lib.hid (V1318.out.on hb)
          have V1426 := Lib.hid (V1418.out.on hb)
          have B2326 := Lib.hid (B2318.out.on hb)
          clear hb HB18 B1318 B1618 B1918 B2118 V418 V518 V818 V918 V1018 V1118 V1318 V1418 B2318 kB130 kB131 kB160 kB161
          go_wp2_with fail
          refine (refs_s _ V526.out HNO.out (by rw [← HNO.out]; exact HOL.out)).mono ?_
          rintro e w27 ⟨E1, f1, rfl, h1, hb⟩
          have VE27 := Lib.hid h1
          clear h1
          have HB27 := Lib.hid (HB26.out.trans (hb.mono HB26.out.size))
          have B1327 := Lib.hid (B1326.out.on hb)
          have B1627 := Lib.hid (B1626.out.on hb)
          have B1927 := Lib.hid (B1926.out.on hb)
          have B2127 := Lib.hid (B2126.out.on hb)
          have V427 := Lib.hid (V426.out.on hb)
          have V527 := Lib.hid (V526.out.on hb)
          have V827 := Lib.hid (V826.out.on hb)
          have V927 := Lib.hid (V926.out.on hb)
          have V1027 := Lib.hid (V1026.out.on hb)
          have V1127 := Lib.hid (V1126.out.on hb)
          have V1327 := Lib.hid (V1326.out.on hb)
          have V1427 := Lib.hid (V1426.out.on hb)
          have B2327 := Lib.hid (B2326.out.on hb)
          clear hb HB26 B1326 B1626 B1926 B2126 V426 V526 V826 V926 V1026 V1126 V1326 V1426 B2326 
          go_wp2_with fail
          refine (rsame_yes VE27.out V927.out (Nat.le_trans HOL.out (by decide))).mono ?_
          rintro e w28 ⟨rfl, hb⟩
          have HB28 := Lib.hid (HB27.out.trans (hb.mono HB27.out.size))
          have B1328 := Lib.hid (B1327.out.on hb)
          have B1628 := Lib.hid (B1627.out.on hb)
          have B1928 := Lib.hid (B1927.out.on hb)
          have B2128 := Lib.hid (B2127.out.on hb)
          have V428 := Lib.hid (V427.out.on hb)
          have V528 := Lib.hid (V527.out.on hb)
          have V828 := Lib.hid (V827.out.on hb)
          have V928 := Lib.hid (V927.out.on hb)
          have V1028 := Lib.hid (V1027.out.on hb)
          have V1128 := Lib.hid (V1127.out.on hb)
          have V1328 := Lib.hid (V1327.out.on hb)
          have V1428 := Lib.hid (V1427.out.on hb)
          have B2328 := Lib.hid (B2327.out.on hb)
          have VE28 := Lib.hid (VE27.out.on hb)
          clear hb HB27 B1327 B1627 B1927 B2127 V427 V527 V827 V927 V1027 V1127 V1327 V1427 B2327 VE27 
          have kB190 := Box.cell B1928.out 0 rfl
          have kB191 := Box.cell B1928.out 1 rfl
          have kB210 := Box.cell B2128.out 0 rfl
          have kB211 := Box.cell B2128.out 1 rfl
          go_wp2_with fail
          refine (same_yes m _ V1028.out V1328.out HQL.out).mono ?_
          rintro e w29 ⟨rfl, hb⟩
          have HB29 := Lib.hid (HB28.out.trans (hb.mono HB28.out.size))
          have B1329 := Lib.hid (B1328.out.on hb)
          have B1629 := Lib.hid (B1628.out.on hb)
          have B1929 := Lib.hid (B1928.out.on hb)
          have B2129 := Lib.hid (B2128.out.on hb)
          have V429 := Lib.hid (V428.out.on hb)
          have V529 := Lib.hid (V528.out.on hb)
          have V829 := Lib.hid (V828.out.on hb)
          have V929 := Lib.hid (V928.out.on hb)
          have V1029 := Lib.hid (V1028.out.on hb)
          have V1129 := Lib.hid (V1128.out.on hb)
          have V1329 := Lib.hid (V1328.out.on hb)
          have V1429 := Lib.hid (V1428.out.on hb)
          have B2329 := Lib.hid (B2328.out.on hb)
          have VE29 := Lib.hid (VE28.out.on hb)
          clear hb HB28 B1328 B1628 B1928 B2128 V428 V528 V828 V928 V1028 V1128 V1328 V1428 B2328 VE28 kB190 kB191 kB210 kB211
          go_wp2_with fail
          refine (refs_s _ V1129.out HND.out (by rw [← HND.out]; exact HDL.out)).mono ?_
          rintro e w30 ⟨E2, f2, rfl, h1, hb⟩
          have VF30 := Lib.hid h1
          clear h1
          have HB30 := Lib.hid (HB29.out.trans (hb.mono HB29.out.size))
          have B1330 := Lib.hid (B1329.out.on hb)
          have B1630 := Lib.hid (B1629.out.on hb)
          have B1930 := Lib.hid (B1929.out.on hb)
          have B2130 := Lib.hid (B2129.out.on hb)
          have V430 := Lib.hid (V429.out.on hb)
          have V530 := Lib.hid (V529.out.on hb)
          have V830 := Lib.hid (V829.out.on hb)
          have V930 := Lib.hid (V929.out.on hb)
          have V1030 := Lib.hid (V1029.out.on hb)
          have V1130 := Lib.hid (V1129.out.on hb)
          have V1330 := Lib.hid (V1329.out.on hb)
          have V1430 := Lib.hid (V1429.out.on hb)
          have B2330 := Lib.hid (B2329.out.on hb)
          have VE30 := Lib.hid (VE29.out.on hb)
          clear hb HB29 B1329 B1629 B1929 B2129 V429 V529 V829 V929 V1029 V1129 V1329 V1429 B2329 VE29 
          go_wp2_with fail
          refine (rsame_yes VF30.out V1430.out (Nat.le_trans HDL.out (by decide))).mono ?_
          rintro e w31 ⟨rfl, hb⟩
          have HB31 := Lib.hid (HB30.out.trans (hb.mono HB30.out.size))
          have B1331 := Lib.hid (B1330.out.on hb)
          have B1631 := Lib.hid (B1630.out.on hb)
          have B1931 := Lib.hid (B1930.out.on hb)
          have B2131 := Lib.hid (B2130.out.on hb)
          have V431 := Lib.hid (V430.out.on hb)
          have V531 := Lib.hid (V530.out.on hb)
          have V831 := Lib.hid (V830.out.on hb)
          have V931 := Lib.hid (V930.out.on hb)
          have V1031 := Lib.hid (V1030.out.on hb)
          have V1131 := Lib.hid (V1130.out.on hb)
          have V1331 := Lib.hid (V1330.out.on hb)
          have V1431 := Lib.hid (V1430.out.on hb)
          have B2331 := Lib.hid (B2330.out.on hb)
          have VE31 := Lib.hid (VE30.out.on hb)
          have VF31 := Lib.hid (VF30.out.on hb)
          clear hb HB30 B1330 B1630 B1930 B2130 V430 V530 V830 V930 V1030 V1130 V1330 V1430 B2330 VE30 VF30 
          go_wp2_with fail
          refine (awake_true _).mono ?_
          rintro e w32 ⟨rfl, hb⟩
          have HB32 := Lib.hid (HB31.out.trans (hb.mono HB31.out.size))
          clear hb HB31 
          go_wp2
          go_ret
          exact ⟨rfl, HB32.out⟩
    · have hd2 : decide ((60 : Int) < (nx : Int)) = true := by simp; omega
      go_wp2_with fail
      refine (awake_true _).mono ?_
      rintro e w51 ⟨rfl, hb⟩
      have HB51 := Lib.hid (HB0.out.trans (hb.mono HB0.out.size))
      clear hb HB0 
      go_wp2
      go_ret
      exact ⟨rfl, HB51.out⟩
  · have hd : decide ((100 : Int) < (n : Int)) = true := by simp; omega
    go_wp2_with fail
    refine (awake_true _).mono ?_
    rintro e w61 ⟨rfl, hb⟩
    have HB61 := Lib.hid (HB0.out.trans (hb.mono HB0.out.size))
    clear hb HB0 
    go_wp2
    go_ret
    exact ⟨rfl, HB61.out⟩

end Go.Proofs.Ythoffknkpogfhaa
