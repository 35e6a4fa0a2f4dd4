/- The walk of CacheUses: an item that was just put, or got, is the first one, and is got again. -/
import Derived.Test.YthoffknkpogfhaaKc
set_option linter.unusedVariables false
set_option linter.unusedSimpArgs false
namespace Go.Proofs.Ythoffknkpogfhaa
open Go.RowKit

/-- What a cache has behind one more item. -/
theorem use_first {m : Int} {l : List It} (h : rightL m l = true) (x : It) : ∃ L, useL m l x = x :: L := by
  rw [right_iff] at h
  unfold useL cutL front
  split
  · exact ⟨_, rfl⟩
  · rename_i hc
    rw [List.length_cons] at hc
    cases hw : without l x.a with
    | nil => rw [hw] at hc; simp at hc; omega
    | cons y L => exact ⟨_, rfl⟩
theorem at_head (x : It) (L : List It) : atL (x :: L) x.a = 0 := by unfold atL; rw [List.findIdx_cons]; simp
theorem get_head {m : Int} {x : It} {L : List It} (h : rightL m (x :: L) = true) : getB m (x :: L) x.a = true ∧ getI m (x :: L) x.a = x ∧ getL m (x :: L) x.a = x :: L := by
  have h1 : getB m (x :: L) x.a = true := by unfold getB; rw [h]; simp
  have h2 : getI m (x :: L) x.a = x := by
    obtain ⟨hi, e, _⟩ := getI_at h1
    rw [e]
    simp [at_head]
  refine ⟨h1, h2, ?_⟩
  unfold getL
  rw [if_pos h1, h2]
  unfold front without
  rw [at_head]
  rfl
theorem put_one {m : Int} {l : List It} (h : rightL m l = true) (x : It) : putC m l [x] = (useL m l x, outD (goneL m l x)) := by
  unfold putC
  rw [if_pos h, show ([x] : List It) = [] ++ [x] from rfl, putL_snoc]
  rfl
/-- Got, and got again. -/
theorem get_right {m : Int} {l : List It} (h : rightL m l = true) (a : Int) : rightL m (getL m l a) = true := by
  cases hb : getB m l a with
  | false => unfold getL; rw [hb]; exact h
  | true => rw [← get_use hb]; exact use_right h _
theorem get_again {m : Int} {l : List It} (h : rightL m l = true) (a : Int) : getB m (getL m l a) a = getB m l a ∧ getI m (getL m l a) a = getI m l a ∧ getL m (getL m l a) a = getL m l a := by
  have hr := get_right h a
  cases hb : getB m l a with
  | false =>
    have e : getL m l a = l := by unfold getL; rw [hb]; rfl
    have e2 : getI m l a = zI := by unfold getI; rw [hb]; rfl
    rw [e, hb, e2]
    exact ⟨rfl, rfl, e⟩
  | true =>
    obtain ⟨_, _, ha⟩ := getI_at hb
    have e : getL m l a = getI m l a :: without l (getI m l a).a := by unfold getL; rw [hb]; rfl
    have h3 := get_head (m := m) (x := getI m l a) (L := without l (getI m l a).a) (by rw [← e]; exact hr)
    rw [← e, ha] at h3
    exact h3

def UsesV (m : Int) (A1 A2 A3 A4 : Option Addr) (n np c1 c2 c3 c4 : Nat) (xa za : Int) (xt zt : ByteArray) (xd zd is : Bool) (P G : List It) (p t : Nat) (v : Value) (w : World) : Prop :=
  match t with
  | 59 => v = .int .i64 0
  | 60 => v = .bool true
  | 61 => v = .bool true
  | 62 => v = .bool true
  | 63 => v = .bool true
  | 64 => v = .bool true
  | 65 => v = .agg #[.int .i64 xa, .string xt, .bool xd]
  | 66 => v = .agg #[.int .i64 xa, .string xt, .bool xd]
  | 67 => v = .bool true
  | 68 => v = .bool true
  | 69 => v = .bool true
  | 70 => v = .agg #[.int .i64 m, .slice A2 np c2]
  | 71 => v = .agg #[.int .i64 m, .slice A1 np c1]
  | 72 => ∃ s', v = .agg #[.int .i64 m, s'] ∧ IV w s' P
  | 73 => v = .bool true
  | 74 => v = .bool true
  | 75 => v = .bool true
  | 76 => v = .bool is
  | 77 => v = .bool is
  | 78 => v = .bool true
  | 79 => v = .bool true
  | 80 => v = .bool true
  | 81 => v = .agg #[.int .i64 za, .string zt, .bool zd]
  | 82 => v = .agg #[.int .i64 za, .string zt, .bool zd]
  | 83 => v = .bool true
  | 84 => v = .bool true
  | 85 => v = .bool true
  | 86 => v = .agg #[.int .i64 m, .slice A4 n c4]
  | 87 => v = .agg #[.int .i64 m, .slice A3 n c3]
  | 88 => ∃ s', v = .agg #[.int .i64 m, s'] ∧ IV w s' G
  | 89 => v = .bool true
  | 90 => v = .bool true
  | 91 => v = .bool true
  | 92 => v = .agg #[.int .i64 m, .slice A1 np c1]
  | 93 => v = .bool true
  | 94 => v = .bool true
  | 95 => v = .bool true
  | 96 => v = .bool true
  | 97 => v = .bool true
  | 6 => v = .bool true
  | _ => True
theorem UsesV.on {m : Int} {A1 A2 A3 A4 : Option Addr} {n np c1 c2 c3 c4 : Nat} {xa za : Int} {xt zt : ByteArray} {xd zd is : Bool} {P G : List It} {p t : Nat} {v : Value} {w w' : World} (h : UsesV m A1 A2 A3 A4 n np c1 c2 c3 c4 xa za xt zt xd zd is P G p t v w) (hb : Below w.heap.size w w') : UsesV m A1 A2 A3 A4 n np c1 c2 c3 c4 xa za xt zt xd zd is P G p t v w' := by
  unfold UsesV at *
  split at h <;> first | exact h | exact (let ⟨s', e1, h1⟩ := h; ⟨s', e1, h1.on hb⟩)

set_option maxRecDepth 100000 in
set_option maxHeartbeats 8000000 in
theorem uses_walk (m : Int) (s : Value) (l : List It) (x : It) (a : Int) (w : World) (hv : IV w s l) (hn : l.length ≤ maxLen) :
    Calls Try.prog 7 #[.agg #[.int .i64 m, s], x.v, .int .i64 a] w fun e w' => e = .returned (.bool true) ∧ Below w.heap.size w w' := by
  obtain ⟨A, c, rfl⟩ := hv.shape rfl
  obtain ⟨n, hl⟩ : ∃ n, l.length = n := ⟨_, rfl⟩
  rw [hl] at hv hn ⊢
  have HL := Lib.hid hl
  unfold maxLen at hn
  obtain ⟨xa, xt, xd⟩ := x
  unfold It.v
  simp only
  obtain ⟨wz, hz⟩ : ∃ wz, wz = w.alloc (.cells #[.int .i64 m, .slice A n c] 24) := ⟨_, rfl⟩
  obtain ⟨w0, hw0⟩ : ∃ w0, w0 = wz.alloc (.cells #[.int .i64 xa, .string xt, .bool xd] 27) := ⟨_, rfl⟩
  obtain ⟨g, hg⟩ : ∃ g, g = w.heap.size := ⟨_, rfl⟩
  obtain ⟨gx, hgx⟩ : ∃ gx, gx = wz.heap.size := ⟨_, rfl⟩
  have hgg : g + 1 = gx := by rw [hgx, hz, hg]; simp
  have hb0 : Below w.heap.size w w0 := by rw [hw0, hz]; exact ((Below.refl _ _).alloc (Nat.le_refl _) _).alloc (by simp) _
  have HB0 := Lib.hid hb0
  have BC0 := Lib.hid (show Box w0 g 24 #[.int .i64 m, .slice A n c] from by rw [hw0]; exact Box.push (by rw [hz]; exact Box.at_ w _ _ hg) _)
  have BX0 := Lib.hid (show Box w0 gx 27 #[.int .i64 xa, .string xt, .bool xd] from by rw [hw0]; exact Box.at_ wz _ _ hgx)
  have VC0 := Lib.hid (hv.on hb0)
  clear hv hb0 hl
  have kBC0 := Box.cell BC0.out 0 rfl
  have kBC1 := Box.cell BC0.out 1 rfl
  go_enter Try.func7, Try.ntmps7
  go_upto_region 1 with fail
  rw [← hg, hgg, ← hz, ← hw0]
  clear hg hgx hgg hz hw0
  by_cases hn100 : n ≤ 100
  · have hd : decide ((100 : Int) < (n : Int)) = false := by simp; omega
    obtain ⟨R, hR⟩ : ∃ R, R = rightL m l := ⟨_, rfl⟩
    have hc := fun (wx : World) (h : IV wx (.slice A n c) l) => right_s m wx h (by rw [HL.out]; omega) hR.symm
    have HC := Lib.hid hc
    clear hc
    go_wp2_with fail
    refine (HC.out _ VC0.out).mono ?_
    rintro e w1 ⟨rfl, hb⟩
    have HB1 := Lib.hid (HB0.out.trans (hb.mono HB0.out.size))
    have BC1 := Lib.hid (BC0.out.on hb)
    have BX1 := Lib.hid (BX0.out.on hb)
    have VC1 := Lib.hid (VC0.out.on hb)
    clear hb HB0 BC0 BX0 VC0 kBC0 kBC1
    cases R with
    | false =>
      go_wp2_with fail
      refine (awake_true _).mono ?_
      rintro e w2 ⟨rfl, hb⟩
      have HB2 := Lib.hid (HB1.out.trans (hb.mono HB1.out.size))
      clear hb HB1 
      go_wp2
      go_ret
      exact ⟨rfl, HB2.out⟩
    | true =>
      have HR := Lib.hid hR.symm
      obtain ⟨L, hL⟩ := use_first hR.symm ⟨xa, xt, xd⟩
      obtain ⟨P, hP⟩ : ∃ P, P = (⟨xa, xt, xd⟩ : It) :: L := ⟨_, rfl⟩
      obtain ⟨O, hO⟩ : ∃ O, O = outD (goneL m l ⟨xa, xt, xd⟩) := ⟨_, rfl⟩
      have hPR : rightL m P = true := by rw [hP, ← hL]; exact use_right hR.symm _
      have HPUT := Lib.hid (show putC m l [⟨xa, xt, xd⟩] = (P, O) from by rw [put_one hR.symm, hP, hO, hL])
      have HPG := Lib.hid (show getB m P xa = true ∧ getI m P xa = ⟨xa, xt, xd⟩ ∧ getL m P xa = P from by
        have h := get_head (m := m) (x := ⟨xa, xt, xd⟩) (L := L) (by rw [← hP]; exact hPR)
        rw [hP]; exact h)
      have HPL := Lib.hid (show P.length ≤ 100 from right_len hPR)
      obtain ⟨np, hnp⟩ : ∃ np, P.length = np := ⟨_, rfl⟩
      obtain ⟨no, hno⟩ : ∃ no, O.length = no := ⟨_, rfl⟩
      obtain ⟨G, hG⟩ : ∃ G, getL m l a = G := ⟨_, rfl⟩
      obtain ⟨z, hz⟩ : ∃ z, getI m l a = z := ⟨_, rfl⟩
      obtain ⟨is, hi⟩ : ∃ is, getB m l a = is := ⟨_, rfl⟩
      have HGG := Lib.hid (show getB m G a = is ∧ getI m G a = z ∧ getL m G a = G from by
        have h := get_again hR.symm a
        rw [hG, hz, hi] at h
        exact h)
      have HGL := Lib.hid (show G.length = n from by rw [← hG, getL_len]; exact HL.out)
      have HER := Lib.hid (show (if rightL m l = true then 0 else 1 : Int) = 0 from by rw [HR.out]; rfl)
      have HPR := Lib.hid hPR
      have HNP := Lib.hid hnp
      have HNO := Lib.hid hno
      have HG := Lib.hid hG
      have HZ := Lib.hid hz
      have HI := Lib.hid hi
      clear hR hL hP hO hPR hnp hno hG hz hi HC
      obtain ⟨za, zt, zd⟩ := z
      have kBC0 := Box.cell BC1.out 0 rfl
      have kBC1 := Box.cell BC1.out 1 rfl
      have kBX0 := Box.cell BX1.out 0 rfl
      have kBX1 := Box.cell BX1.out 1 rfl
      have kBX2 := Box.cell BX1.out 2 rfl
      go_wp2_with fail
      refine (put_s (l := l) (xs := [⟨xa, xt, xd⟩]) m _ (VC1.out.push _) (by rw [HL.out]; omega) (IV.lit rfl rfl rfl) (by simp) HPUT.out HNP.out HNO.out HER.out).mono ?_
      rintro e w3 ⟨A1, c1, B1, d1, rfl, h1, _, hb⟩
      replace hb := ((Below.refl _ w1).alloc (Nat.le_refl _) _).trans (hb.mono (by simp))
      have VP3 := Lib.hid h1
      clear h1
      have HB3 := Lib.hid (HB1.out.trans (hb.mono HB1.out.size))
      have BC3 := Lib.hid (BC1.out.on hb)
      have BX3 := Lib.hid (BX1.out.on hb)
      have VC3 := Lib.hid (VC1.out.on hb)
      clear hb HB1 BC1 BX1 VC1 kBC0 kBC1 kBX0 kBX1 kBX2
      go_upto_region 4 with fail
      obtain ⟨g7, hg7⟩ : ∃ g7, g7 = w3.heap.size := ⟨_, rfl⟩
      obtain ⟨w4, hz0⟩ : ∃ wz, wz = w3.alloc (.cells #[.int .i64 m, .slice A1 np c1] 24) := ⟨_, rfl⟩
      rw [← hg7, ← hz0]
      have hb : Below w3.heap.size w3 w4 := by rw [hz0]; exact ((Below.refl _ _).alloc (Nat.le_refl _) _)
      have B74 := Lib.hid (show Box w4 g7 24 #[.int .i64 m, .slice A1 np c1] from (by rw [hz0]; exact Box.at_ w3 _ _ hg7))
      have HB4 := Lib.hid (HB3.out.trans (hb.mono HB3.out.size))
      have BC4 := Lib.hid (BC3.out.on hb)
      have BX4 := Lib.hid (BX3.out.on hb)
      have VC4 := Lib.hid (VC3.out.on hb)
      have VP4 := Lib.hid (VP3.out.on hb)
      clear hb HB3 BC3 BX3 VC3 VP3 hg7  hz0
      have kB70 := Box.cell B74.out 0 rfl
      have kB71 := Box.cell B74.out 1 rfl
      have kBX0 := Box.cell BX4.out 0 rfl
      go_wp2_with fail
      refine (get_s m xa _ VP4.out HNP.out (by have := HPL.out; have := HNP.out; omega) HPG.out.2.2 HPG.out.2.1 HPG.out.1).mono ?_
      rintro e w5 ⟨A2, c2, rfl, h1, hb⟩
      have VQ5 := Lib.hid h1
      clear h1
      have HB5 := Lib.hid (HB4.out.trans (hb.mono HB4.out.size))
      have BC5 := Lib.hid (BC4.out.on hb)
      have BX5 := Lib.hid (BX4.out.on hb)
      have VC5 := Lib.hid (VC4.out.on hb)
      have VP5 := Lib.hid (VP4.out.on hb)
      have B75 := Lib.hid (B74.out.on hb)
      clear hb HB4 BC4 BX4 VC4 VP4 B74 kB70 kB71 kBX0
      go_upto_region 5 with fail
      obtain ⟨g10, hg10⟩ : ∃ g10, g10 = w5.heap.size := ⟨_, rfl⟩
      obtain ⟨wz0, hz0⟩ : ∃ wz, wz = w5.alloc (.cells #[.int .i64 m, .slice A2 np c2] 24) := ⟨_, rfl⟩
      obtain ⟨g11, hg11⟩ : ∃ g11, g11 = wz0.heap.size := ⟨_, rfl⟩
      obtain ⟨w6, hz1⟩ : ∃ wz, wz = wz0.alloc (.cells #[.int .i64 xa, .string xt, .bool xd] 27) := ⟨_, rfl⟩
      have hg111 : g10 + 1 = g11 := by rw [hg11, hz0, hg10]; simp
      rw [← hg10, hg111, ← hz0, ← hz1]
      have hb : Below w5.heap.size w5 w6 := by rw [hz1, hz0]; exact (((Below.refl _ _).alloc (Nat.le_refl _) _).alloc (by simp) _)
      have B106 := Lib.hid (show Box w6 g10 24 #[.int .i64 m, .slice A2 np c2] from (by rw [hz1]; exact Box.push (by rw [hz0]; exact Box.at_ w5 _ _ hg10) _))
      have B116 := Lib.hid (show Box w6 g11 27 #[.int .i64 xa, .string xt, .bool xd] from (by rw [hz1]; exact Box.at_ wz0 _ _ hg11))
      have HB6 := Lib.hid (HB5.out.trans (hb.mono HB5.out.size))
      have BC6 := Lib.hid (BC5.out.on hb)
      have BX6 := Lib.hid (BX5.out.on hb)
      have VC6 := Lib.hid (VC5.out.on hb)
      have VP6 := Lib.hid (VP5.out.on hb)
      have B76 := Lib.hid (B75.out.on hb)
      have VQ6 := Lib.hid (VQ5.out.on hb)
      clear hb HB5 BC5 BX5 VC5 VP5 B75 VQ5 hg10 hg11 hg111 hz0 hz1
      have kBC0 := Box.cell BC6.out 0 rfl
      have kBC1 := Box.cell BC6.out 1 rfl
      go_wp2_with fail
      refine (get_s m a _ VC6.out HL.out (by omega) HG.out HZ.out HI.out).mono ?_
      rintro e w7 ⟨A3, c3, rfl, h1, hb⟩
      have VG7 := Lib.hid h1
      clear h1
      have HB7 := Lib.hid (HB6.out.trans (hb.mono HB6.out.size))
      have BC7 := Lib.hid (BC6.out.on hb)
      have BX7 := Lib.hid (BX6.out.on hb)
      have VC7 := Lib.hid (VC6.out.on hb)
      have VP7 := Lib.hid (VP6.out.on hb)
      have B77 := Lib.hid (B76.out.on hb)
      have VQ7 := Lib.hid (VQ6.out.on hb)
      have B107 := Lib.hid (B106.out.on hb)
      have B117 := Lib.hid (B116.out.on hb)
      clear hb HB6 BC6 BX6 VC6 VP6 B76 VQ6 B106 B116 kBC0 kBC1
      go_upto_region 6 with fail
      obtain ⟨g13, hg13⟩ : ∃ g13, g13 = w7.heap.size := ⟨_, rfl⟩
      obtain ⟨wz0, hz0⟩ : ∃ wz, wz = w7.alloc (.cells #[.int .i64 m, .slice A3 n c3] 24) := ⟨_, rfl⟩
      obtain ⟨g14, hg14⟩ : ∃ g14, g14 = wz0.heap.size := ⟨_, rfl⟩
      obtain ⟨w8, hz1⟩ : ∃ wz, wz = wz0.alloc (.cells #[.int .i64 za, .string zt, .bool zd] 27) := ⟨_, rfl⟩
      have hg141 : g13 + 1 = g14 := by rw [hg14, hz0, hg13]; simp
      rw [← hg13, hg141, ← hz0, ← hz1]
      have hb : Below w7.heap.size w7 w8 := by rw [hz1, hz0]; exact (((Below.refl _ _).alloc (Nat.le_refl _) _).alloc (by simp) _)
      have B138 := Lib.hid (show Box w8 g13 24 #[.int .i64 m, .slice A3 n c3] from (by rw [hz1]; exact Box.push (by rw [hz0]; exact Box.at_ w7 _ _ hg13) _))
      have B148 := Lib.hid (show Box w8 g14 27 #[.int .i64 za, .string zt, .bool zd] from (by rw [hz1]; exact Box.at_ wz0 _ _ hg14))
      have HB8 := Lib.hid (HB7.out.trans (hb.mono HB7.out.size))
      have BC8 := Lib.hid (BC7.out.on hb)
      have BX8 := Lib.hid (BX7.out.on hb)
      have VC8 := Lib.hid (VC7.out.on hb)
      have VP8 := Lib.hid (VP7.out.on hb)
      have B78 := Lib.hid (B77.out.on hb)
      have VQ8 := Lib.hid (VQ7.out.on hb)
      have B108 := Lib.hid (B107.out.on hb)
      have B118 := Lib.hid (B117.out.on hb)
      have VG8 := Lib.hid (VG7.out.on hb)
      clear hb HB7 BC7 BX7 VC7 VP7 B77 VQ7 B107 B117 VG7 hg13 hg14 hg141 hz0 hz1
      have kB130 := Box.cell B138.out 0 rfl
      have kB131 := Box.cell B138.out 1 rfl
      go_wp2_with fail
      refine (get_s m a _ VG8.out HGL.out (by omega) HGG.out.2.2 HGG.out.2.1 HGG.out.1).mono ?_
      rintro e w9 ⟨A4, c4, rfl, h1, hb⟩
      have VH9 := Lib.hid h1
      clear h1
      have HB9 := Lib.hid (HB8.out.trans (hb.mono HB8.out.size))
      have BC9 := Lib.hid (BC8.out.on hb)
      have BX9 := Lib.hid (BX8.out.on hb)
      have VC9 := Lib.hid (VC8.out.on hb)
      have VP9 := Lib.hid (VP8.out.on hb)
      have B79 := Lib.hid (B78.out.on hb)
      have VQ9 := Lib.hid (VQ8.out.on hb)
      have B109 := Lib.hid (B108.out.on hb)
      have B119 := Lib.hid (B118.out.on hb)
      have VG9 := Lib.hid (VG8.out.on hb)
      have B139 := Lib.hid (B138.out.on hb)
      have B149 := Lib.hid (B148.out.on hb)
      clear hb HB8 BC8 BX8 VC8 VP8 B78 VQ8 B108 B118 VG8 B138 B148 kB130 kB131
      go_upto_region 7 with fail
      obtain ⟨g16, hg16⟩ : ∃ g16, g16 = w9.heap.size := ⟨_, rfl⟩
      obtain ⟨wz0, hz0⟩ : ∃ wz, wz = w9.alloc (.cells #[.int .i64 m, .slice A4 n c4] 24) := ⟨_, rfl⟩
      obtain ⟨g17, hg17⟩ : ∃ g17, g17 = wz0.heap.size := ⟨_, rfl⟩
      obtain ⟨w10, hz1⟩ : ∃ wz, wz = wz0.alloc (.cells #[.int .i64 za, .string zt, .bool zd] 27) := ⟨_, rfl⟩
      have hg171 : g16 + 1 = g17 := by rw [hg17, hz0, hg16]; simp
      rw [← hg16, hg171, ← hz0, ← hz1]
      have hb : Below w9.heap.size w9 w10 := by rw [hz1, hz0]; exact (((Below.refl _ _).alloc (Nat.le_refl _) _).alloc (by simp) _)
      have B1610 := Lib.hid (show Box w10 g16 24 #[.int .i64 m, .slice A4 n c4] from (by rw [hz1]; exact Box.push (by rw [hz0]; exact Box.at_ w9 _ _ hg16) _))
      have B1710 := Lib.hid (show Box w10 g17 27 #[.int .i64 za, .string zt, .bool zd] from (by rw [hz1]; exact Box.at_ wz0 _ _ hg17))
      have HB10 := Lib.hid (HB9.out.trans (hb.mono HB9.out.size))
      have BC10 := Lib.hid (BC9.out.on hb)
      have BX10 := Lib.hid (BX9.out.on hb)
      have VC10 := Lib.hid (VC9.out.on hb)
      have VP10 := Lib.hid (VP9.out.on hb)
      have B710 := Lib.hid (B79.out.on hb)
      have VQ10 := Lib.hid (VQ9.out.on hb)
      have B1010 := Lib.hid (B109.out.on hb)
      have B1110 := Lib.hid (B119.out.on hb)
      have VG10 := Lib.hid (VG9.out.on hb)
      have B1310 := Lib.hid (B139.out.on hb)
      have B1410 := Lib.hid (B149.out.on hb)
      have VH10 := Lib.hid (VH9.out.on hb)
      clear hb HB9 BC9 BX9 VC9 VP9 B79 VQ9 B109 B119 VG9 B139 B149 VH9 hg16 hg17 hg171 hz0 hz1
      have HG1 := Lib.hid (show G.length ≤ 1000 from by rw [HGL.out]; omega)
      refine wp_region_phase 14 [59, 60, 61, 62, 63, 64, 65, 66, 67, 68, 69, 70, 71, 72, 73, 74, 75, 76, 77, 78, 79, 80, 81, 82, 83, 84, 85, 86, 87, 88, 89, 90, 91, 92, 93, 94, 95, 96, 97, 6] (by kernel_rfl) [] [] (fun _ _ => True) 0 rfl (by kernel_rfl) (SP (fun wx => Below w10.heap.size w10 wx) (fun _ => True) (fun _ => True)) (fun wa wb => Below wa.heap.size wa wb) (UsesV m A1 A2 A3 A4 n np c1 c2 c3 c4 xa za xt zt xd zd is P G) (by kernel_rfl) (SP.on below_grow (fun _ _ _ _ => trivial) (fun _ _ _ _ => trivial)) (fun _ t v wa wb h1 h2 => h2.on h1) (fun _ _ _ _ _ _ _ => trivial) (Below.refl _ _).drew trivial (phase0 ?_) ?_
      · refine Steps1.cons (fun _ ax wx hS _ hG => ?_) (Steps1.cons (fun _ ax wx hS _ hG => ?_) (Steps1.cons (fun _ ax wx hS _ hG => ?_) (Steps1.cons (fun _ ax wx hS _ hG => ?_) (Steps1.cons (fun _ ax wx hS _ hG => ?_) (Steps1.cons (fun _ ax wx hS _ hG => ?_) (Steps1.cons (fun _ ax wx hS _ hG => ?_) (Steps1.cons (fun _ ax wx hS _ hG => ?_) (Steps1.cons (fun _ ax wx hS _ hG => ?_) (Steps1.cons (fun _ ax wx hS _ hG => ?_) (Steps1.cons (fun _ ax wx hS _ hG => ?_) (Steps1.cons (fun _ ax wx hS _ hG => ?_) (Steps1.cons (fun _ ax wx hS _ hG => ?_) (Steps1.cons (fun _ ax wx hS _ hG => ?_) (Steps1.cons (fun _ ax wx hS _ hG => ?_) (Steps1.cons (fun _ ax wx hS _ hG => ?_) (Steps1.cons (fun _ ax wx hS _ hG => ?_) (Steps1.cons (fun _ ax wx hS _ hG => ?_) (Steps1.cons (fun _ ax wx hS _ hG => ?_) (Steps1.cons (fun _ ax wx hS _ hG => ?_) (Steps1.cons (fun _ ax wx hS _ hG => ?_) (Steps1.cons (fun _ ax wx hS _ hG => ?_) (Steps1.cons (fun _ ax wx hS _ hG => ?_) (Steps1.cons (fun _ ax wx hS _ hG => ?_) (Steps1.cons (fun _ ax wx hS _ hG => ?_) (Steps1.cons (fun _ ax wx hS _ hG => ?_) (Steps1.cons (fun _ ax wx hS _ hG => ?_) (Steps1.cons (fun _ ax wx hS _ hG => ?_) (Steps1.cons (fun _ ax wx hS _ hG => ?_) (Steps1.cons (fun _ ax wx hS _ hG => ?_) (Steps1.cons (fun _ ax wx hS _ hG => ?_) (Steps1.cons (fun _ ax wx hS _ hG => ?_) (Steps1.cons (fun _ ax wx hS _ hG => ?_) (Steps1.cons (fun _ ax wx hS _ hG => ?_) (Steps1.cons (fun _ ax wx hS _ hG => ?_) (Steps1.cons (fun _ ax wx hS _ hG => ?_) (Steps1.cons (fun _ ax wx hS _ hG => ?_) (Steps1.cons (fun _ ax wx hS _ hG => ?_) (Steps1.cons (fun _ ax wx hS _ hG => ?_) (Steps1.cons (fun _ ax wx hS _ hG => ?_) Steps1.nil)))))))))))))))))))))))))))))))))))))))
        · have q9 := hG.old 9 (by kernel_rfl) (by kernel_rfl)
          refine step_slot rfl rfl rfl (step_value (v := .int .i64 0) (w' := wx) rfl rfl ?_ (Below.refl _ _) (fun d hd => by cases hd; exact rfl))
          go_simp
        · obtain ⟨_, q59, rfl⟩ := hG.new 59 (by kernel_rfl) (by kernel_rfl)
          refine step_slot rfl rfl rfl (step_value (v := .bool true) (w' := wx) rfl rfl ?_ (Below.refl _ _) (fun d hd => by cases hd; exact rfl))
          go_simp
        · obtain ⟨_, q60, rfl⟩ := hG.new 60 (by kernel_rfl) (by kernel_rfl)
          refine step_slot rfl rfl rfl (step_value (v := .bool true) (w' := wx) rfl rfl ?_ (Below.refl _ _) (fun d hd => by cases hd; exact rfl))
          go_simp
        · obtain ⟨_, q61, rfl⟩ := hG.new 61 (by kernel_rfl) (by kernel_rfl)
          have q12 := hG.old 12 (by kernel_rfl) (by kernel_rfl)
          refine step_slot rfl rfl rfl (step_value (v := .bool true) (w' := wx) rfl (by simp [Region.wanted, yielded, q61]) ?_ (Below.refl _ _) (fun d hd => by cases hd; exact rfl))
          go_simp
        · obtain ⟨_, q61, rfl⟩ := hG.new 61 (by kernel_rfl) (by kernel_rfl)
          obtain ⟨_, q62, rfl⟩ := hG.new 62 (by kernel_rfl) (by kernel_rfl)
          refine step_slot rfl rfl rfl (step_value (v := .bool true) (w' := wx) rfl rfl ?_ (Below.refl _ _) (fun d hd => by cases hd; exact rfl))
          go_simp
        · obtain ⟨_, q63, rfl⟩ := hG.new 63 (by kernel_rfl) (by kernel_rfl)
          refine step_slot rfl rfl rfl (step_value (v := .bool true) (w' := wx) rfl rfl ?_ (Below.refl _ _) (fun d hd => by cases hd; exact rfl))
          go_simp
        · obtain ⟨_, q64, rfl⟩ := hG.new 64 (by kernel_rfl) (by kernel_rfl)
          have q11 := hG.old 11 (by kernel_rfl) (by kernel_rfl)
          obtain ⟨z0, z1, z2⟩ := (⟨Box.cell (B1110.out.on hS) 0 rfl, Box.cell (B1110.out.on hS) 1 rfl, Box.cell (B1110.out.on hS) 2 rfl⟩ : _ ∧ _ ∧ _)
          refine step_slot rfl rfl rfl (step_value (v := .agg #[.int .i64 xa, .string xt, .bool xd]) (w' := wx) rfl (by simp [Region.wanted, yielded, q64]) ?_ (Below.refl _ _) (fun d hd => by cases hd; exact rfl))
          go_simp
        · obtain ⟨_, q64, rfl⟩ := hG.new 64 (by kernel_rfl) (by kernel_rfl)
          have q4 := hG.old 4 (by kernel_rfl) (by kernel_rfl)
          obtain ⟨z0, z1, z2⟩ := (⟨Box.cell (BX10.out.on hS) 0 rfl, Box.cell (BX10.out.on hS) 1 rfl, Box.cell (BX10.out.on hS) 2 rfl⟩ : _ ∧ _ ∧ _)
          refine step_slot rfl rfl rfl (step_value (v := .agg #[.int .i64 xa, .string xt, .bool xd]) (w' := wx) rfl (by simp [Region.wanted, yielded, q64]) ?_ (Below.refl _ _) (fun d hd => by cases hd; exact rfl))
          go_simp
        · obtain ⟨_, q64, rfl⟩ := hG.new 64 (by kernel_rfl) (by kernel_rfl)
          obtain ⟨_, q65, rfl⟩ := hG.new 65 (by kernel_rfl) (by kernel_rfl)
          obtain ⟨_, q66, rfl⟩ := hG.new 66 (by kernel_rfl) (by kernel_rfl)
          refine step_slot rfl rfl rfl (step_value (v := .bool true) (w' := wx) rfl (by simp [Region.wanted, yielded, q64]) ?_ (Below.refl _ _) (fun d hd => by cases hd; exact rfl))
          go_simp
        · obtain ⟨_, q64, rfl⟩ := hG.new 64 (by kernel_rfl) (by kernel_rfl)
          obtain ⟨_, q67, rfl⟩ := hG.new 67 (by kernel_rfl) (by kernel_rfl)
          refine step_slot rfl rfl rfl (step_value (v := .bool true) (w' := wx) rfl rfl ?_ (Below.refl _ _) (fun d hd => by cases hd; exact rfl))
          go_simp
        · obtain ⟨_, q68, rfl⟩ := hG.new 68 (by kernel_rfl) (by kernel_rfl)
          refine step_slot rfl rfl rfl (step_value (v := .bool true) (w' := wx) rfl rfl ?_ (Below.refl _ _) (fun d hd => by cases hd; exact rfl))
          go_simp
        · obtain ⟨_, q69, rfl⟩ := hG.new 69 (by kernel_rfl) (by kernel_rfl)
          have q10 := hG.old 10 (by kernel_rfl) (by kernel_rfl)
          obtain ⟨z0, z1⟩ := (⟨Box.cell (B1010.out.on hS) 0 rfl, Box.cell (B1010.out.on hS) 1 rfl⟩ : _ ∧ _)
          refine step_slot rfl rfl rfl (step_value (v := .agg #[.int .i64 m, .slice A2 np c2]) (w' := wx) rfl (by simp [Region.wanted, yielded, q69]) ?_ (Below.refl _ _) (fun d hd => by cases hd; exact rfl))
          go_simp
        · obtain ⟨_, q69, rfl⟩ := hG.new 69 (by kernel_rfl) (by kernel_rfl)
          have q7 := hG.old 7 (by kernel_rfl) (by kernel_rfl)
          obtain ⟨z0, z1⟩ := (⟨Box.cell (B710.out.on hS) 0 rfl, Box.cell (B710.out.on hS) 1 rfl⟩ : _ ∧ _)
          refine step_slot rfl rfl rfl (step_value (v := .agg #[.int .i64 m, .slice A1 np c1]) (w' := wx) rfl (by simp [Region.wanted, yielded, q69]) ?_ (Below.refl _ _) (fun d hd => by cases hd; exact rfl))
          go_simp
        · obtain ⟨_, q69, rfl⟩ := hG.new 69 (by kernel_rfl) (by kernel_rfl)
          obtain ⟨_, q71, rfl⟩ := hG.new 71 (by kernel_rfl) (by kernel_rfl)
          refine step_slot rfl rfl rfl (step_call (w1 := wx) (f := 12) (args := #[.agg #[.int .i64 m, .slice A1 np c1]]) rfl (by simp [Region.wanted, yielded, q69]) ?_ ((ref_any m wx (VP10.out.on hS) (Nat.le_trans HPL.out (by decide))).mono ?_))
          · skip
            go_simp
          · rintro e w' ⟨s', rfl, hv, hq⟩
            exact ⟨_, rfl, hq, fun d hd => by cases hd; exact ⟨_, rfl, hv⟩⟩
        · obtain ⟨_, q69, rfl⟩ := hG.new 69 (by kernel_rfl) (by kernel_rfl)
          obtain ⟨_, q70, rfl⟩ := hG.new 70 (by kernel_rfl) (by kernel_rfl)
          obtain ⟨v72, q72, h72⟩ := hG.new 72 (by kernel_rfl) (by kernel_rfl)
          have p72 : ∃ s', v72 = .agg #[.int .i64 m, s'] ∧ IV wx s' P := h72
          obtain ⟨s7, rfl, p72⟩ := p72
          refine step_slot rfl rfl rfl (step_call (w1 := wx) (f := 18) (args := #[.agg #[.int .i64 m, .slice A2 np c2], .agg #[.int .i64 m, s7]]) rfl (by simp [Region.wanted, yielded, q69]) ?_ ((same_yes m wx (VQ10.out.on hS) p72 (Nat.le_trans HPL.out (by decide))).mono ?_))
          · clear h72 p72
            go_simp
          · rintro e w' ⟨rfl, hq⟩
            exact ⟨_, rfl, hq, fun d hd => by cases hd; exact rfl⟩
        · obtain ⟨_, q69, rfl⟩ := hG.new 69 (by kernel_rfl) (by kernel_rfl)
          obtain ⟨_, q73, rfl⟩ := hG.new 73 (by kernel_rfl) (by kernel_rfl)
          refine step_slot rfl rfl rfl (step_value (v := .bool true) (w' := wx) rfl rfl ?_ (Below.refl _ _) (fun d hd => by cases hd; exact rfl))
          go_simp
        · obtain ⟨_, q74, rfl⟩ := hG.new 74 (by kernel_rfl) (by kernel_rfl)
          refine step_slot rfl rfl rfl (step_value (v := .bool true) (w' := wx) rfl rfl ?_ (Below.refl _ _) (fun d hd => by cases hd; exact rfl))
          go_simp
        · obtain ⟨_, q75, rfl⟩ := hG.new 75 (by kernel_rfl) (by kernel_rfl)
          have q15 := hG.old 15 (by kernel_rfl) (by kernel_rfl)
          refine step_slot rfl rfl rfl (step_value (v := .bool is) (w' := wx) rfl (by simp [Region.wanted, yielded, q75]) ?_ (Below.refl _ _) (fun d hd => by cases hd; exact rfl))
          go_simp
        · obtain ⟨_, q75, rfl⟩ := hG.new 75 (by kernel_rfl) (by kernel_rfl)
          have q18 := hG.old 18 (by kernel_rfl) (by kernel_rfl)
          refine step_slot rfl rfl rfl (step_value (v := .bool is) (w' := wx) rfl (by simp [Region.wanted, yielded, q75]) ?_ (Below.refl _ _) (fun d hd => by cases hd; exact rfl))
          go_simp
        · obtain ⟨_, q75, rfl⟩ := hG.new 75 (by kernel_rfl) (by kernel_rfl)
          obtain ⟨_, q76, rfl⟩ := hG.new 76 (by kernel_rfl) (by kernel_rfl)
          obtain ⟨_, q77, rfl⟩ := hG.new 77 (by kernel_rfl) (by kernel_rfl)
          refine step_slot rfl rfl rfl (step_value (v := .bool true) (w' := wx) rfl (by simp [Region.wanted, yielded, q75]) ?_ (Below.refl _ _) (fun d hd => by cases hd; exact rfl))
          go_simp
        · obtain ⟨_, q75, rfl⟩ := hG.new 75 (by kernel_rfl) (by kernel_rfl)
          obtain ⟨_, q78, rfl⟩ := hG.new 78 (by kernel_rfl) (by kernel_rfl)
          refine step_slot rfl rfl rfl (step_value (v := .bool true) (w' := wx) rfl rfl ?_ (Below.refl _ _) (fun d hd => by cases hd; exact rfl))
          go_simp
        · obtain ⟨_, q79, rfl⟩ := hG.new 79 (by kernel_rfl) (by kernel_rfl)
          refine step_slot rfl rfl rfl (step_value (v := .bool true) (w' := wx) rfl rfl ?_ (Below.refl _ _) (fun d hd => by cases hd; exact rfl))
          go_simp
        · obtain ⟨_, q80, rfl⟩ := hG.new 80 (by kernel_rfl) (by kernel_rfl)
          have q14 := hG.old 14 (by kernel_rfl) (by kernel_rfl)
          obtain ⟨z0, z1, z2⟩ := (⟨Box.cell (B1410.out.on hS) 0 rfl, Box.cell (B1410.out.on hS) 1 rfl, Box.cell (B1410.out.on hS) 2 rfl⟩ : _ ∧ _ ∧ _)
          refine step_slot rfl rfl rfl (step_value (v := .agg #[.int .i64 za, .string zt, .bool zd]) (w' := wx) rfl (by simp [Region.wanted, yielded, q80]) ?_ (Below.refl _ _) (fun d hd => by cases hd; exact rfl))
          go_simp
        · obtain ⟨_, q80, rfl⟩ := hG.new 80 (by kernel_rfl) (by kernel_rfl)
          have q17 := hG.old 17 (by kernel_rfl) (by kernel_rfl)
          obtain ⟨z0, z1, z2⟩ := (⟨Box.cell (B1710.out.on hS) 0 rfl, Box.cell (B1710.out.on hS) 1 rfl, Box.cell (B1710.out.on hS) 2 rfl⟩ : _ ∧ _ ∧ _)
          refine step_slot rfl rfl rfl (step_value (v := .agg #[.int .i64 za, .string zt, .bool zd]) (w' := wx) rfl (by simp [Region.wanted, yielded, q80]) ?_ (Below.refl _ _) (fun d hd => by cases hd; exact rfl))
          go_simp
        · obtain ⟨_, q80, rfl⟩ := hG.new 80 (by kernel_rfl) (by kernel_rfl)
          obtain ⟨_, q81, rfl⟩ := hG.new 81 (by kernel_rfl) (by kernel_rfl)
          obtain ⟨_, q82, rfl⟩ := hG.new 82 (by kernel_rfl) (by kernel_rfl)
          refine step_slot rfl rfl rfl (step_value (v := .bool true) (w' := wx) rfl (by simp [Region.wanted, yielded, q80]) ?_ (Below.refl _ _) (fun d hd => by cases hd; exact rfl))
          go_simp
        · obtain ⟨_, q80, rfl⟩ := hG.new 80 (by kernel_rfl) (by kernel_rfl)
          obtain ⟨_, q83, rfl⟩ := hG.new 83 (by kernel_rfl) (by kernel_rfl)
          refine step_slot rfl rfl rfl (step_value (v := .bool true) (w' := wx) rfl rfl ?_ (Below.refl _ _) (fun d hd => by cases hd; exact rfl))
          go_simp
        · obtain ⟨_, q84, rfl⟩ := hG.new 84 (by kernel_rfl) (by kernel_rfl)
          refine step_slot rfl rfl rfl (step_value (v := .bool true) (w' := wx) rfl rfl ?_ (Below.refl _ _) (fun d hd => by cases hd; exact rfl))
          go_simp
        · obtain ⟨_, q85, rfl⟩ := hG.new 85 (by kernel_rfl) (by kernel_rfl)
          have q16 := hG.old 16 (by kernel_rfl) (by kernel_rfl)
          obtain ⟨z0, z1⟩ := (⟨Box.cell (B1610.out.on hS) 0 rfl, Box.cell (B1610.out.on hS) 1 rfl⟩ : _ ∧ _)
          refine step_slot rfl rfl rfl (step_value (v := .agg #[.int .i64 m, .slice A4 n c4]) (w' := wx) rfl (by simp [Region.wanted, yielded, q85]) ?_ (Below.refl _ _) (fun d hd => by cases hd; exact rfl))
          go_simp
        · obtain ⟨_, q85, rfl⟩ := hG.new 85 (by kernel_rfl) (by kernel_rfl)
          have q13 := hG.old 13 (by kernel_rfl) (by kernel_rfl)
          obtain ⟨z0, z1⟩ := (⟨Box.cell (B1310.out.on hS) 0 rfl, Box.cell (B1310.out.on hS) 1 rfl⟩ : _ ∧ _)
          refine step_slot rfl rfl rfl (step_value (v := .agg #[.int .i64 m, .slice A3 n c3]) (w' := wx) rfl (by simp [Region.wanted, yielded, q85]) ?_ (Below.refl _ _) (fun d hd => by cases hd; exact rfl))
          go_simp
        · obtain ⟨_, q85, rfl⟩ := hG.new 85 (by kernel_rfl) (by kernel_rfl)
          obtain ⟨_, q87, rfl⟩ := hG.new 87 (by kernel_rfl) (by kernel_rfl)
          refine step_slot rfl rfl rfl (step_call (w1 := wx) (f := 12) (args := #[.agg #[.int .i64 m, .slice A3 n c3]]) rfl (by simp [Region.wanted, yielded, q85]) ?_ ((ref_any m wx (VG10.out.on hS) HG1.out).mono ?_))
          · skip
            go_simp
          · rintro e w' ⟨s', rfl, hv, hq⟩
            exact ⟨_, rfl, hq, fun d hd => by cases hd; exact ⟨_, rfl, hv⟩⟩
        · obtain ⟨_, q85, rfl⟩ := hG.new 85 (by kernel_rfl) (by kernel_rfl)
          obtain ⟨_, q86, rfl⟩ := hG.new 86 (by kernel_rfl) (by kernel_rfl)
          obtain ⟨v88, q88, h88⟩ := hG.new 88 (by kernel_rfl) (by kernel_rfl)
          have p88 : ∃ s', v88 = .agg #[.int .i64 m, s'] ∧ IV wx s' G := h88
          obtain ⟨s8, rfl, p88⟩ := p88
          refine step_slot rfl rfl rfl (step_call (w1 := wx) (f := 18) (args := #[.agg #[.int .i64 m, .slice A4 n c4], .agg #[.int .i64 m, s8]]) rfl (by simp [Region.wanted, yielded, q85]) ?_ ((same_yes m wx (VH10.out.on hS) p88 HG1.out).mono ?_))
          · clear h88 p88
            go_simp
          · rintro e w' ⟨rfl, hq⟩
            exact ⟨_, rfl, hq, fun d hd => by cases hd; exact rfl⟩
        · obtain ⟨_, q85, rfl⟩ := hG.new 85 (by kernel_rfl) (by kernel_rfl)
          obtain ⟨_, q89, rfl⟩ := hG.new 89 (by kernel_rfl) (by kernel_rfl)
          refine step_slot rfl rfl rfl (step_value (v := .bool true) (w' := wx) rfl rfl ?_ (Below.refl _ _) (fun d hd => by cases hd; exact rfl))
          go_simp
        · obtain ⟨_, q90, rfl⟩ := hG.new 90 (by kernel_rfl) (by kernel_rfl)
          refine step_slot rfl rfl rfl (step_value (v := .bool true) (w' := wx) rfl rfl ?_ (Below.refl _ _) (fun d hd => by cases hd; exact rfl))
          go_simp
        · obtain ⟨_, q91, rfl⟩ := hG.new 91 (by kernel_rfl) (by kernel_rfl)
          have q7 := hG.old 7 (by kernel_rfl) (by kernel_rfl)
          obtain ⟨z0, z1⟩ := (⟨Box.cell (B710.out.on hS) 0 rfl, Box.cell (B710.out.on hS) 1 rfl⟩ : _ ∧ _)
          refine step_slot rfl rfl rfl (step_value (v := .agg #[.int .i64 m, .slice A1 np c1]) (w' := wx) rfl (by simp [Region.wanted, yielded, q91]) ?_ (Below.refl _ _) (fun d hd => by cases hd; exact rfl))
          go_simp
        · obtain ⟨_, q91, rfl⟩ := hG.new 91 (by kernel_rfl) (by kernel_rfl)
          obtain ⟨_, q92, rfl⟩ := hG.new 92 (by kernel_rfl) (by kernel_rfl)
          refine step_slot rfl rfl rfl (step_call (w1 := wx) (f := 19) (args := #[.agg #[.int .i64 m, .slice A1 np c1]]) rfl (by simp [Region.wanted, yielded, q91]) ?_ ((right_s m wx (VP10.out.on hS) (Nat.le_trans HPL.out (by decide)) HPR.out).mono ?_))
          · skip
            go_simp
          · rintro e w' ⟨rfl, hq⟩
            exact ⟨_, rfl, hq, fun d hd => by cases hd; exact rfl⟩
        · obtain ⟨_, q91, rfl⟩ := hG.new 91 (by kernel_rfl) (by kernel_rfl)
          obtain ⟨_, q93, rfl⟩ := hG.new 93 (by kernel_rfl) (by kernel_rfl)
          refine step_slot rfl rfl rfl (step_value (v := .bool true) (w' := wx) rfl rfl ?_ (Below.refl _ _) (fun d hd => by cases hd; exact rfl))
          go_simp
        · obtain ⟨_, q94, rfl⟩ := hG.new 94 (by kernel_rfl) (by kernel_rfl)
          refine step_slot rfl rfl rfl (step_value (v := .bool true) (w' := wx) rfl rfl ?_ (Below.refl _ _) (fun d hd => by cases hd; exact rfl))
          go_simp
        · obtain ⟨_, q95, rfl⟩ := hG.new 95 (by kernel_rfl) (by kernel_rfl)
          refine step_slot rfl rfl rfl (step_call (w1 := wx) (f := 9) (args := #[]) rfl (by simp [Region.wanted, yielded, q95]) ?_ ((awake_true wx).mono ?_))
          · skip
            go_simp
          · rintro e w' ⟨rfl, hq⟩
            exact ⟨_, rfl, hq, fun d hd => by cases hd; exact rfl⟩
        · obtain ⟨_, q95, rfl⟩ := hG.new 95 (by kernel_rfl) (by kernel_rfl)
          obtain ⟨_, q96, rfl⟩ := hG.new 96 (by kernel_rfl) (by kernel_rfl)
          refine step_slot rfl rfl rfl (step_value (v := .bool true) (w' := wx) rfl rfl ?_ (Below.refl _ _) (fun d hd => by cases hd; exact rfl))
          go_simp
        · obtain ⟨_, q97, rfl⟩ := hG.new 97 (by kernel_rfl) (by kernel_rfl)
          refine step_slot rfl rfl rfl (step_value (v := .bool true) (w' := wx) rfl rfl ?_ (Below.refl _ _) (fun d hd => by cases hd; exact rfl))
          go_simp
      intro fv w8 hS8 _ hV8
      have e6 : fv 6 = .bool true := hV8 6 (by decide)
      simp only [puts, Act.put, List.setIfInBounds_toArray, List.set_cons_succ, List.set_cons_zero]
      clear hV8
      rw [e6]
      have HBB := Lib.hid (HB10.out.trans ((show Below _ _ _ from hS8).mono HB10.out.size))
      clear hS8
      go_wp2
      go_ret
      exact ⟨rfl, HBB.out⟩
  · have hd : decide ((100 : Int) < (n : Int)) = true := by simp; omega
    go_wp2_with fail
    refine (awake_true _).mono ?_
    rintro e w11 ⟨rfl, hb⟩
    have HB11 := Lib.hid (HB0.out.trans (hb.mono HB0.out.size))
    clear hb HB0 
    go_wp2
    go_ret
    exact ⟨rfl, HB11.out⟩

end Go.Proofs.Ythoffknkpogfhaa
