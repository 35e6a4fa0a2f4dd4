/- The walk of CacheParts: put by parts, and put at once; got from any cache. -/
import Derived.Test.YthoffknkpogfhaaPp
set_option linter.unusedVariables false
set_option linter.unusedSimpArgs false
namespace Go.Proofs.Ythoffknkpogfhaa
open Go.RowKit

def PartsV (m : Int) (A : Option Addr) (n c : Nat) (AX : Option Addr) (nx cx : Nat) (AY : Option Addr) (ny cy nq nz bs : Nat) (xs ys P2 Z : List It) (p t : Nat) (v : Value) (w : World) : Prop :=
  match t with
  | 55 => v = .agg #[.int .i64 m, .slice A n c]
  | 56 => p = 0 → World.ownsRow w bs 27 3 v 0 []
  | 57 => v = .slice AX nx cx
  | 58 => p = 1 → World.ownsRow w bs 27 3 v nx (xs.flatMap It.cells)
  | 59 => v = .slice AY ny cy
  | 60 => p = 2 → IV w v (xs ++ ys)
  | 61 => 2 ≤ p ∧ PutA m 0 nq nz P2 Z w v
  | 54 => 2 ≤ p ∧ PutA m 0 nq nz P2 Z w v
  | 62 => 2 ≤ p ∧ CacheA m nq P2 w v
  | 63 => 2 ≤ p ∧ ItsA nz Z w v
  | 64 => v = .int .i64 0
  | 14 => (p ≤ 2 → NewC bs w v) ∧ (p = 3 → FillC bs m nq P2 w v)
  | 15 => 2 ≤ p ∧ ItsA nz Z w v
  | 16 => v = .int .i64 0
  | _ => True
theorem PartsV.on {m : Int} {A : Option Addr} {n c : Nat} {AX : Option Addr} {nx cx : Nat} {AY : Option Addr} {ny cy nq nz bs : Nat} {xs ys P2 Z : List It} {p t : Nat} {v : Value} {w w' : World} (h : PartsV m A n c AX nx cx AY ny cy nq nz bs xs ys P2 Z p t v w) (hb : Below w.heap.size w w') : PartsV m A n c AX nx cx AY ny cy nq nz bs xs ys P2 Z p t v w' := by
  unfold PartsV at *
  split at h <;> first | exact h | exact fun hp => own_on (h hp) hb | exact fun hp => (h hp).on hb | exact ⟨h.1, h.2.on hb⟩ | exact ⟨fun hp => (h.1 hp).on hb, fun hp => (h.2 hp).on hb⟩

def PartsT (m : Int) (A : Option Addr) (ad : Addr) (n c c3 g g17 g18 : Nat) (za a : Int) (zt : ByteArray) (zd : Bool) (l : List It) (p t : Nat) (v : Value) (w : World) : Prop :=
  match t with
  | 72 => v = .bool true
  | 73 => v = .bool true
  | 74 => v = .pointer (some ⟨g17, 1, none⟩)
  | 75 => v = .slice (some ad) n c3
  | 76 => v = .int .i64 n
  | 77 => v = .pointer (some ⟨g, 1, none⟩)
  | 78 => v = .slice A n c
  | 79 => v = .int .i64 n
  | 80 => v = .bool false
  | 81 => v = .bool false
  | 82 => v = .pointer (some ⟨g17, 1, none⟩)
  | 83 => v = .slice (some ad) n c3
  | 84 => v = .pointer (some ad)
  | 85 => v = .agg #[.int .i64 za, .string zt, .bool zd]
  | 86 => v = .agg #[.int .i64 za, .string zt, .bool zd]
  | 87 => v = .bool false
  | 88 => v = .bool false
  | 89 => v = .bool false
  | 90 => v = .pointer (some ⟨g18, 0, none⟩)
  | 91 => v = .int .i64 za
  | 92 => v = .int .i64 a
  | 93 => v = .bool false
  | 94 => v = .bool false
  | 95 => v = .bool false
  | 96 => v = .bool false
  | 97 => v = .bool true
  | 98 => v = .bool false
  | 99 => v = .bool false
  | 100 => v = undef
  | 101 => v = undef
  | 102 => v = undef
  | 103 => v = undef
  | 104 => v = undef
  | 105 => v = .bool false
  | 106 => v = .bool false
  | 107 => v = .bool false
  | 108 => v = .agg #[.int .i64 m, .slice (some ad) n c3]
  | 109 => v = .bool true
  | 110 => v = .bool false
  | 111 => v = .bool false
  | _ => True
theorem PartsT.on {m : Int} {A : Option Addr} {ad : Addr} {n c c3 g g17 g18 : Nat} {za a : Int} {zt : ByteArray} {zd : Bool} {l : List It} {p t : Nat} {v : Value} {w w' : World} (h : PartsT m A ad n c c3 g g17 g18 za a zt zd l p t v w) (hb : Below w.heap.size w w') : PartsT m A ad n c c3 g g17 g18 za a zt zd l p t v w' := by
  unfold PartsT at *
  split at h <;> first | exact h | exact (let ⟨s', e1, h1⟩ := h; ⟨s', e1, h1.on hb⟩)

def PartsE (m : Int) (A2 A7 B1 B2 B7 : Option Addr) (nq c2 c7 no d1 nr d2 nz d7 bs : Nat) (P2 O1 Z : List It) (p t : Nat) (v : Value) (w : World) : Prop :=
  match t with
  | 112 => v = .int .i64 0
  | 113 => v = .bool true
  | 114 => v = .bool true
  | 115 => v = .int .i64 0
  | 116 => v = .bool true
  | 117 => v = .bool true
  | 118 => v = .bool true
  | 119 => v = .agg #[.int .i64 m, .slice A2 nq c2]
  | 120 => v = .agg #[.int .i64 m, .slice A7 nq c7]
  | 121 => p = 0 → ∃ s', v = .agg #[.int .i64 m, s'] ∧ IV w s' P2
  | 122 => v = .bool true
  | 123 => v = .bool true
  | 124 => v = .bool true
  | 125 => p = 0 → World.ownsRow w bs 27 3 v 0 []
  | 126 => v = .slice B1 no d1
  | 127 => p = 1 → World.ownsRow w bs 27 3 v no (O1.flatMap It.cells)
  | 128 => v = .slice B2 nr d2
  | 129 => p = 2 → IV w v Z
  | 130 => p = 2 ∧ IV w v Z
  | 131 => v = .slice B7 nz d7
  | 132 => World.ownsRow w bs 33 3 v nz (Z.flatMap It.cells)
  | 133 => v = .bool true
  | 134 => v = .bool true
  | 135 => v = .bool true
  | 136 => v = .bool true
  | 137 => v = .bool true
  | 8 => v = .bool true
  | _ => True
theorem PartsE.on {m : Int} {A2 A7 B1 B2 B7 : Option Addr} {nq c2 c7 no d1 nr d2 nz d7 bs : Nat} {P2 O1 Z : List It} {p t : Nat} {v : Value} {w w' : World} (h : PartsE m A2 A7 B1 B2 B7 nq c2 c7 no d1 nr d2 nz d7 bs P2 O1 Z p t v w) (hb : Below w.heap.size w w') : PartsE m A2 A7 B1 B2 B7 nq c2 c7 no d1 nr d2 nz d7 bs P2 O1 Z p t v w' := by
  unfold PartsE at *
  split at h <;> first | exact h | exact fun hp => (let ⟨s', e1, h1⟩ := h hp; ⟨s', e1, h1.on hb⟩) | exact fun hp => own_on (h hp) hb | exact fun hp => (h hp).on hb | exact ⟨h.1, h.2.on hb⟩ | exact own_on h hb

def PartsF (m : Int) (A A3 : Option Addr) (n c c3 g g17 g18 : Nat) (za a : Int) (zt : ByteArray) (zd : Bool) (l : List It) (p t : Nat) (v : Value) (w : World) : Prop :=
  match t with
  | 72 => v = .bool false
  | 73 => v = .bool false
  | 74 => v = undef
  | 75 => v = undef
  | 76 => v = undef
  | 77 => v = undef
  | 78 => v = undef
  | 79 => v = undef
  | 80 => v = undef
  | 81 => v = undef
  | 82 => v = undef
  | 83 => v = undef
  | 84 => v = undef
  | 85 => v = undef
  | 86 => v = undef
  | 87 => v = undef
  | 88 => v = undef
  | 89 => v = undef
  | 90 => v = undef
  | 91 => v = undef
  | 92 => v = undef
  | 93 => v = undef
  | 94 => v = undef
  | 95 => v = .bool false
  | 96 => v = .bool false
  | 97 => v = .bool false
  | 98 => v = .bool true
  | 99 => v = .bool true
  | 100 => v = .agg #[.int .i64 m, .slice A3 n c3]
  | 101 => v = .agg #[.int .i64 m, .slice A n c]
  | 102 => ∃ s', v = .agg #[.int .i64 m, s'] ∧ IV w s' l
  | 103 => v = .bool true
  | 104 => v = .bool false
  | 105 => v = .bool false
  | 106 => v = .bool false
  | 107 => v = .bool false
  | 108 => v = .agg #[.int .i64 m, .slice A3 n c3]
  | 109 => v = .bool true
  | 110 => v = .bool false
  | 111 => v = .bool false
  | _ => True
theorem PartsF.on {m : Int} {A A3 : Option Addr} {n c c3 g g17 g18 : Nat} {za a : Int} {zt : ByteArray} {zd : Bool} {l : List It} {p t : Nat} {v : Value} {w w' : World} (h : PartsF m A A3 n c c3 g g17 g18 za a zt zd l p t v w) (hb : Below w.heap.size w w') : PartsF m A A3 n c c3 g g17 g18 za a zt zd l p t v w' := by
  unfold PartsF at *
  split at h <;> first | exact h | exact (let ⟨s', e1, h1⟩ := h; ⟨s', e1, h1.on hb⟩)

set_option maxRecDepth 100000 in
set_option maxHeartbeats 8000000 in
theorem parts_walk (m : Int) (s : Value) (l : List It) (sa sb : Value) (xs ys : List It) (a : Int) (w : World) (hv : IV w s l) (hx : IV w sa xs) (hy : IV w sb ys) (hn : l.length ≤ maxLen) (hxn : xs.length ≤ maxLen) (hyn : ys.length ≤ maxLen) :
    Calls Try.prog 6 #[.agg #[.int .i64 m, s], sa, sb, .int .i64 a] w fun e w' => e = .returned (.bool true) ∧ Below w.heap.size w w' := by
  obtain ⟨A, c, rfl⟩ := hv.shape rfl
  obtain ⟨n, hl⟩ : ∃ n, l.length = n := ⟨_, rfl⟩
  rw [hl] at hv hn ⊢
  have HL := Lib.hid hl
  obtain ⟨AX, cx, rfl⟩ := hx.shape rfl
  obtain ⟨nx, hlx⟩ : ∃ nx, xs.length = nx := ⟨_, rfl⟩
  rw [hlx] at hx hxn ⊢
  have HLX := Lib.hid hlx
  obtain ⟨AY, cy, rfl⟩ := hy.shape rfl
  obtain ⟨ny, hly⟩ : ∃ ny, ys.length = ny := ⟨_, rfl⟩
  rw [hly] at hy hyn ⊢
  have HLY := Lib.hid hly
  unfold maxLen at hn hxn hyn
  obtain ⟨w0, hw0⟩ : ∃ w0, w0 = w.alloc (.cells #[.int .i64 m, .slice A n c] 24) := ⟨_, rfl⟩
  obtain ⟨g, hg⟩ : ∃ g, g = w.heap.size := ⟨_, rfl⟩
  have hb0 : Below w.heap.size w w0 := by rw [hw0]; exact (Below.refl _ _).alloc (Nat.le_refl _) _
  have HB0 := Lib.hid hb0
  have BC0 := Lib.hid (show Box w0 g 24 #[.int .i64 m, .slice A n c] from by rw [hw0]; exact Box.at_ w _ _ hg)
  have VC0 := Lib.hid (hv.on hb0)
  have VX0 := Lib.hid (hx.on hb0)
  have VY0 := Lib.hid (hy.on hb0)
  clear hv hx hy hb0 hl hlx hly
  have kBC0 := Box.cell BC0.out 0 rfl
  have kBC1 := Box.cell BC0.out 1 rfl
  go_enter Try.func6, Try.ntmps6
  go_upto_region 1 with fail
  rw [← hg, ← hw0]
  clear hg hw0
  by_cases hn100 : n ≤ 100
  · have hd : decide ((100 : Int) < (n : Int)) = false := by simp; omega
    by_cases hx30 : nx ≤ 30
    · have hd2 : decide ((30 : Int) < (nx : Int)) = false := by simp; omega
      by_cases hy30 : ny ≤ 30
      · have hd3 : decide ((30 : Int) < (ny : Int)) = false := by simp; omega
        obtain ⟨R, hR⟩ : ∃ R, R = rightL m l := ⟨_, rfl⟩
        have hc := fun (wx : World) (h : IV wx (.slice A n c) l) => right_s m wx h (by rw [HL.out]; omega) hR.symm
        have HC := Lib.hid hc
        clear hc
        go_wp2_with fail
        refine (HC.out _ VC0.out).mono ?_
        rintro e w1 ⟨rfl, hb⟩
        have HB1 := Lib.hid (HB0.out.trans (hb.mono HB0.out.size))
        have BC1 := Lib.hid (BC0.out.on hb)
        have VC1 := Lib.hid (VC0.out.on hb)
        have VX1 := Lib.hid (VX0.out.on hb)
        have VY1 := Lib.hid (VY0.out.on hb)
        clear hb HB0 BC0 VC0 VX0 VY0 kBC0 kBC1
        cases R with
        | false =>
          go_wp2_with fail
          refine (awake_true _).mono ?_
          rintro e w2 ⟨rfl, hb⟩
          have HB2 := Lib.hid (HB1.out.trans (hb.mono HB1.out.size))
          clear hb HB1 
          go_wp2
          go_ret
          exact ⟨rfl, HB2.out⟩
        | true =>
          have HR := Lib.hid hR.symm
          obtain ⟨P1, hP1⟩ : ∃ P1, P1 = (putL m l xs).1 := ⟨_, rfl⟩
          obtain ⟨O1, hO1⟩ : ∃ O1, O1 = (putL m l xs).2 := ⟨_, rfl⟩
          obtain ⟨P2, hP2⟩ : ∃ P2, P2 = (putL m P1 ys).1 := ⟨_, rfl⟩
          obtain ⟨O2, hO2⟩ : ∃ O2, O2 = (putL m P1 ys).2 := ⟨_, rfl⟩
          obtain ⟨Z, hZ⟩ : ∃ Z, Z = O1 ++ O2 := ⟨_, rfl⟩
          have HZZ := Lib.hid hZ
          have HR1 := Lib.hid (show rightL m P1 = true from by rw [hP1]; exact put_right hR.symm _)
          have HR2 := Lib.hid (show rightL m P2 = true from by rw [hP2]; exact put_right HR1.out _)
          have HPUT1 := Lib.hid (show putC m l xs = (P1, O1) from by unfold putC; rw [if_pos hR.symm, hP1, hO1])
          have HPUT2 := Lib.hid (show putC m P1 ys = (P2, O2) from by unfold putC; rw [if_pos HR1.out, hP2, hO2])
          have HPUT3 := Lib.hid (show putC m l (xs ++ ys) = (P2, Z) from by unfold putC; rw [if_pos hR.symm, putL_append, hZ, hO1, hO2, hP2, hP1])
          have HER := Lib.hid (show (if rightL m l = true then 0 else 1 : Int) = 0 from by rw [HR.out]; rfl)
          have HER1 := Lib.hid (show (if rightL m P1 = true then 0 else 1 : Int) = 0 from by rw [HR1.out]; rfl)
          have HPL := Lib.hid (show P1.length ≤ 100 ∧ P2.length ≤ 100 from ⟨right_len HR1.out, right_len HR2.out⟩)
          have HOL := Lib.hid (show O1.length ≤ 30 ∧ O2.length ≤ 30 from by
            have h1 := put_out_len m l xs
            have h2 := put_out_len m P1 ys
            rw [← hO1, HLX.out] at h1
            rw [← hO2, HLY.out] at h2
            omega)
          obtain ⟨np, hnp⟩ : ∃ np, P1.length = np := ⟨_, rfl⟩
          obtain ⟨no, hno⟩ : ∃ no, O1.length = no := ⟨_, rfl⟩
          obtain ⟨nq, hnq⟩ : ∃ nq, P2.length = nq := ⟨_, rfl⟩
          obtain ⟨nr, hnr⟩ : ∃ nr, O2.length = nr := ⟨_, rfl⟩
          obtain ⟨nz, hnz⟩ : ∃ nz, Z.length = nz := ⟨_, rfl⟩
          have HNP := Lib.hid hnp
          have HNO := Lib.hid hno
          have HNQ := Lib.hid hnq
          have HNR := Lib.hid hnr
          have HNZ := Lib.hid hnz
          have HNN := Lib.hid (show no + nr = nz ∧ nz ≤ 60 from by
            have h1 := HOL.out
            rw [hno, hnr] at h1
            have h2 : no + nr = nz := by rw [← hnz, hZ, List.length_append, hno, hnr]
            omega)
          obtain ⟨G, hG⟩ : ∃ G, getL m l a = G := ⟨_, rfl⟩
          obtain ⟨z, hz⟩ : ∃ z, getI m l a = z := ⟨_, rfl⟩
          obtain ⟨is, hi⟩ : ∃ is, getB m l a = is := ⟨_, rfl⟩
          have HGF := Lib.hid (show (is = true → z.a = a ∧ ∃ L, G = z :: L) ∧ (is = false → G = l) from by
            have h := got_facts m l a
            rw [hG, hz, hi] at h
            exact h)
          have HGL := Lib.hid (show G.length = n from by rw [← hG, getL_len]; exact HL.out)
          have HGR := Lib.hid (show rightL m G = true from by rw [← hG]; exact got_right hR.symm a)
          have HG := Lib.hid hG
          have HZ := Lib.hid hz
          have HI := Lib.hid hi
          have HLK := Lib.hid (show l.length ≤ 1000 ∧ n ≤ 1000 ∧ xs.length ≤ 10000 ∧ ys.length ≤ 10000 ∧ (xs ++ ys).length ≤ 10000 ∧ nx + ys.length ≤ 100000 ∧ 0 + xs.length ≤ 100000 ∧ G.length ≤ 1000 from by
            rw [List.length_append, HGL.out, HL.out, HLX.out, HLY.out]
            omega)
          clear hR hP1 hO1 hP2 hO2 hZ hnp hno hnq hnr hnz hG hz hi HC
          obtain ⟨za, zt, zd⟩ := z
          have kBC0 := Box.cell BC1.out 0 rfl
          have kBC1 := Box.cell BC1.out 1 rfl
          go_wp2_with fail
          refine (put_s (l := l) (xs := xs) m _ VC1.out HLK.out.1 VX1.out HLK.out.2.2.1 HPUT1.out HNP.out HNO.out HER.out).mono ?_
          rintro e w3 ⟨A1, c1, B1, d1, rfl, h1, h2, hb⟩
          have VP3 := Lib.hid h1
          clear h1
          have VO3 := Lib.hid h2
          clear h2
          have HB3 := Lib.hid (HB1.out.trans (hb.mono HB1.out.size))
          have BC3 := Lib.hid (BC1.out.on hb)
          have VC3 := Lib.hid (VC1.out.on hb)
          have VX3 := Lib.hid (VX1.out.on hb)
          have VY3 := Lib.hid (VY1.out.on hb)
          clear hb HB1 BC1 VC1 VX1 VY1 kBC0 kBC1
          go_upto_region 4 with fail
          obtain ⟨g9, hg9⟩ : ∃ g9, g9 = w3.heap.size := ⟨_, rfl⟩
          obtain ⟨w4, hz0⟩ : ∃ wz, wz = w3.alloc (.cells #[.int .i64 m, .slice A1 np c1] 24) := ⟨_, rfl⟩
          rw [← hg9, ← hz0]
          have hb : Below w3.heap.size w3 w4 := by rw [hz0]; exact ((Below.refl _ _).alloc (Nat.le_refl _) _)
          have B94 := Lib.hid (show Box w4 g9 24 #[.int .i64 m, .slice A1 np c1] from (by rw [hz0]; exact Box.at_ w3 _ _ hg9))
          have HGg9 := Lib.hid (show w.heap.size ≤ g9 from by rw [hg9]; exact HB3.out.size)
          have HN_g9_g := Lib.hid (show g9 ≠ g from by have := BC3.out.lt; omega)
          have HB4 := Lib.hid (HB3.out.trans (hb.mono HB3.out.size))
          have BC4 := Lib.hid (BC3.out.on hb)
          have VC4 := Lib.hid (VC3.out.on hb)
          have VX4 := Lib.hid (VX3.out.on hb)
          have VY4 := Lib.hid (VY3.out.on hb)
          have VP4 := Lib.hid (VP3.out.on hb)
          have VO4 := Lib.hid (VO3.out.on hb)
          clear hb HB3 BC3 VC3 VX3 VY3 VP3 VO3 hg9  hz0
          have kB90 := Box.cell B94.out 0 rfl
          have kB91 := Box.cell B94.out 1 rfl
          go_wp2_with fail
          refine (put_s (l := P1) (xs := ys) m _ VP4.out (Nat.le_trans HPL.out.1 (by decide)) VY4.out HLK.out.2.2.2.1 HPUT2.out HNQ.out HNR.out HER1.out).mono ?_
          rintro e w5 ⟨A2, c2, B2, d2, rfl, h1, h2, hb⟩
          have VQ5 := Lib.hid h1
          clear h1
          have VR5 := Lib.hid h2
          clear h2
          have HB5 := Lib.hid (HB4.out.trans (hb.mono HB4.out.size))
          have BC5 := Lib.hid (BC4.out.on hb)
          have VC5 := Lib.hid (VC4.out.on hb)
          have VX5 := Lib.hid (VX4.out.on hb)
          have VY5 := Lib.hid (VY4.out.on hb)
          have VP5 := Lib.hid (VP4.out.on hb)
          have VO5 := Lib.hid (VO4.out.on hb)
          have B95 := Lib.hid (B94.out.on hb)
          clear hb HB4 BC4 VC4 VX4 VY4 VP4 VO4 B94 kB90 kB91
          have kk0 := Box.cell B95.out 0 rfl
          have ff0 := Box.free B95.out 0
          have kk1 := Box.cell B95.out 1 rfl
          have ff1 := Box.free B95.out 1
          go_upto_region 5 with fail
          obtain ⟨w6, hw⟩ : ∃ wz, wz = (w5.setCell ⟨g9, 0, none⟩ (.int .i64 m)).setCell ⟨g9, 1, none⟩ (.slice A2 nq c2) := ⟨_, rfl⟩
          rw [← hw]
          have HB6 := Lib.hid (show Below w.heap.size w w6 from by rw [hw]; exact below_two HB5.out HGg9.out)
          have BC6 := Lib.hid (show Box w6 _ _ _ from by rw [hw]; exact ((Ex.set (g := g9) (i := 0) w5 _).trans (Ex.set (i := 1) _ _)).box BC5.out (HN_g9_g.out.symm))
          have VC6 := Lib.hid (show IV w6 _ _ from by rw [hw]; exact iv_put VC5.out B95.out)
          have VX6 := Lib.hid (show IV w6 _ _ from by rw [hw]; exact iv_put VX5.out B95.out)
          have VY6 := Lib.hid (show IV w6 _ _ from by rw [hw]; exact iv_put VY5.out B95.out)
          have VP6 := Lib.hid (show IV w6 _ _ from by rw [hw]; exact iv_put VP5.out B95.out)
          have VO6 := Lib.hid (show IV w6 _ _ from by rw [hw]; exact iv_put VO5.out B95.out)
          have B96 := Lib.hid (show Box w6 g9 24 #[.int .i64 m, .slice A2 nq c2] from by rw [hw]; exact (Box.set B95.out 0 _).set 1 _)
          have VQ6 := Lib.hid (show IV w6 _ _ from by rw [hw]; exact iv_put VQ5.out B95.out)
          have VR6 := Lib.hid (show IV w6 _ _ from by rw [hw]; exact iv_put VR5.out B95.out)
          clear hw kk0 kk1 ff0 ff1 HB5 BC5 VC5 VX5 VY5 VP5 VO5 B95 VQ5 VR5 
          obtain ⟨bs, hbs⟩ : ∃ bs, bs = w6.heap.size := ⟨_, rfl⟩
          have Hbs := Lib.hid hbs
          clear hbs
          have HB9x := B96
          refine wp_region_phase 14 [55, 56, 57, 58, 59, 60, 61, 54, 62, 63, 64, 14, 15, 16] (by kernel_rfl) [3, 5, 12] [] (fun _ _ => True) 3 rfl (by kernel_rfl) ((fun _ wx => Below w6.heap.size w6 wx)) (fun wa wb => Below wa.heap.size wa wb) (PartsV m A n c AX nx cx AY ny cy nq nz bs xs ys P2 Z) (by kernel_rfl) (fun _ => below_grow) (fun _ t v wa wb h1 h2 => h2.on h1) (fun _ _ _ _ _ _ _ => trivial) (Below.refl _ _).drew trivial (phase3 ?_ ?_ ?_ ?_) ?_
          · refine Steps1.cons (fun _ ax wx hS _ hG => ?_) (Steps1.cons (fun _ ax wx hS _ hG => ?_) (Steps1.cons (fun _ ax wx hS _ hG => ?_) (Steps1.cons (fun _ ax wx hS _ hG => ?_) (Steps1.cons (fun _ ax wx hS _ hG => ?_) (Steps1.cons (fun hin _ _ _ _ _ => out (by kernel_rfl) hin) (Steps1.cons (fun hin _ _ _ _ _ => out (by kernel_rfl) hin) (Steps1.cons (fun hin _ _ _ _ _ => out (by kernel_rfl) hin) (Steps1.cons (fun hin _ _ _ _ _ => out (by kernel_rfl) hin) (Steps1.cons (fun hin _ _ _ _ _ => out (by kernel_rfl) hin) (Steps1.cons (fun hin _ _ _ _ _ => out (by kernel_rfl) hin) (Steps1.cons (fun _ ax wx hS _ hG => ?_) (Steps1.cons (fun hin _ _ _ _ _ => out (by kernel_rfl) hin) (Steps1.cons (fun hin _ _ _ _ _ => out (by kernel_rfl) hin) (Steps1.cons (fun hin _ _ _ _ _ => out (by kernel_rfl) hin) Steps1.nil))))))))))))))
            · have q4 := hG.old 4 (by kernel_rfl) (by kernel_rfl)
              obtain ⟨z0, z1⟩ := (⟨Box.cell (BC6.out.on hS) 0 rfl, Box.cell (BC6.out.on hS) 1 rfl⟩ : _ ∧ _)
              refine step_slot rfl rfl rfl (step_value (v := .agg #[.int .i64 m, .slice A n c]) (w' := wx) rfl rfl ?_ (Below.refl _ _) (fun d hd => by cases hd; exact rfl))
              go_simp
            · refine step_slot rfl rfl rfl (step_value (v := .slice (some ⟨wx.heap.size, 0, none⟩) 0 0) (w' := wx.alloc (.cells #[] 27)) rfl rfl ?_ ((Below.refl _ _).alloc (Nat.le_refl _) _) (fun d hd => by cases hd; exact fun _ => World.ownsRow_made wx #[] 0 (by rw [Hbs.out]; exact hS.size) (Nat.zero_le _) rfl))
              go_simp
            · have q1 := hG.old 1 (by kernel_rfl) (by kernel_rfl)
              refine step_slot rfl rfl rfl (step_value (v := .slice AX nx cx) (w' := wx) rfl rfl ?_ (Below.refl _ _) (fun d hd => by cases hd; exact rfl))
              go_simp
            · obtain ⟨v56, q56, h56⟩ := hG.new 56 (by kernel_rfl) (by kernel_rfl)
              have p56 : 0 = 0 → World.ownsRow wx bs 27 3 v56 0 [] := h56
              obtain ⟨_, q57, rfl⟩ := hG.new 57 (by kernel_rfl) (by kernel_rfl)
              have hown := p56 rfl
              obtain ⟨v2, w2, hr, hown2, hg, _⟩ := run_app_iv item_info Try.underlying22 wx bs v56 0 [] hown (VX6.out.on hS) (HLK.out.2.2.2.2.2.2.1) (by rw [Hbs.out]; exact hS.size)
              have hS2 : Below _ _ w2 := hS.grown hg hS.size (fun k hk => by have h1 := (own_lt hown hk).1; rw [Hbs.out] at h1; exact h1)
              refine step_marked (v := v2) (w' := w2) rfl rfl rfl rfl ?_ hS2 trivial ?_ ?_
              · have e1 : ax.eval (.tmp 56) = v56 := by simp [Act.eval, q56]
                have e2 : ax.eval (.tmp 57) = .slice AX nx cx := by simp [Act.eval, q57]
                unfold execOp
                simp only [resolve, invoke, builtin, Sem.run_bind, Sem.run_pure, Result.andThen_ok, List.map_toArray, List.map_cons, List.map_nil, e1, e2, hr]
              · exact fun _ => (by have h := hown2; rw [Nat.zero_add, List.nil_append, HLX.out] at h; exact h)
              · intro t u _ ht hu hV
                unfold PartsV at hV ⊢
                split at hV <;> first | exact absurd rfl ht | trivial | exact fun h => absurd h (by decide) | exact hV | exact absurd hV.1 (by decide) | exact ⟨fun _ => (hV.1 (by decide)).grown (l := []) hown hg, fun h => absurd h (by decide)⟩
            · have q2 := hG.old 2 (by kernel_rfl) (by kernel_rfl)
              refine step_slot rfl rfl rfl (step_value (v := .slice AY ny cy) (w' := wx) rfl rfl ?_ (Below.refl _ _) (fun d hd => by cases hd; exact rfl))
              go_simp
            · refine step_slot rfl rfl rfl (step_value (v := .pointer (some ⟨wx.heap.size, 0, none⟩)) (w' := wx.alloc (.cells #[.int .i64 0, .slice none 0 0] 24)) rfl rfl ?_ ((Below.refl _ _).alloc (Nat.le_refl _) _) (fun d hd => by cases hd; exact ⟨fun _ => NewC.fresh wx (by rw [Hbs.out]; exact hS.size), fun h => absurd h (by decide)⟩))
              go_simp
          · refine Steps1.cons (fun _ ax wx hS _ hG => ?_) (Steps1.cons (fun hin _ _ _ _ _ => out (by kernel_rfl) hin) (Steps1.cons (fun hin _ _ _ _ _ => out (by kernel_rfl) hin) (Steps1.cons (fun hin _ _ _ _ _ => out (by kernel_rfl) hin) (Steps1.cons (fun _ ax wx hS _ hG => ?_) (Steps1.cons (fun _ ax wx hS _ hG => ?_) (Steps1.cons (fun hin _ _ _ _ _ => out (by kernel_rfl) hin) (Steps1.cons (fun hin _ _ _ _ _ => out (by kernel_rfl) hin) (Steps1.cons (fun hin _ _ _ _ _ => out (by kernel_rfl) hin) (Steps1.cons (fun hin _ _ _ _ _ => out (by kernel_rfl) hin) (Steps1.cons (fun hin _ _ _ _ _ => out (by kernel_rfl) hin) (Steps1.cons (fun _ ax wx hS _ hG => ?_) (Steps1.cons (fun hin _ _ _ _ _ => out (by kernel_rfl) hin) (Steps1.cons (fun hin _ _ _ _ _ => out (by kernel_rfl) hin) (Steps1.cons (fun hin _ _ _ _ _ => out (by kernel_rfl) hin) Steps1.nil))))))))))))))
            · have q4 := hG.old 4 (by kernel_rfl) (by kernel_rfl)
              obtain ⟨z0, z1⟩ := (⟨Box.cell (BC6.out.on hS) 0 rfl, Box.cell (BC6.out.on hS) 1 rfl⟩ : _ ∧ _)
              refine step_slot rfl rfl rfl (step_value (v := .agg #[.int .i64 m, .slice A n c]) (w' := wx) rfl rfl ?_ (Below.refl _ _) (fun d hd => by cases hd; exact rfl))
              go_simp
            · have q2 := hG.old 2 (by kernel_rfl) (by kernel_rfl)
              refine step_slot rfl rfl rfl (step_value (v := .slice AY ny cy) (w' := wx) rfl rfl ?_ (Below.refl _ _) (fun d hd => by cases hd; exact rfl))
              go_simp
            · obtain ⟨v58, q58, h58⟩ := hG.new 58 (by kernel_rfl) (by kernel_rfl)
              have p58 : 1 = 1 → World.ownsRow wx bs 27 3 v58 nx (xs.flatMap It.cells) := h58
              obtain ⟨_, q59, rfl⟩ := hG.new 59 (by kernel_rfl) (by kernel_rfl)
              have hown := p58 rfl
              obtain ⟨v2, w2, hr, hown2, hg, _⟩ := run_app_iv item_info Try.underlying22 wx bs v58 nx _ hown (VY6.out.on hS) (HLK.out.2.2.2.2.2.1) (by rw [Hbs.out]; exact hS.size)
              have hS2 : Below _ _ w2 := hS.grown hg hS.size (fun k hk => by have h1 := (own_lt hown hk).1; rw [Hbs.out] at h1; exact h1)
              refine step_marked (v := v2) (w' := w2) rfl rfl rfl rfl ?_ hS2 trivial ?_ ?_
              · have e1 : ax.eval (.tmp 58) = v58 := by simp [Act.eval, q58]
                have e2 : ax.eval (.tmp 59) = .slice AY ny cy := by simp [Act.eval, q59]
                unfold execOp
                simp only [resolve, invoke, builtin, Sem.run_bind, Sem.run_pure, Result.andThen_ok, List.map_toArray, List.map_cons, List.map_nil, e1, e2, hr]
              · exact fun _ => IV.own (n := nx + ys.length) (by rw [List.flatMap_append]; exact hown2) (by rw [List.length_append, HLX.out])
              · intro t u _ ht hu hV
                unfold PartsV at hV ⊢
                split at hV <;> first | exact absurd rfl ht | trivial | exact fun h => absurd h (by decide) | exact hV | exact absurd hV.1 (by decide) | exact ⟨fun _ => (hV.1 (by decide)).grown (l := xs) hown hg, fun h => absurd h (by decide)⟩
            · refine step_slot rfl rfl rfl (step_value (v := .pointer (some ⟨wx.heap.size, 0, none⟩)) (w' := wx.alloc (.cells #[.int .i64 0, .slice none 0 0] 24)) rfl rfl ?_ ((Below.refl _ _).alloc (Nat.le_refl _) _) (fun d hd => by cases hd; exact ⟨fun _ => NewC.fresh wx (by rw [Hbs.out]; exact hS.size), fun h => absurd h (by decide)⟩))
              go_simp
          · refine Steps1.cons (fun _ ax wx hS _ hG => ?_) (Steps1.cons (fun hin _ _ _ _ _ => out (by kernel_rfl) hin) (Steps1.cons (fun hin _ _ _ _ _ => out (by kernel_rfl) hin) (Steps1.cons (fun hin _ _ _ _ _ => out (by kernel_rfl) hin) (Steps1.cons (fun hin _ _ _ _ _ => out (by kernel_rfl) hin) (Steps1.cons (fun hin _ _ _ _ _ => out (by kernel_rfl) hin) (Steps1.cons (fun _ ax wx hS _ hG => ?_) (Steps1.cons (fun _ ax wx hS _ hG => ?_) (Steps1.cons (fun _ ax wx hS _ hG => ?_) (Steps1.cons (fun _ ax wx hS _ hG => ?_) (Steps1.cons (fun _ ax wx hS _ hG => ?_) (Steps1.cons (fun _ ax wx hS _ hG => ?_) (Steps1.cons (fun _ ax wx hS _ hG => ?_) (Steps1.cons (fun _ ax wx hS _ hG => ?_) (Steps1.cons (fun _ ax wx hS _ hG => ?_) Steps1.nil))))))))))))))
            · have q4 := hG.old 4 (by kernel_rfl) (by kernel_rfl)
              obtain ⟨z0, z1⟩ := (⟨Box.cell (BC6.out.on hS) 0 rfl, Box.cell (BC6.out.on hS) 1 rfl⟩ : _ ∧ _)
              refine step_slot rfl rfl rfl (step_value (v := .agg #[.int .i64 m, .slice A n c]) (w' := wx) rfl rfl ?_ (Below.refl _ _) (fun d hd => by cases hd; exact rfl))
              go_simp
            · obtain ⟨_, q55, rfl⟩ := hG.new 55 (by kernel_rfl) (by kernel_rfl)
              obtain ⟨v60, q60, h60⟩ := hG.new 60 (by kernel_rfl) (by kernel_rfl)
              have p60 : 2 = 2 → IV wx v60 (xs ++ ys) := h60
              refine step_slot rfl rfl rfl (step_call (w1 := wx) (f := 13) (args := #[.agg #[.int .i64 m, .slice A n c], v60]) rfl rfl ?_ ((put_s (l := l) (xs := xs ++ ys) m wx (VC6.out.on hS) HLK.out.1 (p60 rfl) HLK.out.2.2.2.2.1 HPUT3.out HNQ.out HNZ.out HER.out).mono ?_))
              · clear h60 p60
                go_simp
              · rintro e w' ⟨A7, c7, B7, d7, rfl, h7, j7, hq⟩
                exact ⟨_, rfl, hq, fun d hd => by cases hd; exact ⟨by decide, A7, c7, B7, d7, rfl, h7, j7⟩⟩
            · obtain ⟨v61, q61, h61⟩ := hG.new 61 (by kernel_rfl) (by kernel_rfl)
              have p61 : 2 ≤ 2 ∧ PutA m 0 nq nz P2 Z wx v61 := h61
              obtain ⟨_, A7, c7, B7, d7, rfl, p61, j7⟩ := p61
              refine step_slot rfl rfl rfl (step_value (v := .tuple #[.agg #[.int .i64 m, .slice A7 nq c7], .slice B7 nz d7, .int .i64 0]) (w' := wx) rfl rfl ?_ (Below.refl _ _) (fun d hd => by cases hd; exact ⟨by decide, A7, c7, B7, d7, rfl, p61, j7⟩))
              clear h61 p61
              clear j7
              go_simp
            · obtain ⟨v54, q54, h54⟩ := hG.new 54 (by kernel_rfl) (by kernel_rfl)
              have p54 : 2 ≤ 2 ∧ PutA m 0 nq nz P2 Z wx v54 := h54
              obtain ⟨_, A7, c7, B7, d7, rfl, p54, j7⟩ := p54
              refine step_slot rfl rfl rfl (step_value (v := .agg #[.int .i64 m, .slice A7 nq c7]) (w' := wx) rfl rfl ?_ (Below.refl _ _) (fun d hd => by cases hd; exact ⟨by decide, A7, c7, rfl, p54⟩))
              clear h54 p54
              clear j7
              go_simp
            · obtain ⟨v54, q54, h54⟩ := hG.new 54 (by kernel_rfl) (by kernel_rfl)
              have p54 : 2 ≤ 2 ∧ PutA m 0 nq nz P2 Z wx v54 := h54
              obtain ⟨_, A7, c7, B7, d7, rfl, p54, j7⟩ := p54
              refine step_slot rfl rfl rfl (step_value (v := .slice B7 nz d7) (w' := wx) rfl rfl ?_ (Below.refl _ _) (fun d hd => by cases hd; exact ⟨by decide, B7, d7, rfl, j7⟩))
              clear h54 p54
              clear j7
              go_simp
            · obtain ⟨v54, q54, h54⟩ := hG.new 54 (by kernel_rfl) (by kernel_rfl)
              have p54 : 2 ≤ 2 ∧ PutA m 0 nq nz P2 Z wx v54 := h54
              obtain ⟨_, A7, c7, B7, d7, rfl, p54, j7⟩ := p54
              refine step_slot rfl rfl rfl (step_value (v := .int .i64 0) (w' := wx) rfl rfl ?_ (Below.refl _ _) (fun d hd => by cases hd; exact rfl))
              clear h54 p54
              clear j7
              go_simp
            · refine step_slot rfl rfl rfl (step_value (v := .pointer (some ⟨wx.heap.size, 0, none⟩)) (w' := wx.alloc (.cells #[.int .i64 0, .slice none 0 0] 24)) rfl rfl ?_ ((Below.refl _ _).alloc (Nat.le_refl _) _) (fun d hd => by cases hd; exact ⟨fun _ => NewC.fresh wx (by rw [Hbs.out]; exact hS.size), fun h => absurd h (by decide)⟩))
              go_simp
            · obtain ⟨v14, q14, h14⟩ := hG.new 14 (by kernel_rfl) (by kernel_rfl)
              have p14 : (2 ≤ 2 → NewC bs wx v14) ∧ (2 = 3 → FillC bs m nq P2 wx v14) := h14
              obtain ⟨v62, q62, h62⟩ := hG.new 62 (by kernel_rfl) (by kernel_rfl)
              have p62 : 2 ≤ 2 ∧ CacheA m nq P2 wx v62 := h62
              obtain ⟨gg, rfl, hgg, hz⟩ := p14.1 (Nat.le_refl _)
              obtain ⟨_, A7, c7, rfl, h7⟩ := p62
              have f0 := Box.free hz 0
              have f1 := Box.free hz 1
              have k0 := Box.cell hz 0 rfl
              have k1 := Box.cell hz 1 rfl
              refine step_store (w' := (wx.setCell ⟨gg, 0, none⟩ (.int .i64 m)).setCell ⟨gg, 1, none⟩ (.slice A7 nq c7)) rfl rfl rfl rfl ?_ (below_two hS (by rw [← Hbs.out]; exact hgg)) trivial ?_
              · clear h14 p14 h62 hz h7 hS
                go_simp
              · intro t u _ hu hV
                unfold PartsV at hV ⊢
                split at hV <;> first | trivial | exact fun h => absurd h (by decide) | exact hV | exact ⟨by decide, PutA.put hV.2 hz⟩ | exact ⟨by decide, CacheA.put hV.2 hz⟩ | exact ⟨by decide, ItsA.put hV.2 hz⟩ | exact ⟨fun h => absurd h (by decide), fun _ => (by have e := Option.some.inj (q14.symm.trans hu); subst e; exact ⟨gg, A7, c7, rfl, hgg, (Box.set hz 0 _).set 1 _, iv_put h7 hz⟩)⟩
            · obtain ⟨v63, q63, h63⟩ := hG.new 63 (by kernel_rfl) (by kernel_rfl)
              have p63 : 2 ≤ 2 ∧ ItsA nz Z wx v63 := h63
              obtain ⟨_, B7, d7, rfl, p63⟩ := p63
              refine step_slot rfl rfl rfl (step_value (v := .slice B7 nz d7) (w' := wx) rfl rfl ?_ (Below.refl _ _) (fun d hd => by cases hd; exact ⟨by decide, B7, d7, rfl, p63⟩))
              clear h63 p63
              go_simp
            · obtain ⟨_, q64, rfl⟩ := hG.new 64 (by kernel_rfl) (by kernel_rfl)
              refine step_slot rfl rfl rfl (step_value (v := .int .i64 0) (w' := wx) rfl rfl ?_ (Below.refl _ _) (fun d hd => by cases hd; exact rfl))
              go_simp
          · refine Steps1.cons (fun hin _ _ _ _ _ => out (by kernel_rfl) hin) (Steps1.cons (fun hin _ _ _ _ _ => out (by kernel_rfl) hin) (Steps1.cons (fun hin _ _ _ _ _ => out (by kernel_rfl) hin) (Steps1.cons (fun hin _ _ _ _ _ => out (by kernel_rfl) hin) (Steps1.cons (fun hin _ _ _ _ _ => out (by kernel_rfl) hin) (Steps1.cons (fun hin _ _ _ _ _ => out (by kernel_rfl) hin) (Steps1.cons (fun hin _ _ _ _ _ => out (by kernel_rfl) hin) (Steps1.cons (fun hin _ _ _ _ _ => out (by kernel_rfl) hin) (Steps1.cons (fun hin _ _ _ _ _ => out (by kernel_rfl) hin) (Steps1.cons (fun _ ax wx hS _ hG => ?_) (Steps1.cons (fun _ ax wx hS _ hG => ?_) (Steps1.cons (fun hin _ _ _ _ _ => out (by kernel_rfl) hin) (Steps1.cons (fun hin _ _ _ _ _ => out (by kernel_rfl) hin) (Steps1.cons (fun _ ax wx hS _ hG => ?_) (Steps1.cons (fun _ ax wx hS _ hG => ?_) Steps1.nil))))))))))))))
            · obtain ⟨v54, q54, h54⟩ := hG.new 54 (by kernel_rfl) (by kernel_rfl)
              have p54 : 2 ≤ 3 ∧ PutA m 0 nq nz P2 Z wx v54 := h54
              obtain ⟨_, A7, c7, B7, d7, rfl, p54, j7⟩ := p54
              refine step_slot rfl rfl rfl (step_value (v := .slice B7 nz d7) (w' := wx) rfl rfl ?_ (Below.refl _ _) (fun d hd => by cases hd; exact ⟨by decide, B7, d7, rfl, j7⟩))
              clear h54 p54
              clear j7
              go_simp
            · obtain ⟨v54, q54, h54⟩ := hG.new 54 (by kernel_rfl) (by kernel_rfl)
              have p54 : 2 ≤ 3 ∧ PutA m 0 nq nz P2 Z wx v54 := h54
              obtain ⟨_, A7, c7, B7, d7, rfl, p54, j7⟩ := p54
              refine step_slot rfl rfl rfl (step_value (v := .int .i64 0) (w' := wx) rfl rfl ?_ (Below.refl _ _) (fun d hd => by cases hd; exact rfl))
              clear h54 p54
              clear j7
              go_simp
            · obtain ⟨v63, q63, h63⟩ := hG.new 63 (by kernel_rfl) (by kernel_rfl)
              have p63 : 2 ≤ 3 ∧ ItsA nz Z wx v63 := h63
              obtain ⟨_, B7, d7, rfl, p63⟩ := p63
              refine step_slot rfl rfl rfl (step_value (v := .slice B7 nz d7) (w' := wx) rfl rfl ?_ (Below.refl _ _) (fun d hd => by cases hd; exact ⟨by decide, B7, d7, rfl, p63⟩))
              clear h63 p63
              go_simp
            · obtain ⟨_, q64, rfl⟩ := hG.new 64 (by kernel_rfl) (by kernel_rfl)
              refine step_slot rfl rfl rfl (step_value (v := .int .i64 0) (w' := wx) rfl rfl ?_ (Below.refl _ _) (fun d hd => by cases hd; exact rfl))
              go_simp
          intro fv w7 hb _ hV8
          have e14 : (3 ≤ 2 → NewC bs w7 (fv 14)) ∧ (3 = 3 → FillC bs m nq P2 w7 (fv 14)) := hV8 14 (by decide)
          have e15 : 2 ≤ 3 ∧ ItsA nz Z w7 (fv 15) := hV8 15 (by decide)
          have e16 : fv 16 = .int .i64 0 := hV8 16 (by decide)
          simp only [puts, Act.put, List.setIfInBounds_toArray, List.set_cons_succ, List.set_cons_zero]
          clear hV8
          rw [e16]
          obtain ⟨g14, A7, c7, e14, hg14, hb14, hv14⟩ := e14.2 rfl
          obtain ⟨_, B7, d7, e15, hv15⟩ := e15
          rw [e14, e15]
          have B147 := Lib.hid hb14
          have VF7 := Lib.hid hv14
          have VZ7 := Lib.hid hv15
          replace hb : Below w6.heap.size w6 w7 := hb
          clear e14 e15 hg14 hb14 hv14 hv15 HB9x Hbs
          have HB7 := Lib.hid (HB6.out.trans (hb.mono HB6.out.size))
          have BC7 := Lib.hid (BC6.out.on hb)
          have VC7 := Lib.hid (VC6.out.on hb)
          have VX7 := Lib.hid (VX6.out.on hb)
          have VY7 := Lib.hid (VY6.out.on hb)
          have VP7 := Lib.hid (VP6.out.on hb)
          have VO7 := Lib.hid (VO6.out.on hb)
          have B97 := Lib.hid (B96.out.on hb)
          have VQ7 := Lib.hid (VQ6.out.on hb)
          have VR7 := Lib.hid (VR6.out.on hb)
          clear hb HB6 BC6 VC6 VX6 VY6 VP6 VO6 B96 VQ6 VR6 
          go_upto_region 6 with fail
          have kBC0 := Box.cell BC7.out 0 rfl
          have kBC1 := Box.cell BC7.out 1 rfl
          go_wp2_with fail
          refine (get_s m a _ VC7.out HL.out HLK.out.2.1 HG.out HZ.out HI.out).mono ?_
          rintro e w8 ⟨A3, c3, rfl, h1, hb⟩
          have VG8 := Lib.hid h1
          clear h1
          have HB8 := Lib.hid (HB7.out.trans (hb.mono HB7.out.size))
          have BC8 := Lib.hid (BC7.out.on hb)
          have VC8 := Lib.hid (VC7.out.on hb)
          have VX8 := Lib.hid (VX7.out.on hb)
          have VY8 := Lib.hid (VY7.out.on hb)
          have VP8 := Lib.hid (VP7.out.on hb)
          have VO8 := Lib.hid (VO7.out.on hb)
          have B98 := Lib.hid (B97.out.on hb)
          have VQ8 := Lib.hid (VQ7.out.on hb)
          have VR8 := Lib.hid (VR7.out.on hb)
          have B148 := Lib.hid (B147.out.on hb)
          have VF8 := Lib.hid (VF7.out.on hb)
          have VZ8 := Lib.hid (VZ7.out.on hb)
          clear hb HB7 BC7 VC7 VX7 VY7 VP7 VO7 B97 VQ7 VR7 B147 VF7 VZ7 kBC0 kBC1
          go_upto_region 7 with fail
          obtain ⟨g17, hg17⟩ : ∃ g17, g17 = w8.heap.size := ⟨_, rfl⟩
          obtain ⟨wz0, hz0⟩ : ∃ wz, wz = w8.alloc (.cells #[.int .i64 m, .slice A3 n c3] 24) := ⟨_, rfl⟩
          obtain ⟨g18, hg18⟩ : ∃ g18, g18 = wz0.heap.size := ⟨_, rfl⟩
          obtain ⟨w9, hz1⟩ : ∃ wz, wz = wz0.alloc (.cells #[.int .i64 za, .string zt, .bool zd] 27) := ⟨_, rfl⟩
          have hg181 : g17 + 1 = g18 := by rw [hg18, hz0, hg17]; simp
          rw [← hg17, hg181, ← hz0, ← hz1]
          have hb : Below w8.heap.size w8 w9 := by rw [hz1, hz0]; exact (((Below.refl _ _).alloc (Nat.le_refl _) _).alloc (by simp) _)
          have B179 := Lib.hid (show Box w9 g17 24 #[.int .i64 m, .slice A3 n c3] from (by rw [hz1]; exact Box.push (by rw [hz0]; exact Box.at_ w8 _ _ hg17) _))
          have B189 := Lib.hid (show Box w9 g18 27 #[.int .i64 za, .string zt, .bool zd] from (by rw [hz1]; exact Box.at_ wz0 _ _ hg18))
          have HGg17 := Lib.hid (show w.heap.size ≤ g17 from by rw [hg17]; exact HB8.out.size)
          have HB9 := Lib.hid (HB8.out.trans (hb.mono HB8.out.size))
          have BC9 := Lib.hid (BC8.out.on hb)
          have VC9 := Lib.hid (VC8.out.on hb)
          have VX9 := Lib.hid (VX8.out.on hb)
          have VY9 := Lib.hid (VY8.out.on hb)
          have VP9 := Lib.hid (VP8.out.on hb)
          have VO9 := Lib.hid (VO8.out.on hb)
          have B99 := Lib.hid (B98.out.on hb)
          have VQ9 := Lib.hid (VQ8.out.on hb)
          have VR9 := Lib.hid (VR8.out.on hb)
          have B149 := Lib.hid (B148.out.on hb)
          have VF9 := Lib.hid (VF8.out.on hb)
          have VZ9 := Lib.hid (VZ8.out.on hb)
          have VG9 := Lib.hid (VG8.out.on hb)
          clear hb HB8 BC8 VC8 VX8 VY8 VP8 VO8 B98 VQ8 VR8 B148 VF8 VZ8 VG8 hg17 hg18 hg181 hz0 hz1
          cases is with
          | true =>
            obtain ⟨hza, L, hGL⟩ := HGF.out.1 rfl
            have hza : (za != a) = false := by simp [show za = a from hza]
            have HAD := Lib.hid (show ∃ ad, A3 = some ad ∧ ad.block < w9.heap.size ∧ w9.cell? ad = some (.int .i64 za) ∧ w9.cell? ⟨ad.block, ad.off + 1, none⟩ = some (.string zt) ∧ w9.cell? ⟨ad.block, ad.off + 2, none⟩ = some (.bool zd) from by
              obtain ⟨A', c', e, h, _⟩ := VG9.out
              injection e with e1 _ _
              rw [hGL] at h
              obtain ⟨ad, e2, hB, hc⟩ := h.seeI (by simp)
              obtain ⟨c1, c2, c3⟩ := hc 0 (by simp)
              exact ⟨ad, by rw [e1, e2], hB, c1, c2, c3⟩)
            have HNG := Lib.hid (show 0 < n from by rw [← HGL.out, hGL]; simp)
            clear hGL
            obtain ⟨ad, rfl, hB, c1, c2, c3⟩ := HAD.out
            have HCX := Lib.hid (show ∀ wx : World, Below w9.heap.size w9 wx → wx.cell? ad = some (.int .i64 za) ∧ wx.cell? ⟨ad.block, ad.off + 1, none⟩ = some (.string zt) ∧ wx.cell? ⟨ad.block, ad.off + 2, none⟩ = some (.bool zd) from fun wx h => ⟨(h.cell (lt_of_cell c1)).trans c1, (h.cell (lt_of_cell c2)).trans c2, (h.cell (lt_of_cell c3)).trans c3⟩)
            have hn0 : ¬ n = 0 := by have := HNG.out; omega
            clear HAD hB c1 c2 c3
            refine wp_region_phase 14 [72, 73, 74, 75, 76, 77, 78, 79, 80, 81, 82, 83, 84, 85, 86, 87, 88, 89, 90, 91, 92, 93, 94, 95, 96, 97, 98, 99, 100, 101, 102, 103, 104, 105, 106, 107, 108, 109, 110, 111] (by kernel_rfl) [] [] (fun _ _ => True) 0 rfl (by kernel_rfl) ((fun _ wx => Below w9.heap.size w9 wx)) (fun wa wb => Below wa.heap.size wa wb) (PartsT m A ad n c c3 g g17 g18 za a zt zd l) (by kernel_rfl) (fun _ => below_grow) (fun _ t v wa wb h1 h2 => h2.on h1) (fun _ _ _ _ _ _ _ => trivial) (Below.refl _ _).drew trivial (phase0 ?_) ?_
            · refine Steps1.cons (fun _ ax wx hS _ hG => ?_) (Steps1.cons (fun _ ax wx hS _ hG => ?_) (Steps1.cons (fun _ ax wx hS _ hG => ?_) (Steps1.cons (fun _ ax wx hS _ hG => ?_) (Steps1.cons (fun _ ax wx hS _ hG => ?_) (Steps1.cons (fun _ ax wx hS _ hG => ?_) (Steps1.cons (fun _ ax wx hS _ hG => ?_) (Steps1.cons (fun _ ax wx hS _ hG => ?_) (Steps1.cons (fun _ ax wx hS _ hG => ?_) (Steps1.cons (fun _ ax wx hS _ hG => ?_) (Steps1.cons (fun _ ax wx hS _ hG => ?_) (Steps1.cons (fun _ ax wx hS _ hG => ?_) (Steps1.cons (fun _ ax wx hS _ hG => ?_) (Steps1.cons (fun _ ax wx hS _ hG => ?_) (Steps1.cons (fun _ ax wx hS _ hG => ?_) (Steps1.cons (fun _ ax wx hS _ hG => ?_) (Steps1.cons (fun _ ax wx hS _ hG => ?_) (Steps1.cons (fun _ ax wx hS _ hG => ?_) (Steps1.cons (fun _ ax wx hS _ hG => ?_) (Steps1.cons (fun _ ax wx hS _ hG => ?_) (Steps1.cons (fun _ ax wx hS _ hG => ?_) (Steps1.cons (fun _ ax wx hS _ hG => ?_) (Steps1.cons (fun _ ax wx hS _ hG => ?_) (Steps1.cons (fun _ ax wx hS _ hG => ?_) (Steps1.cons (fun _ ax wx hS _ hG => ?_) (Steps1.cons (fun _ ax wx hS _ hG => ?_) (Steps1.cons (fun _ ax wx hS _ hG => ?_) (Steps1.cons (fun _ ax wx hS _ hG => ?_) (Steps1.cons (fun _ ax wx hS _ hG => ?_) (Steps1.cons (fun _ ax wx hS _ hG => ?_) (Steps1.cons (fun _ ax wx hS _ hG => ?_) (Steps1.cons (fun _ ax wx hS _ hG => ?_) (Steps1.cons (fun _ ax wx hS _ hG => ?_) (Steps1.cons (fun _ ax wx hS _ hG => ?_) (Steps1.cons (fun _ ax wx hS _ hG => ?_) (Steps1.cons (fun _ ax wx hS _ hG => ?_) (Steps1.cons (fun _ ax wx hS _ hG => ?_) (Steps1.cons (fun _ ax wx hS _ hG => ?_) (Steps1.cons (fun _ ax wx hS _ hG => ?_) (Steps1.cons (fun _ ax wx hS _ hG => ?_) Steps1.nil)))))))))))))))))))))))))))))))))))))))
              · have q19 := hG.old 19 (by kernel_rfl) (by kernel_rfl)
                refine step_slot rfl rfl rfl (step_value (v := .bool true) (w' := wx) rfl rfl ?_ (Below.refl _ _) (fun d hd => by cases hd; exact rfl))
                go_simp
              · obtain ⟨_, q72, rfl⟩ := hG.new 72 (by kernel_rfl) (by kernel_rfl)
                refine step_slot rfl rfl rfl (step_value (v := .bool true) (w' := wx) rfl rfl ?_ (Below.refl _ _) (fun d hd => by cases hd; exact rfl))
                go_simp
              · obtain ⟨_, q73, rfl⟩ := hG.new 73 (by kernel_rfl) (by kernel_rfl)
                have q17 := hG.old 17 (by kernel_rfl) (by kernel_rfl)
                refine step_slot rfl rfl rfl (step_value (v := .pointer (some ⟨g17, 1, none⟩)) (w' := wx) rfl (by simp [Region.wanted, yielded, q73, undef]) ?_ (Below.refl _ _) (fun d hd => by cases hd; exact rfl))
                go_simp
              · obtain ⟨_, q73, rfl⟩ := hG.new 73 (by kernel_rfl) (by kernel_rfl)
                obtain ⟨_, q74, rfl⟩ := hG.new 74 (by kernel_rfl) (by kernel_rfl)
                obtain ⟨z0, z1⟩ := (⟨Box.cell (B179.out.on hS) 0 rfl, Box.cell (B179.out.on hS) 1 rfl⟩ : _ ∧ _)
                refine step_slot rfl rfl rfl (step_value (v := .slice (some ad) n c3) (w' := wx) rfl (by simp [Region.wanted, yielded, q73, undef]) ?_ (Below.refl _ _) (fun d hd => by cases hd; exact rfl))
                go_simp
              · obtain ⟨_, q73, rfl⟩ := hG.new 73 (by kernel_rfl) (by kernel_rfl)
                obtain ⟨_, q75, rfl⟩ := hG.new 75 (by kernel_rfl) (by kernel_rfl)
                refine step_slot rfl rfl rfl (step_value (v := .int .i64 n) (w' := wx) rfl (by simp [Region.wanted, yielded, q73, undef]) ?_ (Below.refl _ _) (fun d hd => by cases hd; exact rfl))
                go_simp
              · obtain ⟨_, q73, rfl⟩ := hG.new 73 (by kernel_rfl) (by kernel_rfl)
                have q4 := hG.old 4 (by kernel_rfl) (by kernel_rfl)
                refine step_slot rfl rfl rfl (step_value (v := .pointer (some ⟨g, 1, none⟩)) (w' := wx) rfl (by simp [Region.wanted, yielded, q73, undef]) ?_ (Below.refl _ _) (fun d hd => by cases hd; exact rfl))
                go_simp
              · obtain ⟨_, q73, rfl⟩ := hG.new 73 (by kernel_rfl) (by kernel_rfl)
                obtain ⟨_, q77, rfl⟩ := hG.new 77 (by kernel_rfl) (by kernel_rfl)
                obtain ⟨z0, z1⟩ := (⟨Box.cell (BC9.out.on hS) 0 rfl, Box.cell (BC9.out.on hS) 1 rfl⟩ : _ ∧ _)
                refine step_slot rfl rfl rfl (step_value (v := .slice A n c) (w' := wx) rfl (by simp [Region.wanted, yielded, q73, undef]) ?_ (Below.refl _ _) (fun d hd => by cases hd; exact rfl))
                go_simp
              · obtain ⟨_, q73, rfl⟩ := hG.new 73 (by kernel_rfl) (by kernel_rfl)
                obtain ⟨_, q78, rfl⟩ := hG.new 78 (by kernel_rfl) (by kernel_rfl)
                refine step_slot rfl rfl rfl (step_value (v := .int .i64 n) (w' := wx) rfl (by simp [Region.wanted, yielded, q73, undef]) ?_ (Below.refl _ _) (fun d hd => by cases hd; exact rfl))
                go_simp
              · obtain ⟨_, q73, rfl⟩ := hG.new 73 (by kernel_rfl) (by kernel_rfl)
                obtain ⟨_, q76, rfl⟩ := hG.new 76 (by kernel_rfl) (by kernel_rfl)
                obtain ⟨_, q79, rfl⟩ := hG.new 79 (by kernel_rfl) (by kernel_rfl)
                refine step_slot rfl rfl rfl (step_value (v := .bool false) (w' := wx) rfl (by simp [Region.wanted, yielded, q73, undef]) ?_ (Below.refl _ _) (fun d hd => by cases hd; exact rfl))
                go_simp
              · obtain ⟨_, q73, rfl⟩ := hG.new 73 (by kernel_rfl) (by kernel_rfl)
                obtain ⟨_, q80, rfl⟩ := hG.new 80 (by kernel_rfl) (by kernel_rfl)
                refine step_slot rfl rfl rfl (step_value (v := .bool false) (w' := wx) rfl (by simp [Region.wanted, yielded, q73, undef]) ?_ (Below.refl _ _) (fun d hd => by cases hd; exact rfl))
                go_simp
              · obtain ⟨_, q81, rfl⟩ := hG.new 81 (by kernel_rfl) (by kernel_rfl)
                have q17 := hG.old 17 (by kernel_rfl) (by kernel_rfl)
                refine step_slot rfl rfl rfl (step_value (v := .pointer (some ⟨g17, 1, none⟩)) (w' := wx) rfl (by simp [Region.wanted, yielded, q81, undef]) ?_ (Below.refl _ _) (fun d hd => by cases hd; exact rfl))
                go_simp
              · obtain ⟨_, q81, rfl⟩ := hG.new 81 (by kernel_rfl) (by kernel_rfl)
                obtain ⟨_, q82, rfl⟩ := hG.new 82 (by kernel_rfl) (by kernel_rfl)
                obtain ⟨z0, z1⟩ := (⟨Box.cell (B179.out.on hS) 0 rfl, Box.cell (B179.out.on hS) 1 rfl⟩ : _ ∧ _)
                refine step_slot rfl rfl rfl (step_value (v := .slice (some ad) n c3) (w' := wx) rfl (by simp [Region.wanted, yielded, q81, undef]) ?_ (Below.refl _ _) (fun d hd => by cases hd; exact rfl))
                go_simp
              · obtain ⟨_, q81, rfl⟩ := hG.new 81 (by kernel_rfl) (by kernel_rfl)
                obtain ⟨_, q83, rfl⟩ := hG.new 83 (by kernel_rfl) (by kernel_rfl)
                refine step_slot rfl rfl rfl (step_value (v := .pointer (some ad)) (w' := wx) rfl (by simp [Region.wanted, yielded, q81, undef]) ?_ (Below.refl _ _) (fun d hd => by cases hd; exact rfl))
                go_simp
              · obtain ⟨_, q81, rfl⟩ := hG.new 81 (by kernel_rfl) (by kernel_rfl)
                obtain ⟨_, q84, rfl⟩ := hG.new 84 (by kernel_rfl) (by kernel_rfl)
                obtain ⟨z0, z1, z2⟩ := HCX.out wx hS
                refine step_slot rfl rfl rfl (step_value (v := .agg #[.int .i64 za, .string zt, .bool zd]) (w' := wx) rfl (by simp [Region.wanted, yielded, q81, undef]) ?_ (Below.refl _ _) (fun d hd => by cases hd; exact rfl))
                go_simp
              · obtain ⟨_, q81, rfl⟩ := hG.new 81 (by kernel_rfl) (by kernel_rfl)
                have q18 := hG.old 18 (by kernel_rfl) (by kernel_rfl)
                obtain ⟨z0, z1, z2⟩ := (⟨Box.cell (B189.out.on hS) 0 rfl, Box.cell (B189.out.on hS) 1 rfl, Box.cell (B189.out.on hS) 2 rfl⟩ : _ ∧ _ ∧ _)
                refine step_slot rfl rfl rfl (step_value (v := .agg #[.int .i64 za, .string zt, .bool zd]) (w' := wx) rfl (by simp [Region.wanted, yielded, q81, undef]) ?_ (Below.refl _ _) (fun d hd => by cases hd; exact rfl))
                go_simp
              · obtain ⟨_, q81, rfl⟩ := hG.new 81 (by kernel_rfl) (by kernel_rfl)
                obtain ⟨_, q85, rfl⟩ := hG.new 85 (by kernel_rfl) (by kernel_rfl)
                obtain ⟨_, q86, rfl⟩ := hG.new 86 (by kernel_rfl) (by kernel_rfl)
                refine step_slot rfl rfl rfl (step_value (v := .bool false) (w' := wx) rfl (by simp [Region.wanted, yielded, q81, undef]) ?_ (Below.refl _ _) (fun d hd => by cases hd; exact rfl))
                go_simp
              · obtain ⟨_, q73, rfl⟩ := hG.new 73 (by kernel_rfl) (by kernel_rfl)
                obtain ⟨_, q81, rfl⟩ := hG.new 81 (by kernel_rfl) (by kernel_rfl)
                obtain ⟨_, q87, rfl⟩ := hG.new 87 (by kernel_rfl) (by kernel_rfl)
                refine step_slot rfl rfl rfl (step_value (v := .bool false) (w' := wx) rfl (by simp [Region.wanted, yielded, q73, undef]) ?_ (Below.refl _ _) (fun d hd => by cases hd; exact rfl))
                go_simp
              · obtain ⟨_, q73, rfl⟩ := hG.new 73 (by kernel_rfl) (by kernel_rfl)
                obtain ⟨_, q88, rfl⟩ := hG.new 88 (by kernel_rfl) (by kernel_rfl)
                refine step_slot rfl rfl rfl (step_value (v := .bool false) (w' := wx) rfl (by simp [Region.wanted, yielded, q73, undef]) ?_ (Below.refl _ _) (fun d hd => by cases hd; exact rfl))
                go_simp
              · obtain ⟨_, q89, rfl⟩ := hG.new 89 (by kernel_rfl) (by kernel_rfl)
                have q18 := hG.old 18 (by kernel_rfl) (by kernel_rfl)
                refine step_slot rfl rfl rfl (step_value (v := .pointer (some ⟨g18, 0, none⟩)) (w' := wx) rfl (by simp [Region.wanted, yielded, q89, undef]) ?_ (Below.refl _ _) (fun d hd => by cases hd; exact rfl))
                go_simp
              · obtain ⟨_, q89, rfl⟩ := hG.new 89 (by kernel_rfl) (by kernel_rfl)
                obtain ⟨_, q90, rfl⟩ := hG.new 90 (by kernel_rfl) (by kernel_rfl)
                obtain ⟨z0, z1, z2⟩ := (⟨Box.cell (B189.out.on hS) 0 rfl, Box.cell (B189.out.on hS) 1 rfl, Box.cell (B189.out.on hS) 2 rfl⟩ : _ ∧ _ ∧ _)
                refine step_slot rfl rfl rfl (step_value (v := .int .i64 za) (w' := wx) rfl (by simp [Region.wanted, yielded, q89, undef]) ?_ (Below.refl _ _) (fun d hd => by cases hd; exact rfl))
                go_simp
              · obtain ⟨_, q89, rfl⟩ := hG.new 89 (by kernel_rfl) (by kernel_rfl)
                have q3 := hG.old 3 (by kernel_rfl) (by kernel_rfl)
                refine step_slot rfl rfl rfl (step_value (v := .int .i64 a) (w' := wx) rfl (by simp [Region.wanted, yielded, q89, undef]) ?_ (Below.refl _ _) (fun d hd => by cases hd; exact rfl))
                go_simp
              · obtain ⟨_, q89, rfl⟩ := hG.new 89 (by kernel_rfl) (by kernel_rfl)
                obtain ⟨_, q91, rfl⟩ := hG.new 91 (by kernel_rfl) (by kernel_rfl)
                obtain ⟨_, q92, rfl⟩ := hG.new 92 (by kernel_rfl) (by kernel_rfl)
                refine step_slot rfl rfl rfl (step_value (v := .bool false) (w' := wx) rfl (by simp [Region.wanted, yielded, q89, undef]) ?_ (Below.refl _ _) (fun d hd => by cases hd; exact rfl))
                go_simp
              · obtain ⟨_, q73, rfl⟩ := hG.new 73 (by kernel_rfl) (by kernel_rfl)
                obtain ⟨_, q89, rfl⟩ := hG.new 89 (by kernel_rfl) (by kernel_rfl)
                obtain ⟨_, q93, rfl⟩ := hG.new 93 (by kernel_rfl) (by kernel_rfl)
                refine step_slot rfl rfl rfl (step_value (v := .bool false) (w' := wx) rfl (by simp [Region.wanted, yielded, q73, undef]) ?_ (Below.refl _ _) (fun d hd => by cases hd; exact rfl))
                go_simp
              · obtain ⟨_, q73, rfl⟩ := hG.new 73 (by kernel_rfl) (by kernel_rfl)
                obtain ⟨_, q94, rfl⟩ := hG.new 94 (by kernel_rfl) (by kernel_rfl)
                refine step_slot rfl rfl rfl (step_value (v := .bool false) (w' := wx) rfl rfl ?_ (Below.refl _ _) (fun d hd => by cases hd; exact rfl))
                go_simp
              · obtain ⟨_, q95, rfl⟩ := hG.new 95 (by kernel_rfl) (by kernel_rfl)
                refine step_slot rfl rfl rfl (step_value (v := .bool false) (w' := wx) rfl rfl ?_ (Below.refl _ _) (fun d hd => by cases hd; exact rfl))
                go_simp
              · obtain ⟨_, q96, rfl⟩ := hG.new 96 (by kernel_rfl) (by kernel_rfl)
                have q19 := hG.old 19 (by kernel_rfl) (by kernel_rfl)
                refine step_slot rfl rfl rfl (step_value (v := .bool true) (w' := wx) rfl (by simp [Region.wanted, yielded, q96, undef]) ?_ (Below.refl _ _) (fun d hd => by cases hd; exact rfl))
                go_simp
              · obtain ⟨_, q96, rfl⟩ := hG.new 96 (by kernel_rfl) (by kernel_rfl)
                obtain ⟨_, q97, rfl⟩ := hG.new 97 (by kernel_rfl) (by kernel_rfl)
                refine step_slot rfl rfl rfl (step_value (v := .bool false) (w' := wx) rfl (by simp [Region.wanted, yielded, q96, undef]) ?_ (Below.refl _ _) (fun d hd => by cases hd; exact rfl))
                go_simp
              · obtain ⟨_, q96, rfl⟩ := hG.new 96 (by kernel_rfl) (by kernel_rfl)
                obtain ⟨_, q98, rfl⟩ := hG.new 98 (by kernel_rfl) (by kernel_rfl)
                refine step_slot rfl rfl rfl (step_value (v := .bool false) (w' := wx) rfl (by simp [Region.wanted, yielded, q96, undef]) ?_ (Below.refl _ _) (fun d hd => by cases hd; exact rfl))
                go_simp
              · obtain ⟨_, q99, rfl⟩ := hG.new 99 (by kernel_rfl) (by kernel_rfl)
                refine step_slot rfl rfl rfl (step_past rfl (by simp [Region.wanted, yielded, q99, undef]) (Below.refl _ _) (fun d hd => by cases hd; exact rfl))
              · obtain ⟨_, q99, rfl⟩ := hG.new 99 (by kernel_rfl) (by kernel_rfl)
                refine step_slot rfl rfl rfl (step_past rfl (by simp [Region.wanted, yielded, q99, undef]) (Below.refl _ _) (fun d hd => by cases hd; exact rfl))
              · obtain ⟨_, q99, rfl⟩ := hG.new 99 (by kernel_rfl) (by kernel_rfl)
                refine step_slot rfl rfl rfl (step_past rfl (by simp [Region.wanted, yielded, q99, undef]) (Below.refl _ _) (fun d hd => by cases hd; exact rfl))
              · obtain ⟨_, q99, rfl⟩ := hG.new 99 (by kernel_rfl) (by kernel_rfl)
                refine step_slot rfl rfl rfl (step_past rfl (by simp [Region.wanted, yielded, q99, undef]) (Below.refl _ _) (fun d hd => by cases hd; exact rfl))
              · obtain ⟨_, q99, rfl⟩ := hG.new 99 (by kernel_rfl) (by kernel_rfl)
                refine step_slot rfl rfl rfl (step_past rfl (by simp [Region.wanted, yielded, q99, undef]) (Below.refl _ _) (fun d hd => by cases hd; exact rfl))
              · obtain ⟨_, q96, rfl⟩ := hG.new 96 (by kernel_rfl) (by kernel_rfl)
                obtain ⟨_, q99, rfl⟩ := hG.new 99 (by kernel_rfl) (by kernel_rfl)
                obtain ⟨_, q104, rfl⟩ := hG.new 104 (by kernel_rfl) (by kernel_rfl)
                refine step_slot rfl rfl rfl (step_value (v := .bool false) (w' := wx) rfl (by simp [Region.wanted, yielded, q96, undef]) ?_ (Below.refl _ _) (fun d hd => by cases hd; exact rfl))
                go_simp
              · obtain ⟨_, q96, rfl⟩ := hG.new 96 (by kernel_rfl) (by kernel_rfl)
                obtain ⟨_, q105, rfl⟩ := hG.new 105 (by kernel_rfl) (by kernel_rfl)
                refine step_slot rfl rfl rfl (step_value (v := .bool false) (w' := wx) rfl rfl ?_ (Below.refl _ _) (fun d hd => by cases hd; exact rfl))
                go_simp
              · obtain ⟨_, q106, rfl⟩ := hG.new 106 (by kernel_rfl) (by kernel_rfl)
                refine step_slot rfl rfl rfl (step_value (v := .bool false) (w' := wx) rfl rfl ?_ (Below.refl _ _) (fun d hd => by cases hd; exact rfl))
                go_simp
              · obtain ⟨_, q107, rfl⟩ := hG.new 107 (by kernel_rfl) (by kernel_rfl)
                have q17 := hG.old 17 (by kernel_rfl) (by kernel_rfl)
                obtain ⟨z0, z1⟩ := (⟨Box.cell (B179.out.on hS) 0 rfl, Box.cell (B179.out.on hS) 1 rfl⟩ : _ ∧ _)
                refine step_slot rfl rfl rfl (step_value (v := .agg #[.int .i64 m, .slice (some ad) n c3]) (w' := wx) rfl (by simp [Region.wanted, yielded, q107, undef]) ?_ (Below.refl _ _) (fun d hd => by cases hd; exact rfl))
                go_simp
              · obtain ⟨_, q107, rfl⟩ := hG.new 107 (by kernel_rfl) (by kernel_rfl)
                obtain ⟨_, q108, rfl⟩ := hG.new 108 (by kernel_rfl) (by kernel_rfl)
                refine step_slot rfl rfl rfl (step_call (w1 := wx) (f := 19) (args := #[.agg #[.int .i64 m, .slice (some ad) n c3]]) rfl (by simp [Region.wanted, yielded, q107, undef]) ?_ ((right_s m wx (VG9.out.on hS) (Nat.le_trans HLK.out.2.2.2.2.2.2.2 (by decide)) HGR.out).mono ?_))
                · skip
                  go_simp
                · rintro e w' ⟨rfl, hq⟩
                  exact ⟨_, rfl, hq, fun d hd => by cases hd; exact rfl⟩
              · obtain ⟨_, q107, rfl⟩ := hG.new 107 (by kernel_rfl) (by kernel_rfl)
                obtain ⟨_, q109, rfl⟩ := hG.new 109 (by kernel_rfl) (by kernel_rfl)
                refine step_slot rfl rfl rfl (step_value (v := .bool false) (w' := wx) rfl (by simp [Region.wanted, yielded, q107, undef]) ?_ (Below.refl _ _) (fun d hd => by cases hd; exact rfl))
                go_simp
              · obtain ⟨_, q107, rfl⟩ := hG.new 107 (by kernel_rfl) (by kernel_rfl)
                obtain ⟨_, q110, rfl⟩ := hG.new 110 (by kernel_rfl) (by kernel_rfl)
                refine step_slot rfl rfl rfl (step_value (v := .bool false) (w' := wx) rfl rfl ?_ (Below.refl _ _) (fun d hd => by cases hd; exact rfl))
                go_simp
            intro fv w10 hb _ hV8
            have e111 : fv 111 = .bool false := hV8 111 (by decide)
            simp only [puts, Act.put, List.setIfInBounds_toArray, List.set_cons_succ, List.set_cons_zero]
            clear hV8
            rw [e111]
            replace hb : Below w9.heap.size w9 w10 := hb
            clear HCX hza HNG hn0
            clear VC9 VX9 VY9 VP9 VG9 B179 B189
            have HB10 := Lib.hid (HB9.out.trans (hb.mono HB9.out.size))
            have BC10 := Lib.hid (BC9.out.on hb)
            have VO10 := Lib.hid (VO9.out.on hb)
            have B910 := Lib.hid (B99.out.on hb)
            have VQ10 := Lib.hid (VQ9.out.on hb)
            have VR10 := Lib.hid (VR9.out.on hb)
            have B1410 := Lib.hid (B149.out.on hb)
            have VF10 := Lib.hid (VF9.out.on hb)
            have VZ10 := Lib.hid (VZ9.out.on hb)
            clear hb HB9 BC9 VO9 B99 VQ9 VR9 B149 VF9 VZ9 
            go_upto_region 9 with fail
            obtain ⟨bs, hbs⟩ : ∃ bs, bs = w10.heap.size := ⟨_, rfl⟩
            have Hbs := Lib.hid hbs
            clear hbs
            refine wp_region_phase 14 [112, 113, 114, 115, 116, 117, 118, 119, 120, 121, 122, 123, 124, 125, 126, 127, 128, 129, 130, 131, 132, 133, 134, 135, 136, 137, 8] (by kernel_rfl) [15, 17] [] (fun _ _ => True) 2 rfl (by kernel_rfl) ((fun _ wx => Below w10.heap.size w10 wx)) (fun wa wb => Below wa.heap.size wa wb) (PartsE m A2 A7 B1 B2 B7 nq c2 c7 no d1 nr d2 nz d7 bs P2 O1 Z) (by kernel_rfl) (fun _ => below_grow) (fun _ t v wa wb h1 h2 => h2.on h1) (fun _ _ _ _ _ _ _ => trivial) (Below.refl _ _).drew trivial (phase2 ?_ ?_ ?_) ?_
            · refine Steps1.cons (fun _ ax wx hS _ hG => ?_) (Steps1.cons (fun _ ax wx hS _ hG => ?_) (Steps1.cons (fun _ ax wx hS _ hG => ?_) (Steps1.cons (fun _ ax wx hS _ hG => ?_) (Steps1.cons (fun _ ax wx hS _ hG => ?_) (Steps1.cons (fun _ ax wx hS _ hG => ?_) (Steps1.cons (fun _ ax wx hS _ hG => ?_) (Steps1.cons (fun _ ax wx hS _ hG => ?_) (Steps1.cons (fun _ ax wx hS _ hG => ?_) (Steps1.cons (fun _ ax wx hS _ hG => ?_) (Steps1.cons (fun _ ax wx hS _ hG => ?_) (Steps1.cons (fun _ ax wx hS _ hG => ?_) (Steps1.cons (fun _ ax wx hS _ hG => ?_) (Steps1.cons (fun _ ax wx hS _ hG => ?_) (Steps1.cons (fun _ ax wx hS _ hG => ?_) (Steps1.cons (fun _ ax wx hS _ hG => ?_) (Steps1.cons (fun _ ax wx hS _ hG => ?_) (Steps1.cons (fun hin _ _ _ _ _ => out (by kernel_rfl) hin) (Steps1.cons (fun hin _ _ _ _ _ => out (by kernel_rfl) hin) (Steps1.cons (fun _ ax wx hS _ hG => ?_) (Steps1.cons (fun _ ax wx hS _ hG => ?_) (Steps1.cons (fun hin _ _ _ _ _ => out (by kernel_rfl) hin) (Steps1.cons (fun hin _ _ _ _ _ => out (by kernel_rfl) hin) (Steps1.cons (fun hin _ _ _ _ _ => out (by kernel_rfl) hin) (Steps1.cons (fun hin _ _ _ _ _ => out (by kernel_rfl) hin) (Steps1.cons (fun hin _ _ _ _ _ => out (by kernel_rfl) hin) (Steps1.cons (fun hin _ _ _ _ _ => out (by kernel_rfl) hin) Steps1.nil))))))))))))))))))))))))))
              · have q13 := hG.old 13 (by kernel_rfl) (by kernel_rfl)
                refine step_slot rfl rfl rfl (step_value (v := .int .i64 0) (w' := wx) rfl rfl ?_ (Below.refl _ _) (fun d hd => by cases hd; exact rfl))
                go_simp
              · obtain ⟨_, q112, rfl⟩ := hG.new 112 (by kernel_rfl) (by kernel_rfl)
                refine step_slot rfl rfl rfl (step_value (v := .bool true) (w' := wx) rfl rfl ?_ (Below.refl _ _) (fun d hd => by cases hd; exact rfl))
                go_simp
              · obtain ⟨_, q113, rfl⟩ := hG.new 113 (by kernel_rfl) (by kernel_rfl)
                refine step_slot rfl rfl rfl (step_value (v := .bool true) (w' := wx) rfl rfl ?_ (Below.refl _ _) (fun d hd => by cases hd; exact rfl))
                go_simp
              · obtain ⟨_, q114, rfl⟩ := hG.new 114 (by kernel_rfl) (by kernel_rfl)
                have q16 := hG.old 16 (by kernel_rfl) (by kernel_rfl)
                refine step_slot rfl rfl rfl (step_value (v := .int .i64 0) (w' := wx) rfl (by simp [Region.wanted, yielded, q114, undef]) ?_ (Below.refl _ _) (fun d hd => by cases hd; exact rfl))
                go_simp
              · obtain ⟨_, q114, rfl⟩ := hG.new 114 (by kernel_rfl) (by kernel_rfl)
                obtain ⟨_, q115, rfl⟩ := hG.new 115 (by kernel_rfl) (by kernel_rfl)
                refine step_slot rfl rfl rfl (step_value (v := .bool true) (w' := wx) rfl (by simp [Region.wanted, yielded, q114, undef]) ?_ (Below.refl _ _) (fun d hd => by cases hd; exact rfl))
                go_simp
              · obtain ⟨_, q114, rfl⟩ := hG.new 114 (by kernel_rfl) (by kernel_rfl)
                obtain ⟨_, q116, rfl⟩ := hG.new 116 (by kernel_rfl) (by kernel_rfl)
                refine step_slot rfl rfl rfl (step_value (v := .bool true) (w' := wx) rfl rfl ?_ (Below.refl _ _) (fun d hd => by cases hd; exact rfl))
                go_simp
              · obtain ⟨_, q117, rfl⟩ := hG.new 117 (by kernel_rfl) (by kernel_rfl)
                refine step_slot rfl rfl rfl (step_value (v := .bool true) (w' := wx) rfl rfl ?_ (Below.refl _ _) (fun d hd => by cases hd; exact rfl))
                go_simp
              · obtain ⟨_, q118, rfl⟩ := hG.new 118 (by kernel_rfl) (by kernel_rfl)
                have q9 := hG.old 9 (by kernel_rfl) (by kernel_rfl)
                obtain ⟨z0, z1⟩ := (⟨Box.cell (B910.out.on hS) 0 rfl, Box.cell (B910.out.on hS) 1 rfl⟩ : _ ∧ _)
                refine step_slot rfl rfl rfl (step_value (v := .agg #[.int .i64 m, .slice A2 nq c2]) (w' := wx) rfl (by simp [Region.wanted, yielded, q118, undef]) ?_ (Below.refl _ _) (fun d hd => by cases hd; exact rfl))
                go_simp
              · obtain ⟨_, q118, rfl⟩ := hG.new 118 (by kernel_rfl) (by kernel_rfl)
                have q14 := hG.old 14 (by kernel_rfl) (by kernel_rfl)
                obtain ⟨z0, z1⟩ := (⟨Box.cell (B1410.out.on hS) 0 rfl, Box.cell (B1410.out.on hS) 1 rfl⟩ : _ ∧ _)
                refine step_slot rfl rfl rfl (step_value (v := .agg #[.int .i64 m, .slice A7 nq c7]) (w' := wx) rfl (by simp [Region.wanted, yielded, q118, undef]) ?_ (Below.refl _ _) (fun d hd => by cases hd; exact rfl))
                go_simp
              · obtain ⟨_, q118, rfl⟩ := hG.new 118 (by kernel_rfl) (by kernel_rfl)
                obtain ⟨_, q120, rfl⟩ := hG.new 120 (by kernel_rfl) (by kernel_rfl)
                refine step_slot rfl rfl rfl (step_call (w1 := wx) (f := 12) (args := #[.agg #[.int .i64 m, .slice A7 nq c7]]) rfl (by simp [Region.wanted, yielded, q118, undef]) ?_ ((ref_any m wx (VF10.out.on hS) (Nat.le_trans HPL.out.2 (by decide))).mono ?_))
                · skip
                  go_simp
                · rintro e w' ⟨s', rfl, hv, hq⟩
                  exact ⟨_, rfl, hq, fun d hd => by cases hd; exact fun _ => ⟨_, rfl, hv⟩⟩
              · obtain ⟨_, q118, rfl⟩ := hG.new 118 (by kernel_rfl) (by kernel_rfl)
                obtain ⟨_, q119, rfl⟩ := hG.new 119 (by kernel_rfl) (by kernel_rfl)
                obtain ⟨v121, q121, h121⟩ := hG.new 121 (by kernel_rfl) (by kernel_rfl)
                have p121 : 0 = 0 → ∃ s', v121 = .agg #[.int .i64 m, s'] ∧ IV wx s' P2 := h121
                obtain ⟨s7, rfl, p121b⟩ := p121 rfl
                refine step_slot rfl rfl rfl (step_call (w1 := wx) (f := 18) (args := #[.agg #[.int .i64 m, .slice A2 nq c2], .agg #[.int .i64 m, s7]]) rfl (by simp [Region.wanted, yielded, q118, undef]) ?_ ((same_yes m wx (VQ10.out.on hS) p121b (Nat.le_trans HPL.out.2 (by decide))).mono ?_))
                · clear h121 p121
                  go_simp
                · rintro e w' ⟨rfl, hq⟩
                  exact ⟨_, rfl, hq, fun d hd => by cases hd; exact rfl⟩
              · obtain ⟨_, q118, rfl⟩ := hG.new 118 (by kernel_rfl) (by kernel_rfl)
                obtain ⟨_, q122, rfl⟩ := hG.new 122 (by kernel_rfl) (by kernel_rfl)
                refine step_slot rfl rfl rfl (step_value (v := .bool true) (w' := wx) rfl rfl ?_ (Below.refl _ _) (fun d hd => by cases hd; exact rfl))
                go_simp
              · obtain ⟨_, q123, rfl⟩ := hG.new 123 (by kernel_rfl) (by kernel_rfl)
                refine step_slot rfl rfl rfl (step_value (v := .bool true) (w' := wx) rfl rfl ?_ (Below.refl _ _) (fun d hd => by cases hd; exact rfl))
                go_simp
              · obtain ⟨_, q124, rfl⟩ := hG.new 124 (by kernel_rfl) (by kernel_rfl)
                refine step_slot rfl rfl rfl (step_value (v := .slice (some ⟨wx.heap.size, 0, none⟩) 0 0) (w' := wx.alloc (.cells #[] 27)) rfl (by simp [Region.wanted, yielded, q124, undef]) ?_ ((Below.refl _ _).alloc (Nat.le_refl _) _) (fun d hd => by cases hd; exact fun _ => World.ownsRow_made wx #[] 0 (by rw [Hbs.out]; exact hS.size) (Nat.zero_le _) rfl))
                go_simp
              · obtain ⟨_, q124, rfl⟩ := hG.new 124 (by kernel_rfl) (by kernel_rfl)
                have q10 := hG.old 10 (by kernel_rfl) (by kernel_rfl)
                refine step_slot rfl rfl rfl (step_value (v := .slice B1 no d1) (w' := wx) rfl (by simp [Region.wanted, yielded, q124, undef]) ?_ (Below.refl _ _) (fun d hd => by cases hd; exact rfl))
                go_simp
              · obtain ⟨_, q124, rfl⟩ := hG.new 124 (by kernel_rfl) (by kernel_rfl)
                obtain ⟨v125, q125, h125⟩ := hG.new 125 (by kernel_rfl) (by kernel_rfl)
                have p125 : 0 = 0 → World.ownsRow wx bs 27 3 v125 0 [] := h125
                obtain ⟨_, q126, rfl⟩ := hG.new 126 (by kernel_rfl) (by kernel_rfl)
                have hown := p125 rfl
                obtain ⟨v2, w2, hr, hown2, hg, _⟩ := run_app_iv item_info Try.underlying22 wx bs v125 0 [] hown (VO10.out.on hS) (by rw [HNO.out]; have := HNN.out; omega) (by rw [Hbs.out]; exact hS.size)
                have hS2 : Below _ _ w2 := hS.grown hg hS.size (fun k hk => by have h1 := (own_lt hown hk).1; rw [Hbs.out] at h1; exact h1)
                refine step_marked (v := v2) (w' := w2) rfl rfl rfl (by simp [Region.wanted, yielded, q124, undef]) ?_ hS2 trivial ?_ ?_
                · have e1 : ax.eval (.tmp 125) = v125 := by simp [Act.eval, q125]
                  have e2 : ax.eval (.tmp 126) = .slice B1 no d1 := by simp [Act.eval, q126]
                  unfold execOp
                  simp only [resolve, invoke, builtin, Sem.run_bind, Sem.run_pure, Result.andThen_ok, List.map_toArray, List.map_cons, List.map_nil, e1, e2, hr]
                · exact fun _ => (by have h := hown2; rw [Nat.zero_add, List.nil_append, HNO.out] at h; exact h)
                · intro t u _ ht hu hV
                  unfold PartsE at hV ⊢
                  split at hV <;> first | exact absurd rfl ht | trivial | exact fun h => absurd h (by decide) | exact hV | exact absurd hV.1 (by decide) | exact own_grown hV hg (own_unlike hown hV (by decide))
              · obtain ⟨_, q124, rfl⟩ := hG.new 124 (by kernel_rfl) (by kernel_rfl)
                have q12 := hG.old 12 (by kernel_rfl) (by kernel_rfl)
                refine step_slot rfl rfl rfl (step_value (v := .slice B2 nr d2) (w' := wx) rfl (by simp [Region.wanted, yielded, q124, undef]) ?_ (Below.refl _ _) (fun d hd => by cases hd; exact rfl))
                go_simp
              · obtain ⟨_, q124, rfl⟩ := hG.new 124 (by kernel_rfl) (by kernel_rfl)
                have q15 := hG.old 15 (by kernel_rfl) (by kernel_rfl)
                refine step_slot rfl rfl rfl (step_value (v := .slice B7 nz d7) (w' := wx) rfl (by simp [Region.wanted, yielded, q124, undef]) ?_ (Below.refl _ _) (fun d hd => by cases hd; exact rfl))
                go_simp
              · obtain ⟨_, q124, rfl⟩ := hG.new 124 (by kernel_rfl) (by kernel_rfl)
                obtain ⟨_, q131, rfl⟩ := hG.new 131 (by kernel_rfl) (by kernel_rfl)
                refine step_slot rfl rfl rfl (step_call (w1 := wx) (f := 15) (args := #[.slice B7 nz d7]) rfl (by simp [Region.wanted, yielded, q124, undef]) ?_ ((refs_o (VZ10.out.on hS) HNZ.out (Nat.le_trans HNN.out.2 (by decide))).mono ?_))
                · skip
                  go_simp
                · rintro e w' ⟨s', rfl, hv, hq⟩
                  exact ⟨_, rfl, hq, fun d hd => by cases hd; exact own_more hv (by rw [Hbs.out]; exact hS.size)⟩
            · refine Steps1.cons (fun hin _ _ _ _ _ => out (by kernel_rfl) hin) (Steps1.cons (fun hin _ _ _ _ _ => out (by kernel_rfl) hin) (Steps1.cons (fun hin _ _ _ _ _ => out (by kernel_rfl) hin) (Steps1.cons (fun hin _ _ _ _ _ => out (by kernel_rfl) hin) (Steps1.cons (fun hin _ _ _ _ _ => out (by kernel_rfl) hin) (Steps1.cons (fun hin _ _ _ _ _ => out (by kernel_rfl) hin) (Steps1.cons (fun hin _ _ _ _ _ => out (by kernel_rfl) hin) (Steps1.cons (fun hin _ _ _ _ _ => out (by kernel_rfl) hin) (Steps1.cons (fun hin _ _ _ _ _ => out (by kernel_rfl) hin) (Steps1.cons (fun hin _ _ _ _ _ => out (by kernel_rfl) hin) (Steps1.cons (fun hin _ _ _ _ _ => out (by kernel_rfl) hin) (Steps1.cons (fun hin _ _ _ _ _ => out (by kernel_rfl) hin) (Steps1.cons (fun hin _ _ _ _ _ => out (by kernel_rfl) hin) (Steps1.cons (fun hin _ _ _ _ _ => out (by kernel_rfl) hin) (Steps1.cons (fun hin _ _ _ _ _ => out (by kernel_rfl) hin) (Steps1.cons (fun hin _ _ _ _ _ => out (by kernel_rfl) hin) (Steps1.cons (fun _ ax wx hS _ hG => ?_) (Steps1.cons (fun _ ax wx hS _ hG => ?_) (Steps1.cons (fun hin _ _ _ _ _ => out (by kernel_rfl) hin) (Steps1.cons (fun _ ax wx hS _ hG => ?_) (Steps1.cons (fun _ ax wx hS _ hG => ?_) (Steps1.cons (fun hin _ _ _ _ _ => out (by kernel_rfl) hin) (Steps1.cons (fun hin _ _ _ _ _ => out (by kernel_rfl) hin) (Steps1.cons (fun hin _ _ _ _ _ => out (by kernel_rfl) hin) (Steps1.cons (fun hin _ _ _ _ _ => out (by kernel_rfl) hin) (Steps1.cons (fun hin _ _ _ _ _ => out (by kernel_rfl) hin) (Steps1.cons (fun hin _ _ _ _ _ => out (by kernel_rfl) hin) Steps1.nil))))))))))))))))))))))))))
              · obtain ⟨_, q124, rfl⟩ := hG.new 124 (by kernel_rfl) (by kernel_rfl)
                have q12 := hG.old 12 (by kernel_rfl) (by kernel_rfl)
                refine step_slot rfl rfl rfl (step_value (v := .slice B2 nr d2) (w' := wx) rfl (by simp [Region.wanted, yielded, q124, undef]) ?_ (Below.refl _ _) (fun d hd => by cases hd; exact rfl))
                go_simp
              · obtain ⟨_, q124, rfl⟩ := hG.new 124 (by kernel_rfl) (by kernel_rfl)
                obtain ⟨v127, q127, h127⟩ := hG.new 127 (by kernel_rfl) (by kernel_rfl)
                have p127 : 1 = 1 → World.ownsRow wx bs 27 3 v127 no (O1.flatMap It.cells) := h127
                obtain ⟨_, q128, rfl⟩ := hG.new 128 (by kernel_rfl) (by kernel_rfl)
                have hown := p127 rfl
                obtain ⟨v2, w2, hr, hown2, hg, _⟩ := run_app_iv item_info Try.underlying22 wx bs v127 no _ hown (VR10.out.on hS) (by rw [HNR.out]; have := HNN.out; omega) (by rw [Hbs.out]; exact hS.size)
                have hS2 : Below _ _ w2 := hS.grown hg hS.size (fun k hk => by have h1 := (own_lt hown hk).1; rw [Hbs.out] at h1; exact h1)
                refine step_marked (v := v2) (w' := w2) rfl rfl rfl (by simp [Region.wanted, yielded, q124, undef]) ?_ hS2 trivial ?_ ?_
                · have e1 : ax.eval (.tmp 127) = v127 := by simp [Act.eval, q127]
                  have e2 : ax.eval (.tmp 128) = .slice B2 nr d2 := by simp [Act.eval, q128]
                  unfold execOp
                  simp only [resolve, invoke, builtin, Sem.run_bind, Sem.run_pure, Result.andThen_ok, List.map_toArray, List.map_cons, List.map_nil, e1, e2, hr]
                · exact fun _ => IV.own (n := no + O2.length) (by rw [HZZ.out, List.flatMap_append]; exact hown2) (by rw [HZZ.out, List.length_append, HNO.out])
                · intro t u _ ht hu hV
                  unfold PartsE at hV ⊢
                  split at hV <;> first | exact absurd rfl ht | trivial | exact fun h => absurd h (by decide) | exact hV | exact absurd hV.1 (by decide) | exact own_grown hV hg (own_unlike hown hV (by decide))
              · obtain ⟨_, q124, rfl⟩ := hG.new 124 (by kernel_rfl) (by kernel_rfl)
                have q15 := hG.old 15 (by kernel_rfl) (by kernel_rfl)
                refine step_slot rfl rfl rfl (step_value (v := .slice B7 nz d7) (w' := wx) rfl (by simp [Region.wanted, yielded, q124, undef]) ?_ (Below.refl _ _) (fun d hd => by cases hd; exact rfl))
                go_simp
              · obtain ⟨_, q124, rfl⟩ := hG.new 124 (by kernel_rfl) (by kernel_rfl)
                obtain ⟨_, q131, rfl⟩ := hG.new 131 (by kernel_rfl) (by kernel_rfl)
                refine step_slot rfl rfl rfl (step_call (w1 := wx) (f := 15) (args := #[.slice B7 nz d7]) rfl (by simp [Region.wanted, yielded, q124, undef]) ?_ ((refs_o (VZ10.out.on hS) HNZ.out (Nat.le_trans HNN.out.2 (by decide))).mono ?_))
                · skip
                  go_simp
                · rintro e w' ⟨s', rfl, hv, hq⟩
                  exact ⟨_, rfl, hq, fun d hd => by cases hd; exact own_more hv (by rw [Hbs.out]; exact hS.size)⟩
            · refine Steps1.cons (fun hin _ _ _ _ _ => out (by kernel_rfl) hin) (Steps1.cons (fun hin _ _ _ _ _ => out (by kernel_rfl) hin) (Steps1.cons (fun hin _ _ _ _ _ => out (by kernel_rfl) hin) (Steps1.cons (fun hin _ _ _ _ _ => out (by kernel_rfl) hin) (Steps1.cons (fun hin _ _ _ _ _ => out (by kernel_rfl) hin) (Steps1.cons (fun hin _ _ _ _ _ => out (by kernel_rfl) hin) (Steps1.cons (fun hin _ _ _ _ _ => out (by kernel_rfl) hin) (Steps1.cons (fun hin _ _ _ _ _ => out (by kernel_rfl) hin) (Steps1.cons (fun hin _ _ _ _ _ => out (by kernel_rfl) hin) (Steps1.cons (fun hin _ _ _ _ _ => out (by kernel_rfl) hin) (Steps1.cons (fun hin _ _ _ _ _ => out (by kernel_rfl) hin) (Steps1.cons (fun hin _ _ _ _ _ => out (by kernel_rfl) hin) (Steps1.cons (fun hin _ _ _ _ _ => out (by kernel_rfl) hin) (Steps1.cons (fun hin _ _ _ _ _ => out (by kernel_rfl) hin) (Steps1.cons (fun hin _ _ _ _ _ => out (by kernel_rfl) hin) (Steps1.cons (fun hin _ _ _ _ _ => out (by kernel_rfl) hin) (Steps1.cons (fun hin _ _ _ _ _ => out (by kernel_rfl) hin) (Steps1.cons (fun hin _ _ _ _ _ => out (by kernel_rfl) hin) (Steps1.cons (fun _ ax wx hS _ hG => ?_) (Steps1.cons (fun _ ax wx hS _ hG => ?_) (Steps1.cons (fun _ ax wx hS _ hG => ?_) (Steps1.cons (fun _ ax wx hS _ hG => ?_) (Steps1.cons (fun _ ax wx hS _ hG => ?_) (Steps1.cons (fun _ ax wx hS _ hG => ?_) (Steps1.cons (fun _ ax wx hS _ hG => ?_) (Steps1.cons (fun _ ax wx hS _ hG => ?_) (Steps1.cons (fun _ ax wx hS _ hG => ?_) Steps1.nil))))))))))))))))))))))))))
              · obtain ⟨_, q124, rfl⟩ := hG.new 124 (by kernel_rfl) (by kernel_rfl)
                obtain ⟨v129, q129, h129⟩ := hG.new 129 (by kernel_rfl) (by kernel_rfl)
                have p129 : 2 = 2 → IV wx v129 Z := h129
                refine step_slot rfl rfl rfl (step_call (w1 := wx) (f := 15) (args := #[v129]) rfl (by simp [Region.wanted, yielded, q124, undef]) ?_ ((refs_v (p129 rfl) (by rw [HNZ.out]; exact Nat.le_trans HNN.out.2 (by decide))).mono ?_))
                · clear h129 p129
                  go_simp
                · rintro e w' ⟨s', rfl, hv, hq⟩
                  exact ⟨_, rfl, hq, fun d hd => by cases hd; exact ⟨rfl, hv⟩⟩
              · obtain ⟨_, q124, rfl⟩ := hG.new 124 (by kernel_rfl) (by kernel_rfl)
                have q15 := hG.old 15 (by kernel_rfl) (by kernel_rfl)
                refine step_slot rfl rfl rfl (step_value (v := .slice B7 nz d7) (w' := wx) rfl (by simp [Region.wanted, yielded, q124, undef]) ?_ (Below.refl _ _) (fun d hd => by cases hd; exact rfl))
                go_simp
              · obtain ⟨_, q124, rfl⟩ := hG.new 124 (by kernel_rfl) (by kernel_rfl)
                obtain ⟨_, q131, rfl⟩ := hG.new 131 (by kernel_rfl) (by kernel_rfl)
                refine step_slot rfl rfl rfl (step_call (w1 := wx) (f := 15) (args := #[.slice B7 nz d7]) rfl (by simp [Region.wanted, yielded, q124, undef]) ?_ ((refs_o (VZ10.out.on hS) HNZ.out (Nat.le_trans HNN.out.2 (by decide))).mono ?_))
                · skip
                  go_simp
                · rintro e w' ⟨s', rfl, hv, hq⟩
                  exact ⟨_, rfl, hq, fun d hd => by cases hd; exact own_more hv (by rw [Hbs.out]; exact hS.size)⟩
              · obtain ⟨_, q124, rfl⟩ := hG.new 124 (by kernel_rfl) (by kernel_rfl)
                obtain ⟨v130, q130, h130⟩ := hG.new 130 (by kernel_rfl) (by kernel_rfl)
                have p130 : 2 = 2 ∧ IV wx v130 Z := h130
                obtain ⟨v132, q132, h132⟩ := hG.new 132 (by kernel_rfl) (by kernel_rfl)
                have p132 : World.ownsRow wx bs 33 3 v132 nz (Z.flatMap It.cells) := h132
                refine step_slot rfl rfl rfl (step_call (w1 := wx) (f := 22) (args := #[v130, v132]) rfl (by simp [Region.wanted, yielded, q124, undef]) ?_ ((rsame_yes p130.2 (IV.own p132 HNZ.out.symm) (by rw [HNZ.out]; exact Nat.le_trans HNN.out.2 (by decide))).mono ?_))
                · clear h130 p130 h132 p132
                  go_simp
                · rintro e w' ⟨rfl, hq⟩
                  exact ⟨_, rfl, hq, fun d hd => by cases hd; exact rfl⟩
              · obtain ⟨_, q124, rfl⟩ := hG.new 124 (by kernel_rfl) (by kernel_rfl)
                obtain ⟨_, q133, rfl⟩ := hG.new 133 (by kernel_rfl) (by kernel_rfl)
                refine step_slot rfl rfl rfl (step_value (v := .bool true) (w' := wx) rfl rfl ?_ (Below.refl _ _) (fun d hd => by cases hd; exact rfl))
                go_simp
              · obtain ⟨_, q134, rfl⟩ := hG.new 134 (by kernel_rfl) (by kernel_rfl)
                refine step_slot rfl rfl rfl (step_value (v := .bool true) (w' := wx) rfl rfl ?_ (Below.refl _ _) (fun d hd => by cases hd; exact rfl))
                go_simp
              · obtain ⟨_, q135, rfl⟩ := hG.new 135 (by kernel_rfl) (by kernel_rfl)
                refine step_slot rfl rfl rfl (step_call (w1 := wx) (f := 9) (args := #[]) rfl (by simp [Region.wanted, yielded, q135, undef]) ?_ ((awake_true wx).mono ?_))
                · skip
                  go_simp
                · rintro e w' ⟨rfl, hq⟩
                  exact ⟨_, rfl, hq, fun d hd => by cases hd; exact rfl⟩
              · obtain ⟨_, q135, rfl⟩ := hG.new 135 (by kernel_rfl) (by kernel_rfl)
                obtain ⟨_, q136, rfl⟩ := hG.new 136 (by kernel_rfl) (by kernel_rfl)
                refine step_slot rfl rfl rfl (step_value (v := .bool true) (w' := wx) rfl rfl ?_ (Below.refl _ _) (fun d hd => by cases hd; exact rfl))
                go_simp
              · obtain ⟨_, q137, rfl⟩ := hG.new 137 (by kernel_rfl) (by kernel_rfl)
                refine step_slot rfl rfl rfl (step_value (v := .bool true) (w' := wx) rfl rfl ?_ (Below.refl _ _) (fun d hd => by cases hd; exact rfl))
                go_simp
            intro fv w11 hb _ hV8
            have e8 : fv 8 = .bool true := hV8 8 (by decide)
            simp only [puts, Act.put, List.setIfInBounds_toArray, List.set_cons_succ, List.set_cons_zero]
            clear hV8
            rw [e8]
            have HBB := Lib.hid (HB10.out.trans ((show Below w10.heap.size w10 w11 from hb).mono HB10.out.size))
            clear hb
            go_wp2
            go_ret
            exact ⟨rfl, HBB.out⟩
          | false =>
            have VGF := Lib.hid (show IV w9 (.slice A3 n c3) l from by have h := VG9.out; rw [HGF.out.2 rfl] at h; exact h)
            refine wp_region_phase 14 [72, 73, 74, 75, 76, 77, 78, 79, 80, 81, 82, 83, 84, 85, 86, 87, 88, 89, 90, 91, 92, 93, 94, 95, 96, 97, 98, 99, 100, 101, 102, 103, 104, 105, 106, 107, 108, 109, 110, 111] (by kernel_rfl) [] [] (fun _ _ => True) 0 rfl (by kernel_rfl) ((fun _ wx => Below w9.heap.size w9 wx)) (fun wa wb => Below wa.heap.size wa wb) (PartsF m A A3 n c c3 g g17 g18 za a zt zd l) (by kernel_rfl) (fun _ => below_grow) (fun _ t v wa wb h1 h2 => h2.on h1) (fun _ _ _ _ _ _ _ => trivial) (Below.refl _ _).drew trivial (phase0 ?_) ?_
            · refine Steps1.cons (fun _ ax wx hS _ hG => ?_) (Steps1.cons (fun _ ax wx hS _ hG => ?_) (Steps1.cons (fun _ ax wx hS _ hG => ?_) (Steps1.cons (fun _ ax wx hS _ hG => ?_) (Steps1.cons (fun _ ax wx hS _ hG => ?_) (Steps1.cons (fun _ ax wx hS _ hG => ?_) (Steps1.cons (fun _ ax wx hS _ hG => ?_) (Steps1.cons (fun _ ax wx hS _ hG => ?_) (Steps1.cons (fun _ ax wx hS _ hG => ?_) (Steps1.cons (fun _ ax wx hS _ hG => ?_) (Steps1.cons (fun _ ax wx hS _ hG => ?_) (Steps1.cons (fun _ ax wx hS _ hG => ?_) (Steps1.cons (fun _ ax wx hS _ hG => ?_) (Steps1.cons (fun _ ax wx hS _ hG => ?_) (Steps1.cons (fun _ ax wx hS _ hG => ?_) (Steps1.cons (fun _ ax wx hS _ hG => ?_) (Steps1.cons (fun _ ax wx hS _ hG => ?_) (Steps1.cons (fun _ ax wx hS _ hG => ?_) (Steps1.cons (fun _ ax wx hS _ hG => ?_) (Steps1.cons (fun _ ax wx hS _ hG => ?_) (Steps1.cons (fun _ ax wx hS _ hG => ?_) (Steps1.cons (fun _ ax wx hS _ hG => ?_) (Steps1.cons (fun _ ax wx hS _ hG => ?_) (Steps1.cons (fun _ ax wx hS _ hG => ?_) (Steps1.cons (fun _ ax wx hS _ hG => ?_) (Steps1.cons (fun _ ax wx hS _ hG => ?_) (Steps1.cons (fun _ ax wx hS _ hG => ?_) (Steps1.cons (fun _ ax wx hS _ hG => ?_) (Steps1.cons (fun _ ax wx hS _ hG => ?_) (Steps1.cons (fun _ ax wx hS _ hG => ?_) (Steps1.cons (fun _ ax wx hS _ hG => ?_) (Steps1.cons (fun _ ax wx hS _ hG => ?_) (Steps1.cons (fun _ ax wx hS _ hG => ?_) (Steps1.cons (fun _ ax wx hS _ hG => ?_) (Steps1.cons (fun _ ax wx hS _ hG => ?_) (Steps1.cons (fun _ ax wx hS _ hG => ?_) (Steps1.cons (fun _ ax wx hS _ hG => ?_) (Steps1.cons (fun _ ax wx hS _ hG => ?_) (Steps1.cons (fun _ ax wx hS _ hG => ?_) (Steps1.cons (fun _ ax wx hS _ hG => ?_) Steps1.nil)))))))))))))))))))))))))))))))))))))))
              · have q19 := hG.old 19 (by kernel_rfl) (by kernel_rfl)
                refine step_slot rfl rfl rfl (step_value (v := .bool false) (w' := wx) rfl rfl ?_ (Below.refl _ _) (fun d hd => by cases hd; exact rfl))
                go_simp
              · obtain ⟨_, q72, rfl⟩ := hG.new 72 (by kernel_rfl) (by kernel_rfl)
                refine step_slot rfl rfl rfl (step_value (v := .bool false) (w' := wx) rfl rfl ?_ (Below.refl _ _) (fun d hd => by cases hd; exact rfl))
                go_simp
              · obtain ⟨_, q73, rfl⟩ := hG.new 73 (by kernel_rfl) (by kernel_rfl)
                refine step_slot rfl rfl rfl (step_past rfl (by simp [Region.wanted, yielded, q73, undef]) (Below.refl _ _) (fun d hd => by cases hd; exact rfl))
              · obtain ⟨_, q73, rfl⟩ := hG.new 73 (by kernel_rfl) (by kernel_rfl)
                refine step_slot rfl rfl rfl (step_past rfl (by simp [Region.wanted, yielded, q73, undef]) (Below.refl _ _) (fun d hd => by cases hd; exact rfl))
              · obtain ⟨_, q73, rfl⟩ := hG.new 73 (by kernel_rfl) (by kernel_rfl)
                refine step_slot rfl rfl rfl (step_past rfl (by simp [Region.wanted, yielded, q73, undef]) (Below.refl _ _) (fun d hd => by cases hd; exact rfl))
              · obtain ⟨_, q73, rfl⟩ := hG.new 73 (by kernel_rfl) (by kernel_rfl)
                refine step_slot rfl rfl rfl (step_past rfl (by simp [Region.wanted, yielded, q73, undef]) (Below.refl _ _) (fun d hd => by cases hd; exact rfl))
              · obtain ⟨_, q73, rfl⟩ := hG.new 73 (by kernel_rfl) (by kernel_rfl)
                refine step_slot rfl rfl rfl (step_past rfl (by simp [Region.wanted, yielded, q73, undef]) (Below.refl _ _) (fun d hd => by cases hd; exact rfl))
              · obtain ⟨_, q73, rfl⟩ := hG.new 73 (by kernel_rfl) (by kernel_rfl)
                refine step_slot rfl rfl rfl (step_past rfl (by simp [Region.wanted, yielded, q73, undef]) (Below.refl _ _) (fun d hd => by cases hd; exact rfl))
              · obtain ⟨_, q73, rfl⟩ := hG.new 73 (by kernel_rfl) (by kernel_rfl)
                refine step_slot rfl rfl rfl (step_past rfl (by simp [Region.wanted, yielded, q73, undef]) (Below.refl _ _) (fun d hd => by cases hd; exact rfl))
              · obtain ⟨_, q73, rfl⟩ := hG.new 73 (by kernel_rfl) (by kernel_rfl)
                refine step_slot rfl rfl rfl (step_past rfl (by simp [Region.wanted, yielded, q73, undef]) (Below.refl _ _) (fun d hd => by cases hd; exact rfl))
              · obtain ⟨_, q81, rfl⟩ := hG.new 81 (by kernel_rfl) (by kernel_rfl)
                refine step_slot rfl rfl rfl (step_past rfl (by simp [Region.wanted, yielded, q81, undef]) (Below.refl _ _) (fun d hd => by cases hd; exact rfl))
              · obtain ⟨_, q81, rfl⟩ := hG.new 81 (by kernel_rfl) (by kernel_rfl)
                refine step_slot rfl rfl rfl (step_past rfl (by simp [Region.wanted, yielded, q81, undef]) (Below.refl _ _) (fun d hd => by cases hd; exact rfl))
              · obtain ⟨_, q81, rfl⟩ := hG.new 81 (by kernel_rfl) (by kernel_rfl)
                refine step_slot rfl rfl rfl (step_past rfl (by simp [Region.wanted, yielded, q81, undef]) (Below.refl _ _) (fun d hd => by cases hd; exact rfl))
              · obtain ⟨_, q81, rfl⟩ := hG.new 81 (by kernel_rfl) (by kernel_rfl)
                refine step_slot rfl rfl rfl (step_past rfl (by simp [Region.wanted, yielded, q81, undef]) (Below.refl _ _) (fun d hd => by cases hd; exact rfl))
              · obtain ⟨_, q81, rfl⟩ := hG.new 81 (by kernel_rfl) (by kernel_rfl)
                refine step_slot rfl rfl rfl (step_past rfl (by simp [Region.wanted, yielded, q81, undef]) (Below.refl _ _) (fun d hd => by cases hd; exact rfl))
              · obtain ⟨_, q81, rfl⟩ := hG.new 81 (by kernel_rfl) (by kernel_rfl)
                refine step_slot rfl rfl rfl (step_past rfl (by simp [Region.wanted, yielded, q81, undef]) (Below.refl _ _) (fun d hd => by cases hd; exact rfl))
              · obtain ⟨_, q73, rfl⟩ := hG.new 73 (by kernel_rfl) (by kernel_rfl)
                refine step_slot rfl rfl rfl (step_past rfl (by simp [Region.wanted, yielded, q73, undef]) (Below.refl _ _) (fun d hd => by cases hd; exact rfl))
              · obtain ⟨_, q73, rfl⟩ := hG.new 73 (by kernel_rfl) (by kernel_rfl)
                refine step_slot rfl rfl rfl (step_past rfl (by simp [Region.wanted, yielded, q73, undef]) (Below.refl _ _) (fun d hd => by cases hd; exact rfl))
              · obtain ⟨_, q89, rfl⟩ := hG.new 89 (by kernel_rfl) (by kernel_rfl)
                refine step_slot rfl rfl rfl (step_past rfl (by simp [Region.wanted, yielded, q89, undef]) (Below.refl _ _) (fun d hd => by cases hd; exact rfl))
              · obtain ⟨_, q89, rfl⟩ := hG.new 89 (by kernel_rfl) (by kernel_rfl)
                refine step_slot rfl rfl rfl (step_past rfl (by simp [Region.wanted, yielded, q89, undef]) (Below.refl _ _) (fun d hd => by cases hd; exact rfl))
              · obtain ⟨_, q89, rfl⟩ := hG.new 89 (by kernel_rfl) (by kernel_rfl)
                refine step_slot rfl rfl rfl (step_past rfl (by simp [Region.wanted, yielded, q89, undef]) (Below.refl _ _) (fun d hd => by cases hd; exact rfl))
              · obtain ⟨_, q89, rfl⟩ := hG.new 89 (by kernel_rfl) (by kernel_rfl)
                refine step_slot rfl rfl rfl (step_past rfl (by simp [Region.wanted, yielded, q89, undef]) (Below.refl _ _) (fun d hd => by cases hd; exact rfl))
              · obtain ⟨_, q73, rfl⟩ := hG.new 73 (by kernel_rfl) (by kernel_rfl)
                refine step_slot rfl rfl rfl (step_past rfl (by simp [Region.wanted, yielded, q73, undef]) (Below.refl _ _) (fun d hd => by cases hd; exact rfl))
              · obtain ⟨_, q73, rfl⟩ := hG.new 73 (by kernel_rfl) (by kernel_rfl)
                obtain ⟨_, q94, rfl⟩ := hG.new 94 (by kernel_rfl) (by kernel_rfl)
                refine step_slot rfl rfl rfl (step_value (v := .bool false) (w' := wx) rfl rfl ?_ (Below.refl _ _) (fun d hd => by cases hd; exact rfl))
                go_simp
              · obtain ⟨_, q95, rfl⟩ := hG.new 95 (by kernel_rfl) (by kernel_rfl)
                refine step_slot rfl rfl rfl (step_value (v := .bool false) (w' := wx) rfl rfl ?_ (Below.refl _ _) (fun d hd => by cases hd; exact rfl))
                go_simp
              · obtain ⟨_, q96, rfl⟩ := hG.new 96 (by kernel_rfl) (by kernel_rfl)
                have q19 := hG.old 19 (by kernel_rfl) (by kernel_rfl)
                refine step_slot rfl rfl rfl (step_value (v := .bool false) (w' := wx) rfl (by simp [Region.wanted, yielded, q96, undef]) ?_ (Below.refl _ _) (fun d hd => by cases hd; exact rfl))
                go_simp
              · obtain ⟨_, q96, rfl⟩ := hG.new 96 (by kernel_rfl) (by kernel_rfl)
                obtain ⟨_, q97, rfl⟩ := hG.new 97 (by kernel_rfl) (by kernel_rfl)
                refine step_slot rfl rfl rfl (step_value (v := .bool true) (w' := wx) rfl (by simp [Region.wanted, yielded, q96, undef]) ?_ (Below.refl _ _) (fun d hd => by cases hd; exact rfl))
                go_simp
              · obtain ⟨_, q96, rfl⟩ := hG.new 96 (by kernel_rfl) (by kernel_rfl)
                obtain ⟨_, q98, rfl⟩ := hG.new 98 (by kernel_rfl) (by kernel_rfl)
                refine step_slot rfl rfl rfl (step_value (v := .bool true) (w' := wx) rfl (by simp [Region.wanted, yielded, q96, undef]) ?_ (Below.refl _ _) (fun d hd => by cases hd; exact rfl))
                go_simp
              · obtain ⟨_, q99, rfl⟩ := hG.new 99 (by kernel_rfl) (by kernel_rfl)
                have q17 := hG.old 17 (by kernel_rfl) (by kernel_rfl)
                obtain ⟨z0, z1⟩ := (⟨Box.cell (B179.out.on hS) 0 rfl, Box.cell (B179.out.on hS) 1 rfl⟩ : _ ∧ _)
                refine step_slot rfl rfl rfl (step_value (v := .agg #[.int .i64 m, .slice A3 n c3]) (w' := wx) rfl (by simp [Region.wanted, yielded, q99, undef]) ?_ (Below.refl _ _) (fun d hd => by cases hd; exact rfl))
                go_simp
              · obtain ⟨_, q99, rfl⟩ := hG.new 99 (by kernel_rfl) (by kernel_rfl)
                have q4 := hG.old 4 (by kernel_rfl) (by kernel_rfl)
                obtain ⟨z0, z1⟩ := (⟨Box.cell (BC9.out.on hS) 0 rfl, Box.cell (BC9.out.on hS) 1 rfl⟩ : _ ∧ _)
                refine step_slot rfl rfl rfl (step_value (v := .agg #[.int .i64 m, .slice A n c]) (w' := wx) rfl (by simp [Region.wanted, yielded, q99, undef]) ?_ (Below.refl _ _) (fun d hd => by cases hd; exact rfl))
                go_simp
              · obtain ⟨_, q99, rfl⟩ := hG.new 99 (by kernel_rfl) (by kernel_rfl)
                obtain ⟨_, q101, rfl⟩ := hG.new 101 (by kernel_rfl) (by kernel_rfl)
                refine step_slot rfl rfl rfl (step_call (w1 := wx) (f := 12) (args := #[.agg #[.int .i64 m, .slice A n c]]) rfl (by simp [Region.wanted, yielded, q99, undef]) ?_ ((ref_any m wx (VC9.out.on hS) HLK.out.1).mono ?_))
                · skip
                  go_simp
                · rintro e w' ⟨s', rfl, hv, hq⟩
                  exact ⟨_, rfl, hq, fun d hd => by cases hd; exact ⟨_, rfl, hv⟩⟩
              · obtain ⟨_, q99, rfl⟩ := hG.new 99 (by kernel_rfl) (by kernel_rfl)
                obtain ⟨_, q100, rfl⟩ := hG.new 100 (by kernel_rfl) (by kernel_rfl)
                obtain ⟨v102, q102, h102⟩ := hG.new 102 (by kernel_rfl) (by kernel_rfl)
                have p102 : ∃ s', v102 = .agg #[.int .i64 m, s'] ∧ IV wx s' l := h102
                obtain ⟨s7, rfl, p102⟩ := p102
                refine step_slot rfl rfl rfl (step_call (w1 := wx) (f := 18) (args := #[.agg #[.int .i64 m, .slice A3 n c3], .agg #[.int .i64 m, s7]]) rfl (by simp [Region.wanted, yielded, q99, undef]) ?_ ((same_yes m wx (VGF.out.on hS) p102 HLK.out.1).mono ?_))
                · clear h102 p102
                  go_simp
                · rintro e w' ⟨rfl, hq⟩
                  exact ⟨_, rfl, hq, fun d hd => by cases hd; exact rfl⟩
              · obtain ⟨_, q99, rfl⟩ := hG.new 99 (by kernel_rfl) (by kernel_rfl)
                obtain ⟨_, q103, rfl⟩ := hG.new 103 (by kernel_rfl) (by kernel_rfl)
                refine step_slot rfl rfl rfl (step_value (v := .bool false) (w' := wx) rfl (by simp [Region.wanted, yielded, q99, undef]) ?_ (Below.refl _ _) (fun d hd => by cases hd; exact rfl))
                go_simp
              · obtain ⟨_, q96, rfl⟩ := hG.new 96 (by kernel_rfl) (by kernel_rfl)
                obtain ⟨_, q99, rfl⟩ := hG.new 99 (by kernel_rfl) (by kernel_rfl)
                obtain ⟨_, q104, rfl⟩ := hG.new 104 (by kernel_rfl) (by kernel_rfl)
                refine step_slot rfl rfl rfl (step_value (v := .bool false) (w' := wx) rfl (by simp [Region.wanted, yielded, q96, undef]) ?_ (Below.refl _ _) (fun d hd => by cases hd; exact rfl))
                go_simp
              · obtain ⟨_, q96, rfl⟩ := hG.new 96 (by kernel_rfl) (by kernel_rfl)
                obtain ⟨_, q105, rfl⟩ := hG.new 105 (by kernel_rfl) (by kernel_rfl)
                refine step_slot rfl rfl rfl (step_value (v := .bool false) (w' := wx) rfl rfl ?_ (Below.refl _ _) (fun d hd => by cases hd; exact rfl))
                go_simp
              · obtain ⟨_, q106, rfl⟩ := hG.new 106 (by kernel_rfl) (by kernel_rfl)
                refine step_slot rfl rfl rfl (step_value (v := .bool false) (w' := wx) rfl rfl ?_ (Below.refl _ _) (fun d hd => by cases hd; exact rfl))
                go_simp
              · obtain ⟨_, q107, rfl⟩ := hG.new 107 (by kernel_rfl) (by kernel_rfl)
                have q17 := hG.old 17 (by kernel_rfl) (by kernel_rfl)
                obtain ⟨z0, z1⟩ := (⟨Box.cell (B179.out.on hS) 0 rfl, Box.cell (B179.out.on hS) 1 rfl⟩ : _ ∧ _)
                refine step_slot rfl rfl rfl (step_value (v := .agg #[.int .i64 m, .slice A3 n c3]) (w' := wx) rfl (by simp [Region.wanted, yielded, q107, undef]) ?_ (Below.refl _ _) (fun d hd => by cases hd; exact rfl))
                go_simp
              · obtain ⟨_, q107, rfl⟩ := hG.new 107 (by kernel_rfl) (by kernel_rfl)
                obtain ⟨_, q108, rfl⟩ := hG.new 108 (by kernel_rfl) (by kernel_rfl)
                refine step_slot rfl rfl rfl (step_call (w1 := wx) (f := 19) (args := #[.agg #[.int .i64 m, .slice A3 n c3]]) rfl (by simp [Region.wanted, yielded, q107, undef]) ?_ ((right_s m wx (VG9.out.on hS) (Nat.le_trans HLK.out.2.2.2.2.2.2.2 (by decide)) HGR.out).mono ?_))
                · skip
                  go_simp
                · rintro e w' ⟨rfl, hq⟩
                  exact ⟨_, rfl, hq, fun d hd => by cases hd; exact rfl⟩
              · obtain ⟨_, q107, rfl⟩ := hG.new 107 (by kernel_rfl) (by kernel_rfl)
                obtain ⟨_, q109, rfl⟩ := hG.new 109 (by kernel_rfl) (by kernel_rfl)
                refine step_slot rfl rfl rfl (step_value (v := .bool false) (w' := wx) rfl (by simp [Region.wanted, yielded, q107, undef]) ?_ (Below.refl _ _) (fun d hd => by cases hd; exact rfl))
                go_simp
              · obtain ⟨_, q107, rfl⟩ := hG.new 107 (by kernel_rfl) (by kernel_rfl)
                obtain ⟨_, q110, rfl⟩ := hG.new 110 (by kernel_rfl) (by kernel_rfl)
                refine step_slot rfl rfl rfl (step_value (v := .bool false) (w' := wx) rfl rfl ?_ (Below.refl _ _) (fun d hd => by cases hd; exact rfl))
                go_simp
            intro fv w12 hb _ hV8
            have e111 : fv 111 = .bool false := hV8 111 (by decide)
            simp only [puts, Act.put, List.setIfInBounds_toArray, List.set_cons_succ, List.set_cons_zero]
            clear hV8
            rw [e111]
            replace hb : Below w9.heap.size w9 w12 := hb
            clear VGF
            clear VC9 VX9 VY9 VP9 VG9 B179 B189
            have HB12 := Lib.hid (HB9.out.trans (hb.mono HB9.out.size))
            have BC12 := Lib.hid (BC9.out.on hb)
            have VO12 := Lib.hid (VO9.out.on hb)
            have B912 := Lib.hid (B99.out.on hb)
            have VQ12 := Lib.hid (VQ9.out.on hb)
            have VR12 := Lib.hid (VR9.out.on hb)
            have B1412 := Lib.hid (B149.out.on hb)
            have VF12 := Lib.hid (VF9.out.on hb)
            have VZ12 := Lib.hid (VZ9.out.on hb)
            clear hb HB9 BC9 VO9 B99 VQ9 VR9 B149 VF9 VZ9 
            go_upto_region 9 with fail
            obtain ⟨bs, hbs⟩ : ∃ bs, bs = w12.heap.size := ⟨_, rfl⟩
            have Hbs := Lib.hid hbs
            clear hbs
            refine wp_region_phase 14 [112, 113, 114, 115, 116, 117, 118, 119, 120, 121, 122, 123, 124, 125, 126, 127, 128, 129, 130, 131, 132, 133, 134, 135, 136, 137, 8] (by kernel_rfl) [15, 17] [] (fun _ _ => True) 2 rfl (by kernel_rfl) ((fun _ wx => Below w12.heap.size w12 wx)) (fun wa wb => Below wa.heap.size wa wb) (PartsE m A2 A7 B1 B2 B7 nq c2 c7 no d1 nr d2 nz d7 bs P2 O1 Z) (by kernel_rfl) (fun _ => below_grow) (fun _ t v wa wb h1 h2 => h2.on h1) (fun _ _ _ _ _ _ _ => trivial) (Below.refl _ _).drew trivial (phase2 ?_ ?_ ?_) ?_
            · refine Steps1.cons (fun _ ax wx hS _ hG => ?_) (Steps1.cons (fun _ ax wx hS _ hG => ?_) (Steps1.cons (fun _ ax wx hS _ hG => ?_) (Steps1.cons (fun _ ax wx hS _ hG => ?_) (Steps1.cons (fun _ ax wx hS _ hG => ?_) (Steps1.cons (fun _ ax wx hS _ hG => ?_) (Steps1.cons (fun _ ax wx hS _ hG => ?_) (Steps1.cons (fun _ ax wx hS _ hG => ?_) (Steps1.cons (fun _ ax wx hS _ hG => ?_) (Steps1.cons (fun _ ax wx hS _ hG => ?_) (Steps1.cons (fun _ ax wx hS _ hG => ?_) (Steps1.cons (fun _ ax wx hS _ hG => ?_) (Steps1.cons (fun _ ax wx hS _ hG => ?_) (Steps1.cons (fun _ ax wx hS _ hG => ?_) (Steps1.cons (fun _ ax wx hS _ hG => ?_) (Steps1.cons (fun _ ax wx hS _ hG => ?_) (Steps1.cons (fun _ ax wx hS _ hG => ?_) (Steps1.cons (fun hin _ _ _ _ _ => out (by kernel_rfl) hin) (Steps1.cons (fun hin _ _ _ _ _ => out (by kernel_rfl) hin) (Steps1.cons (fun _ ax wx hS _ hG => ?_) (Steps1.cons (fun _ ax wx hS _ hG => ?_) (Steps1.cons (fun hin _ _ _ _ _ => out (by kernel_rfl) hin) (Steps1.cons (fun hin _ _ _ _ _ => out (by kernel_rfl) hin) (Steps1.cons (fun hin _ _ _ _ _ => out (by kernel_rfl) hin) (Steps1.cons (fun hin _ _ _ _ _ => out (by kernel_rfl) hin) (Steps1.cons (fun hin _ _ _ _ _ => out (by kernel_rfl) hin) (Steps1.cons (fun hin _ _ _ _ _ => out (by kernel_rfl) hin) Steps1.nil))))))))))))))))))))))))))
              · have q13 := hG.old 13 (by kernel_rfl) (by kernel_rfl)
                refine step_slot rfl rfl rfl (step_value (v := .int .i64 0) (w' := wx) rfl rfl ?_ (Below.refl _ _) (fun d hd => by cases hd; exact rfl))
                go_simp
              · obtain ⟨_, q112, rfl⟩ := hG.new 112 (by kernel_rfl) (by kernel_rfl)
                refine step_slot rfl rfl rfl (step_value (v := .bool true) (w' := wx) rfl rfl ?_ (Below.refl _ _) (fun d hd => by cases hd; exact rfl))
                go_simp
              · obtain ⟨_, q113, rfl⟩ := hG.new 113 (by kernel_rfl) (by kernel_rfl)
                refine step_slot rfl rfl rfl (step_value (v := .bool true) (w' := wx) rfl rfl ?_ (Below.refl _ _) (fun d hd => by cases hd; exact rfl))
                go_simp
              · obtain ⟨_, q114, rfl⟩ := hG.new 114 (by kernel_rfl) (by kernel_rfl)
                have q16 := hG.old 16 (by kernel_rfl) (by kernel_rfl)
                refine step_slot rfl rfl rfl (step_value (v := .int .i64 0) (w' := wx) rfl (by simp [Region.wanted, yielded, q114, undef]) ?_ (Below.refl _ _) (fun d hd => by cases hd; exact rfl))
                go_simp
              · obtain ⟨_, q114, rfl⟩ := hG.new 114 (by kernel_rfl) (by kernel_rfl)
                obtain ⟨_, q115, rfl⟩ := hG.new 115 (by kernel_rfl) (by kernel_rfl)
                refine step_slot rfl rfl rfl (step_value (v := .bool true) (w' := wx) rfl (by simp [Region.wanted, yielded, q114, undef]) ?_ (Below.refl _ _) (fun d hd => by cases hd; exact rfl))
                go_simp
              · obtain ⟨_, q114, rfl⟩ := hG.new 114 (by kernel_rfl) (by kernel_rfl)
                obtain ⟨_, q116, rfl⟩ := hG.new 116 (by kernel_rfl) (by kernel_rfl)
                refine step_slot rfl rfl rfl (step_value (v := .bool true) (w' := wx) rfl rfl ?_ (Below.refl _ _) (fun d hd => by cases hd; exact rfl))
                go_simp
              · obtain ⟨_, q117, rfl⟩ := hG.new 117 (by kernel_rfl) (by kernel_rfl)
                refine step_slot rfl rfl rfl (step_value (v := .bool true) (w' := wx) rfl rfl ?_ (Below.refl _ _) (fun d hd => by cases hd; exact rfl))
                go_simp
              · obtain ⟨_, q118, rfl⟩ := hG.new 118 (by kernel_rfl) (by kernel_rfl)
                have q9 := hG.old 9 (by kernel_rfl) (by kernel_rfl)
                obtain ⟨z0, z1⟩ := (⟨Box.cell (B912.out.on hS) 0 rfl, Box.cell (B912.out.on hS) 1 rfl⟩ : _ ∧ _)
                refine step_slot rfl rfl rfl (step_value (v := .agg #[.int .i64 m, .slice A2 nq c2]) (w' := wx) rfl (by simp [Region.wanted, yielded, q118, undef]) ?_ (Below.refl _ _) (fun d hd => by cases hd; exact rfl))
                go_simp
              · obtain ⟨_, q118, rfl⟩ := hG.new 118 (by kernel_rfl) (by kernel_rfl)
                have q14 := hG.old 14 (by kernel_rfl) (by kernel_rfl)
                obtain ⟨z0, z1⟩ := (⟨Box.cell (B1412.out.on hS) 0 rfl, Box.cell (B1412.out.on hS) 1 rfl⟩ : _ ∧ _)
                refine step_slot rfl rfl rfl (step_value (v := .agg #[.int .i64 m, .slice A7 nq c7]) (w' := wx) rfl (by simp [Region.wanted, yielded, q118, undef]) ?_ (Below.refl _ _) (fun d hd => by cases hd; exact rfl))
                go_simp
              · obtain ⟨_, q118, rfl⟩ := hG.new 118 (by kernel_rfl) (by kernel_rfl)
                obtain ⟨_, q120, rfl⟩ := hG.new 120 (by kernel_rfl) (by kernel_rfl)
                refine step_slot rfl rfl rfl (step_call (w1 := wx) (f := 12) (args := #[.agg #[.int .i64 m, .slice A7 nq c7]]) rfl (by simp [Region.wanted, yielded, q118, undef]) ?_ ((ref_any m wx (VF12.out.on hS) (Nat.le_trans HPL.out.2 (by decide))).mono ?_))
                · skip
                  go_simp
                · rintro e w' ⟨s', rfl, hv, hq⟩
                  exact ⟨_, rfl, hq, fun d hd => by cases hd; exact fun _ => ⟨_, rfl, hv⟩⟩
              · obtain ⟨_, q118, rfl⟩ := hG.new 118 (by kernel_rfl) (by kernel_rfl)
                obtain ⟨_, q119, rfl⟩ := hG.new 119 (by kernel_rfl) (by kernel_rfl)
                obtain ⟨v121, q121, h121⟩ := hG.new 121 (by kernel_rfl) (by kernel_rfl)
                have p121 : 0 = 0 → ∃ s', v121 = .agg #[.int .i64 m, s'] ∧ IV wx s' P2 := h121
                obtain ⟨s7, rfl, p121b⟩ := p121 rfl
                refine step_slot rfl rfl rfl (step_call (w1 := wx) (f := 18) (args := #[.agg #[.int .i64 m, .slice A2 nq c2], .agg #[.int .i64 m, s7]]) rfl (by simp [Region.wanted, yielded, q118, undef]) ?_ ((same_yes m wx (VQ12.out.on hS) p121b (Nat.le_trans HPL.out.2 (by decide))).mono ?_))
                · clear h121 p121
                  go_simp
                · rintro e w' ⟨rfl, hq⟩
                  exact ⟨_, rfl, hq, fun d hd => by cases hd; exact rfl⟩
              · obtain ⟨_, q118, rfl⟩ := hG.new 118 (by kernel_rfl) (by kernel_rfl)
                obtain ⟨_, q122, rfl⟩ := hG.new 122 (by kernel_rfl) (by kernel_rfl)
                refine step_slot rfl rfl rfl (step_value (v := .bool true) (w' := wx) rfl rfl ?_ (Below.refl _ _) (fun d hd => by cases hd; exact rfl))
                go_simp
              · obtain ⟨_, q123, rfl⟩ := hG.new 123 (by kernel_rfl) (by kernel_rfl)
                refine step_slot rfl rfl rfl (step_value (v := .bool true) (w' := wx) rfl rfl ?_ (Below.refl _ _) (fun d hd => by cases hd; exact rfl))
                go_simp
              · obtain ⟨_, q124, rfl⟩ := hG.new 124 (by kernel_rfl) (by kernel_rfl)
                refine step_slot rfl rfl rfl (step_value (v := .slice (some ⟨wx.heap.size, 0, none⟩) 0 0) (w' := wx.alloc (.cells #[] 27)) rfl (by simp [Region.wanted, yielded, q124, undef]) ?_ ((Below.refl _ _).alloc (Nat.le_refl _) _) (fun d hd => by cases hd; exact fun _ => World.ownsRow_made wx #[] 0 (by rw [Hbs.out]; exact hS.size) (Nat.zero_le _) rfl))
                go_simp
              · obtain ⟨_, q124, rfl⟩ := hG.new 124 (by kernel_rfl) (by kernel_rfl)
                have q10 := hG.old 10 (by kernel_rfl) (by kernel_rfl)
                refine step_slot rfl rfl rfl (step_value (v := .slice B1 no d1) (w' := wx) rfl (by simp [Region.wanted, yielded, q124, undef]) ?_ (Below.refl _ _) (fun d hd => by cases hd; exact rfl))
                go_simp
              · obtain ⟨_, q124, rfl⟩ := hG.new 124 (by kernel_rfl) (by kernel_rfl)
                obtain ⟨v125, q125, h125⟩ := hG.new 125 (by kernel_rfl) (by kernel_rfl)
                have p125 : 0 = 0 → World.ownsRow wx bs 27 3 v125 0 [] := h125
                obtain ⟨_, q126, rfl⟩ := hG.new 126 (by kernel_rfl) (by kernel_rfl)
                have hown := p125 rfl
                obtain ⟨v2, w2, hr, hown2, hg, _⟩ := run_app_iv item_info Try.underlying22 wx bs v125 0 [] hown (VO12.out.on hS) (by rw [HNO.out]; have := HNN.out; omega) (by rw [Hbs.out]; exact hS.size)
                have hS2 : Below _ _ w2 := hS.grown hg hS.size (fun k hk => by have h1 := (own_lt hown hk).1; rw [Hbs.out] at h1; exact h1)
                refine step_marked (v := v2) (w' := w2) rfl rfl rfl (by simp [Region.wanted, yielded, q124, undef]) ?_ hS2 trivial ?_ ?_
                · have e1 : ax.eval (.tmp 125) = v125 := by simp [Act.eval, q125]
                  have e2 : ax.eval (.tmp 126) = .slice B1 no d1 := by simp [Act.eval, q126]
                  unfold execOp
                  simp only [resolve, invoke, builtin, Sem.run_bind, Sem.run_pure, Result.andThen_ok, List.map_toArray, List.map_cons, List.map_nil, e1, e2, hr]
                · exact fun _ => (by have h := hown2; rw [Nat.zero_add, List.nil_append, HNO.out] at h; exact h)
                · intro t u _ ht hu hV
                  unfold PartsE at hV ⊢
                  split at hV <;> first | exact absurd rfl ht | trivial | exact fun h => absurd h (by decide) | exact hV | exact absurd hV.1 (by decide) | exact own_grown hV hg (own_unlike hown hV (by decide))
              · obtain ⟨_, q124, rfl⟩ := hG.new 124 (by kernel_rfl) (by kernel_rfl)
                have q12 := hG.old 12 (by kernel_rfl) (by kernel_rfl)
                refine step_slot rfl rfl rfl (step_value (v := .slice B2 nr d2) (w' := wx) rfl (by simp [Region.wanted, yielded, q124, undef]) ?_ (Below.refl _ _) (fun d hd => by cases hd; exact rfl))
                go_simp
              · obtain ⟨_, q124, rfl⟩ := hG.new 124 (by kernel_rfl) (by kernel_rfl)
                have q15 := hG.old 15 (by kernel_rfl) (by kernel_rfl)
                refine step_slot rfl rfl rfl (step_value (v := .slice B7 nz d7) (w' := wx) rfl (by simp [Region.wanted, yielded, q124, undef]) ?_ (Below.refl _ _) (fun d hd => by cases hd; exact rfl))
                go_simp
              · obtain ⟨_, q124, rfl⟩ := hG.new 124 (by kernel_rfl) (by kernel_rfl)
                obtain ⟨_, q131, rfl⟩ := hG.new 131 (by kernel_rfl) (by kernel_rfl)
                refine step_slot rfl rfl rfl (step_call (w1 := wx) (f := 15) (args := #[.slice B7 nz d7]) rfl (by simp [Region.wanted, yielded, q124, undef]) ?_ ((refs_o (VZ12.out.on hS) HNZ.out (Nat.le_trans HNN.out.2 (by decide))).mono ?_))
                · skip
                  go_simp
                · rintro e w' ⟨s', rfl, hv, hq⟩
                  exact ⟨_, rfl, hq, fun d hd => by cases hd; exact own_more hv (by rw [Hbs.out]; exact hS.size)⟩
            · refine Steps1.cons (fun hin _ _ _ _ _ => out (by kernel_rfl) hin) (Steps1.cons (fun hin _ _ _ _ _ => out (by kernel_rfl) hin) (Steps1.cons (fun hin _ _ _ _ _ => out (by kernel_rfl) hin) (Steps1.cons (fun hin _ _ _ _ _ => out (by kernel_rfl) hin) (Steps1.cons (fun hin _ _ _ _ _ => out (by kernel_rfl) hin) (Steps1.cons (fun hin _ _ _ _ _ => out (by kernel_rfl) hin) (Steps1.cons (fun hin _ _ _ _ _ => out (by kernel_rfl) hin) (Steps1.cons (fun hin _ _ _ _ _ => out (by kernel_rfl) hin) (Steps1.cons (fun hin _ _ _ _ _ => out (by kernel_rfl) hin) (Steps1.cons (fun hin _ _ _ _ _ => out (by kernel_rfl) hin) (Steps1.cons (fun hin _ _ _ _ _ => out (by kernel_rfl) hin) (Steps1.cons (fun hin _ _ _ _ _ => out (by kernel_rfl) hin) (Steps1.cons (fun hin _ _ _ _ _ => out (by kernel_rfl) hin) (Steps1.cons (fun hin _ _ _ _ _ => out (by kernel_rfl) hin) (Steps1.cons (fun hin _ _ _ _ _ => out (by kernel_rfl) hin) (Steps1.cons (fun hin _ _ _ _ _ => out (by kernel_rfl) hin) (Steps1.cons (fun _ ax wx hS _ hG => ?_) (Steps1.cons (fun _ ax wx hS _ hG => ?_) (Steps1.cons (fun hin _ _ _ _ _ => out (by kernel_rfl) hin) (Steps1.cons (fun _ ax wx hS _ hG => ?_) (Steps1.cons (fun _ ax wx hS _ hG => ?_) (Steps1.cons (fun hin _ _ _ _ _ => out (by kernel_rfl) hin) (Steps1.cons (fun hin _ _ _ _ _ => out (by kernel_rfl) hin) (Steps1.cons (fun hin _ _ _ _ _ => out (by kernel_rfl) hin) (Steps1.cons (fun hin _ _ _ _ _ => out (by kernel_rfl) hin) (Steps1.cons (fun hin _ _ _ _ _ => out (by kernel_rfl) hin) (Steps1.cons (fun hin _ _ _ _ _ => out (by kernel_rfl) hin) Steps1.nil))))))))))))))))))))))))))
              · obtain ⟨_, q124, rfl⟩ := hG.new 124 (by kernel_rfl) (by kernel_rfl)
                have q12 := hG.old 12 (by kernel_rfl) (by kernel_rfl)
                refine step_slot rfl rfl rfl (step_value (v := .slice B2 nr d2) (w' := wx) rfl (by simp [Region.wanted, yielded, q124, undef]) ?_ (Below.refl _ _) (fun d hd => by cases hd; exact rfl))
                go_simp
              · obtain ⟨_, q124, rfl⟩ := hG.new 124 (by kernel_rfl) (by kernel_rfl)
                obtain ⟨v127, q127, h127⟩ := hG.new 127 (by kernel_rfl) (by kernel_rfl)
                have p127 : 1 = 1 → World.ownsRow wx bs 27 3 v127 no (O1.flatMap It.cells) := h127
                obtain ⟨_, q128, rfl⟩ := hG.new 128 (by kernel_rfl) (by kernel_rfl)
                have hown := p127 rfl
                obtain ⟨v2, w2, hr, hown2, hg, _⟩ := run_app_iv item_info Try.underlying22 wx bs v127 no _ hown (VR12.out.on hS) (by rw [HNR.out]; have := HNN.out; omega) (by rw [Hbs.out]; exact hS.size)
                have hS2 : Below _ _ w2 := hS.grown hg hS.size (fun k hk => by have h1 := (own_lt hown hk).1; rw [Hbs.out] at h1; exact h1)
                refine step_marked (v := v2) (w' := w2) rfl rfl rfl (by simp [Region.wanted, yielded, q124, undef]) ?_ hS2 trivial ?_ ?_
                · have e1 : ax.eval (.tmp 127) = v127 := by simp [Act.eval, q127]
                  have e2 : ax.eval (.tmp 128) = .slice B2 nr d2 := by simp [Act.eval, q128]
                  unfold execOp
                  simp only [resolve, invoke, builtin, Sem.run_bind, Sem.run_pure, Result.andThen_ok, List.map_toArray, List.map_cons, List.map_nil, e1, e2, hr]
                · exact fun _ => IV.own (n := no + O2.length) (by rw [HZZ.out, List.flatMap_append]; exact hown2) (by rw [HZZ.out, List.length_append, HNO.out])
                · intro t u _ ht hu hV
                  unfold PartsE at hV ⊢
                  split at hV <;> first | exact absurd rfl ht | trivial | exact fun h => absurd h (by decide) | exact hV | exact absurd hV.1 (by decide) | exact own_grown hV hg (own_unlike hown hV (by decide))
              · obtain ⟨_, q124, rfl⟩ := hG.new 124 (by kernel_rfl) (by kernel_rfl)
                have q15 := hG.old 15 (by kernel_rfl) (by kernel_rfl)
                refine step_slot rfl rfl rfl (step_value (v := .slice B7 nz d7) (w' := wx) rfl (by simp [Region.wanted, yielded, q124, undef]) ?_ (Below.refl _ _) (fun d hd => by cases hd; exact rfl))
                go_simp
              · obtain ⟨_, q124, rfl⟩ := hG.new 124 (by kernel_rfl) (by kernel_rfl)
                obtain ⟨_, q131, rfl⟩ := hG.new 131 (by kernel_rfl) (by kernel_rfl)
                refine step_slot rfl rfl rfl (step_call (w1 := wx) (f := 15) (args := #[.slice B7 nz d7]) rfl (by simp [Region.wanted, yielded, q124, undef]) ?_ ((refs_o (VZ12.out.on hS) HNZ.out (Nat.le_trans HNN.out.2 (by decide))).mono ?_))
                · skip
                  go_simp
                · rintro e w' ⟨s', rfl, hv, hq⟩
                  exact ⟨_, rfl, hq, fun d hd => by cases hd; exact own_more hv (by rw [Hbs.out]; exact hS.size)⟩
            · refine Steps1.cons (fun hin _ _ _ _ _ => out (by kernel_rfl) hin) (Steps1.cons (fun hin _ _ _ _ _ => out (by kernel_rfl) hin) (Steps1.cons (fun hin _ _ _ _ _ => out (by kernel_rfl) hin) (Steps1.cons (fun hin _ _ _ _ _ => out (by kernel_rfl) hin) (Steps1.cons (fun hin _ _ _ _ _ => out (by kernel_rfl) hin) (Steps1.cons (fun hin _ _ _ _ _ => out (by kernel_rfl) hin) (Steps1.cons (fun hin _ _ _ _ _ => out (by kernel_rfl) hin) (Steps1.cons (fun hin _ _ _ _ _ => out (by kernel_rfl) hin) (Steps1.cons (fun hin _ _ _ _ _ => out (by kernel_rfl) hin) (Steps1.cons (fun hin _ _ _ _ _ => out (by kernel_rfl) hin) (Steps1.cons (fun hin _ _ _ _ _ => out (by kernel_rfl) hin) (Steps1.cons (fun hin _ _ _ _ _ => out (by kernel_rfl) hin) (Steps1.cons (fun hin _ _ _ _ _ => out (by kernel_rfl) hin) (Steps1.cons (fun hin _ _ _ _ _ => out (by kernel_rfl) hin) (Steps1.cons (fun hin _ _ _ _ _ => out (by kernel_rfl) hin) (Steps1.cons (fun hin _ _ _ _ _ => out (by kernel_rfl) hin) (Steps1.cons (fun hin _ _ _ _ _ => out (by kernel_rfl) hin) (Steps1.cons (fun hin _ _ _ _ _ => out (by kernel_rfl) hin) (Steps1.cons (fun _ ax wx hS _ hG => ?_) (Steps1.cons (fun _ ax wx hS _ hG => ?_) (Steps1.cons (fun _ ax wx hS _ hG => ?_) (Steps1.cons (fun _ ax wx hS _ hG => ?_) (Steps1.cons (fun _ ax wx hS _ hG => ?_) (Steps1.cons (fun _ ax wx hS _ hG => ?_) (Steps1.cons (fun _ ax wx hS _ hG => ?_) (Steps1.cons (fun _ ax wx hS _ hG => ?_) (Steps1.cons (fun _ ax wx hS _ hG => ?_) Steps1.nil))))))))))))))))))))))))))
              · obtain ⟨_, q124, rfl⟩ := hG.new 124 (by kernel_rfl) (by kernel_rfl)
                obtain ⟨v129, q129, h129⟩ := hG.new 129 (by kernel_rfl) (by kernel_rfl)
                have p129 : 2 = 2 → IV wx v129 Z := h129
                refine step_slot rfl rfl rfl (step_call (w1 := wx) (f := 15) (args := #[v129]) rfl (by simp [Region.wanted, yielded, q124, undef]) ?_ ((refs_v (p129 rfl) (by rw [HNZ.out]; exact Nat.le_trans HNN.out.2 (by decide))).mono ?_))
                · clear h129 p129
                  go_simp
                · rintro e w' ⟨s', rfl, hv, hq⟩
                  exact ⟨_, rfl, hq, fun d hd => by cases hd; exact ⟨rfl, hv⟩⟩
              · obtain ⟨_, q124, rfl⟩ := hG.new 124 (by kernel_rfl) (by kernel_rfl)
                have q15 := hG.old 15 (by kernel_rfl) (by kernel_rfl)
                refine step_slot rfl rfl rfl (step_value (v := .slice B7 nz d7) (w' := wx) rfl (by simp [Region.wanted, yielded, q124, undef]) ?_ (Below.refl _ _) (fun d hd => by cases hd; exact rfl))
                go_simp
              · obtain ⟨_, q124, rfl⟩ := hG.new 124 (by kernel_rfl) (by kernel_rfl)
                obtain ⟨_, q131, rfl⟩ := hG.new 131 (by kernel_rfl) (by kernel_rfl)
                refine step_slot rfl rfl rfl (step_call (w1 := wx) (f := 15) (args := #[.slice B7 nz d7]) rfl (by simp [Region.wanted, yielded, q124, undef]) ?_ ((refs_o (VZ12.out.on hS) HNZ.out (Nat.le_trans HNN.out.2 (by decide))).mono ?_))
                · skip
                  go_simp
                · rintro e w' ⟨s', rfl, hv, hq⟩
                  exact ⟨_, rfl, hq, fun d hd => by cases hd; exact own_more hv (by rw [Hbs.out]; exact hS.size)⟩
              · obtain ⟨_, q124, rfl⟩ := hG.new 124 (by kernel_rfl) (by kernel_rfl)
                obtain ⟨v130, q130, h130⟩ := hG.new 130 (by kernel_rfl) (by kernel_rfl)
                have p130 : 2 = 2 ∧ IV wx v130 Z := h130
                obtain ⟨v132, q132, h132⟩ := hG.new 132 (by kernel_rfl) (by kernel_rfl)
                have p132 : World.ownsRow wx bs 33 3 v132 nz (Z.flatMap It.cells) := h132
                refine step_slot rfl rfl rfl (step_call (w1 := wx) (f := 22) (args := #[v130, v132]) rfl (by simp [Region.wanted, yielded, q124, undef]) ?_ ((rsame_yes p130.2 (IV.own p132 HNZ.out.symm) (by rw [HNZ.out]; exact Nat.le_trans HNN.out.2 (by decide))).mono ?_))
                · clear h130 p130 h132 p132
                  go_simp
                · rintro e w' ⟨rfl, hq⟩
                  exact ⟨_, rfl, hq, fun d hd => by cases hd; exact rfl⟩
              · obtain ⟨_, q124, rfl⟩ := hG.new 124 (by kernel_rfl) (by kernel_rfl)
                obtain ⟨_, q133, rfl⟩ := hG.new 133 (by kernel_rfl) (by kernel_rfl)
                refine step_slot rfl rfl rfl (step_value (v := .bool true) (w' := wx) rfl rfl ?_ (Below.refl _ _) (fun d hd => by cases hd; exact rfl))
                go_simp
              · obtain ⟨_, q134, rfl⟩ := hG.new 134 (by kernel_rfl) (by kernel_rfl)
                refine step_slot rfl rfl rfl (step_value (v := .bool true) (w' := wx) rfl rfl ?_ (Below.refl _ _) (fun d hd => by cases hd; exact rfl))
                go_simp
              · obtain ⟨_, q135, rfl⟩ := hG.new 135 (by kernel_rfl) (by kernel_rfl)
                refine step_slot rfl rfl rfl (step_call (w1 := wx) (f := 9) (args := #[]) rfl (by simp [Region.wanted, yielded, q135, undef]) ?_ ((awake_true wx).mono ?_))
                · skip
                  go_simp
                · rintro e w' ⟨rfl, hq⟩
                  exact ⟨_, rfl, hq, fun d hd => by cases hd; exact rfl⟩
              · obtain ⟨_, q135, rfl⟩ := hG.new 135 (by kernel_rfl) (by kernel_rfl)
                obtain ⟨_, q136, rfl⟩ := hG.new 136 (by kernel_rfl) (by kernel_rfl)
                refine step_slot rfl rfl rfl (step_value (v := .bool true) (w' := wx) rfl rfl ?_ (Below.refl _ _) (fun d hd => by cases hd; exact rfl))
                go_simp
              · obtain ⟨_, q137, rfl⟩ := hG.new 137 (by kernel_rfl) (by kernel_rfl)
                refine step_slot rfl rfl rfl (step_value (v := .bool true) (w' := wx) rfl rfl ?_ (Below.refl _ _) (fun d hd => by cases hd; exact rfl))
                go_simp
            intro fv w13 hb _ hV8
            have e8 : fv 8 = .bool true := hV8 8 (by decide)
            simp only [puts, Act.put, List.setIfInBounds_toArray, List.set_cons_succ, List.set_cons_zero]
            clear hV8
            rw [e8]
            have HBB := Lib.hid (HB12.out.trans ((show Below w12.heap.size w12 w13 from hb).mono HB12.out.size))
            clear hb
            go_wp2
            go_ret
            exact ⟨rfl, HBB.out⟩
      · have hd3 : decide ((30 : Int) < (ny : Int)) = true := by simp; omega
        go_wp2_with fail
        refine (awake_true _).mono ?_
        rintro e w61 ⟨rfl, hb⟩
        have HB61 := Lib.hid (HB0.out.trans (hb.mono HB0.out.size))
        clear hb HB0 
        go_wp2
        go_ret
        exact ⟨rfl, HB61.out⟩
    · have hd2 : decide ((30 : Int) < (nx : Int)) = true := by simp; omega
      go_wp2_with fail
      refine (awake_true _).mono ?_
      rintro e w71 ⟨rfl, hb⟩
      have HB71 := Lib.hid (HB0.out.trans (hb.mono HB0.out.size))
      clear hb HB0 
      go_wp2
      go_ret
      exact ⟨rfl, HB71.out⟩
  · have hd : decide ((100 : Int) < (n : Int)) = true := by simp; omega
    go_wp2_with fail
    refine (awake_true _).mono ?_
    rintro e w81 ⟨rfl, hb⟩
    have HB81 := Lib.hid (HB0.out.trans (hb.mono HB0.out.size))
    clear hb HB0 
    go_wp2
    go_ret
    exact ⟨rfl, HB81.out⟩

end Go.Proofs.Ythoffknkpogfhaa
