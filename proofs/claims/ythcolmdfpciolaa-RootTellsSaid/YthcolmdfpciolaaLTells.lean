/- The walk of the law RootTells. -/
import Derived.Test.YthcolmdfpciolaaRBest
import Derived.Test.YthcolmdfpciolaaOpenR
import Derived.Test.YthcolmdfpciolaaAwake
import Derived.Test.YthcolmdfpciolaaInv
namespace Go.Proofs.Ythcolmdfpciolaa
open Go.RowKit

theorem refz_dv {v : Value} {S : List ByteArray} {W : List Wr} {w : World} (h : DV w v S W) (h24 : W.length * 24 ≤ 140737488355328) :
    Calls Try.prog 8 #[v] w fun e w' => ∃ v', e = .returned v' ∧ DZ w' v' S W ∧ Below w.heap.size w w' := by
  obtain ⟨A, c, B, d, rfl, hA, hB⟩ := h
  exact refz_any A c S B d W w hA hB h24

def TellsT (R DW DY RA RC : Value) (E : Int) (rb ba : Bool) (S : List ByteArray) (W2 : List Wr) (t : Nat) (v : Value) (w : World) : Prop :=
  match t with
  | 60 => v = R
  | 61 => v = .bool rb
  | 62 => v = R
  | 63 => v = .bool rb
  | 64 => v = .bool true
  | 65 => v = .bool true
  | 66 => v = DW
  | 67 => DV w v S W2
  | 68 => v = DY
  | 69 => v = .bool true
  | 70 => v = .bool true
  | 71 => v = .bool true
  | 72 => v = .int .i64 E
  | 73 => v = .int .i64 E
  | 74 => v = .bool true
  | 75 => v = .bool true
  | 76 => v = .bool true
  | 77 => v = RA
  | 78 => v = RA
  | 79 => v = .bool true
  | 80 => v = .bool true
  | 81 => v = .bool true
  | 82 => v = .bool ba
  | 83 => v = .bool ba
  | 84 => v = .bool true
  | 85 => v = .bool true
  | 86 => v = .bool true
  | 87 => v = RC
  | 88 => v = RC
  | 89 => v = .bool true
  | 90 => v = .bool true
  | 91 => v = .bool true
  | 92 => v = .int .i64 0
  | 93 => v = .bool true
  | 94 => v = .bool true
  | 95 => v = .bool true
  | 96 => v = .bool true
  | 97 => v = .bool true
  | 98 => v = .bool true
  | 99 => v = .bool true
  | 100 => v = undef
  | 101 => v = undef
  | 102 => v = .bool true
  | 103 => v = .bool true
  | 104 => v = .bool true
  | 105 => v = .bool true
  | 106 => v = .bool true
  | 6 => v = .bool true
  | _ => True
theorem TellsT.on {R DW DY RA RC : Value} {E : Int} {rb ba : Bool} {S : List ByteArray} {W2 : List Wr} {t : Nat} {v : Value} {w w' : World} (h : TellsT R DW DY RA RC E rb ba S W2 t v w) (hb : Below w.heap.size w w') : TellsT R DW DY RA RC E rb ba S W2 t v w' := by
  unfold TellsT at *
  split at h <;> first | exact h | exact DV.on h hb
def TellsF (R DW DY RA RC : Value) (E : Int) (rb ba : Bool) (S : List ByteArray) (W2 : List Wr) (t : Nat) (v : Value) (w : World) : Prop :=
  match t with
  | 60 => v = R
  | 61 => v = .bool rb
  | 62 => v = R
  | 63 => v = .bool rb
  | 64 => v = .bool true
  | 65 => v = .bool true
  | 66 => v = DW
  | 67 => DV w v S W2
  | 68 => v = DY
  | 69 => v = .bool true
  | 70 => v = .bool true
  | 71 => v = .bool true
  | 72 => v = .int .i64 E
  | 73 => v = .int .i64 E
  | 74 => v = .bool true
  | 75 => v = .bool true
  | 76 => v = .bool true
  | 77 => v = RA
  | 78 => v = RA
  | 79 => v = .bool true
  | 80 => v = .bool true
  | 81 => v = .bool true
  | 82 => v = .bool ba
  | 83 => v = .bool ba
  | 84 => v = .bool true
  | 85 => v = .bool true
  | 86 => v = .bool true
  | 87 => v = RC
  | 88 => v = RC
  | 89 => v = .bool true
  | 90 => v = .bool true
  | 91 => v = .bool true
  | 92 => v = .int .i64 3
  | 93 => v = .bool false
  | 94 => v = .bool false
  | 95 => v = .bool true
  | 96 => v = .bool true
  | 97 => v = .bool true
  | 98 => v = .bool false
  | 99 => v = .bool false
  | 100 => v = .int .i64 3
  | 101 => v = .bool true
  | 102 => v = .bool true
  | 103 => v = .bool true
  | 104 => v = .bool true
  | 105 => v = .bool true
  | 106 => v = .bool true
  | 6 => v = .bool true
  | _ => True
theorem TellsF.on {R DW DY RA RC : Value} {E : Int} {rb ba : Bool} {S : List ByteArray} {W2 : List Wr} {t : Nat} {v : Value} {w w' : World} (h : TellsF R DW DY RA RC E rb ba S W2 t v w) (hb : Below w.heap.size w w') : TellsF R DW DY RA RC E rb ba S W2 t v w' := by
  unfold TellsF at *
  split at h <;> first | exact h | exact DV.on h hb

set_option maxHeartbeats 8000000 in
set_option maxRecDepth 100000 in
theorem tells_walk (v0 : Value) (S : List ByteArray) (V : List Wr) (r : Rt) (a : Int) (w : World) (hv : DV w v0 S V) (hn : S.length ≤ maxLen) (hm : V.length ≤ maxLen) (h24 : V.length * 24 ≤ 140737488355328) :
    Calls Try.prog 3 #[v0, r.v, .int .i64 a] w fun e w' => e = .returned (.bool true) ∧ Below w.heap.size w w' := by
  unfold maxLen at hn hm
  obtain ⟨A, c, B, d, rfl, hA, hB⟩ := hv
  have hrt := fun wx => rright_any r wx
  have hrt2 := fun wx => drright_any r wx
  obtain ⟨rb, hrb⟩ : ∃ rb, rb = rtB r := ⟨_, rfl⟩
  rw [← hrb] at hrt hrt2
  obtain ⟨E, hE⟩ : ∃ E, E = wrE S V r := ⟨_, rfl⟩
  obtain ⟨W2, hW2⟩ : ∃ W2, W2 = wrW S V r := ⟨_, rfl⟩
  have HWR := Lib.hid (fun (hn : S.length ≤ 1000000) (hm : V.length ≤ 100000) (wx : World) (v : Value) (h : DV wx v S V) => rwrite_any r h hn hm)
  have HWR2 := Lib.hid (fun (hn : S.length ≤ 1000000) (hm : V.length ≤ 100000) (wx : World) (v : Value) (h : DZ wx v S V) => dwrite_any r h hn hm)
  have hwl := wrW_len S V r
  rw [← hE, ← hW2] at HWR HWR2
  rw [← hW2] at hwl
  obtain ⟨x, y, z⟩ := r
  simp only [Rt.v] at hrt hrt2 HWR HWR2 ⊢
  have HRT := Lib.hid hrt
  have HRT2 := Lib.hid hrt2
  have H00 := Lib.hid (Holds.fresh (show DV w (.agg #[.slice A S.length c, .slice B V.length d]) S V from ⟨A, c, B, d, rfl, hA, hB⟩) (Below.refl w.heap.size w))
  have H := Lib.hid (H00.out.on ((Below.refl _ _).alloc (Nat.le_refl _) (.cells #[.int .i64 x, .int .i64 y, .int .i64 z] 27)))
  have HR := Lib.hid (show RBlk ((w.alloc (.cells #[.slice A S.length c, .slice B V.length d] 25)).alloc (.cells #[.int .i64 x, .int .i64 y, .int .i64 z] 27)) (w.heap.size + 1) ⟨x, y, z⟩ from Box.at_ (w.alloc _) _ _ (by simp))
  have H24 := Lib.hid h24
  have HWL := Lib.hid hwl
  generalize hsl : S.length = n at *
  generalize hvl : V.length = m at *
  have HSL := Lib.hid hsl
  have HVL := Lib.hid hvl
  clear hA hB hsl hvl h24 H00 hrb hE hW2 hrt hrt2 hwl
  go_enter Try.func3, Try.ntmps3
  go_wp2_with fail
  refine (refz_dv H.out.dv (by rw [HVL.out]; exact H24.out)).mono ?_
  rintro e w1 ⟨v1, rfl, ⟨A1, c1, B1, d1, rfl, hA1, hB1, hz1⟩, hb1⟩
  have hx1 : DZ w1 _ S V := ⟨A1, c1, B1, d1, rfl, hA1, hB1, hz1⟩
  rw [HSL.out, HVL.out] at hx1 ⊢
  have hba : Below _ _ (w1.alloc (.cells #[.slice A1 n c1, .slice B1 m d1] 30)) := hb1.alloc hb1.size _
  have HR := Lib.hid (show RBlk _ (w.heap.size + 1) ⟨x, y, z⟩ from Box.on HR.out hba)
  have H := Lib.hid (H.out.on hba)
  have HX := Lib.hid (show EBlk (w1.alloc (.cells #[.slice A1 n c1, .slice B1 m d1] 30)) w1.heap.size (.slice A1 n c1) (.slice B1 m d1) from Box.fresh _ _ _)
  have HXV := Lib.hid (hx1.on ((Below.refl _ _).alloc (Nat.le_refl _) (.cells #[.slice A1 n c1, .slice B1 m d1] 30)))
  clear hb1 hba hx1 hA1 hB1 hz1
  have hsm := small_dv HXV.out.dv
  rw [HSL.out, HVL.out] at hsm
  go_wp2_with fail
  refine hsm.mono ?_
  clear hsm
  rintro e w2 ⟨rfl, hb2⟩
  have HR := Lib.hid (show RBlk _ (w.heap.size + 1) ⟨x, y, z⟩ from Box.on HR.out hb2)
  have H := Lib.hid (H.out.on hb2)
  have HX := Lib.hid (show EBlk _ w1.heap.size (.slice A1 n c1) (.slice B1 m d1) from Box.on HX.out hb2)
  have HXV := Lib.hid (HXV.out.on hb2)
  clear hb2
  cases hsb : smallB n m with
  | false =>
    clear hsb
    go_wp2_with fail
    refine (awake_true _).mono ?_
    rintro e w9 ⟨rfl, hb9⟩
    go_wp2
    go_ret
    exact ⟨rfl, H.out.below.trans (hb9.mono H.out.below.size)⟩
  | true =>
  have hsm : n ≤ 100 ∧ m ≤ 60 := by unfold smallB at hsb; simpa using hsb
  obtain ⟨hn1, hm1⟩ := hsm
  clear hsb
  have hwr := HWR.out (by omega) (by omega) _ _ H.out.dv
  have hwz := HWR2.out (by omega) (by omega)
  have HWZ := Lib.hid hwz
  obtain ⟨m2, hm2⟩ : ∃ m2, m2 = W2.length := ⟨_, rfl⟩
  have hm61 : m2 ≤ 61 := by rw [hm2]; have := HWL.out; omega
  have HM2 := Lib.hid hm2
  clear hm2 HWR HWR2 hwz
  obtain ⟨k0, k1⟩ := DBlk.cells H.out.blk
  have kz := Box.lt H.out.blk
  obtain ⟨r0, r1, r2⟩ := RBlk.cells HR.out
  have rz := Box.lt HR.out
  go_wp2_with fail
  refine hwr.mono ?_
  clear hwr k0 k1 kz r0 r1 r2 rz
  rintro e w3 ⟨v3, rfl, ⟨A3, c3, B3, d3, rfl, hA3, hB3⟩, hb3⟩
  have hv3 : DV w3 _ S W2 := ⟨A3, c3, B3, d3, rfl, hA3, hB3⟩
  rw [HSL.out, ← HM2.out] at hv3 ⊢
  have hba : Below _ _ (w3.alloc (.cells #[.slice A3 n c3, .slice B3 m2 d3] 25)) := hb3.alloc hb3.size _
  have HR := Lib.hid (show RBlk _ (w.heap.size + 1) ⟨x, y, z⟩ from Box.on HR.out hba)
  have H := Lib.hid (H.out.on hba)
  have HX := Lib.hid (show EBlk _ w1.heap.size (.slice A1 n c1) (.slice B1 m d1) from Box.on HX.out hba)
  have HXV := Lib.hid (HXV.out.on hba)
  have HW := Lib.hid (show DBlk (w3.alloc (.cells #[.slice A3 n c3, .slice B3 m2 d3] 25)) w3.heap.size A3 n c3 B3 m2 d3 from Box.fresh _ _ _)
  have HWV := Lib.hid (hv3.on ((Below.refl _ _).alloc (Nat.le_refl _) (.cells #[.slice A3 n c3, .slice B3 m2 d3] 25)))
  clear hb3 hba hv3 hA3 hB3
  have hwr := HWZ.out _ _ HXV.out
  obtain ⟨k0, k1⟩ := EBlk.cells HX.out
  have kz := Box.lt HX.out
  obtain ⟨r0, r1, r2⟩ := RBlk.cells HR.out
  have rz := Box.lt HR.out
  go_wp2_with fail
  refine hwr.mono ?_
  clear hwr HWZ k0 k1 kz r0 r1 r2 rz
  rintro e w5 ⟨v5, rfl, ⟨A5, c5, B5, d5, rfl, hA5, hB5⟩, hb5⟩
  have hv5 : DV w5 _ S W2 := ⟨A5, c5, B5, d5, rfl, hA5, hB5⟩
  rw [HSL.out, ← HM2.out] at hv5 ⊢
  have hba : Below _ _ (w5.alloc (.cells #[.slice A5 n c5, .slice B5 m2 d5] 30)) := hb5.alloc hb5.size _
  have HR := Lib.hid (show RBlk _ (w.heap.size + 1) ⟨x, y, z⟩ from Box.on HR.out hba)
  have H := Lib.hid (H.out.on hba)
  have HX := Lib.hid (show EBlk _ w1.heap.size (.slice A1 n c1) (.slice B1 m d1) from Box.on HX.out hba)
  have HXV := Lib.hid (HXV.out.on hba)
  have HW := Lib.hid (show DBlk _ w3.heap.size A3 n c3 B3 m2 d3 from Box.on HW.out hba)
  have HWV := Lib.hid (HWV.out.on hba)
  have HY := Lib.hid (show EBlk (w5.alloc (.cells #[.slice A5 n c5, .slice B5 m2 d5] 30)) w5.heap.size (.slice A5 n c5) (.slice B5 m2 d5) from Box.fresh _ _ _)
  have HYV := Lib.hid (hv5.on ((Below.refl _ _).alloc (Nat.le_refl _) (.cells #[.slice A5 n c5, .slice B5 m2 d5] 30)))
  clear hb5 hba hv5 hA5 hB5
  obtain ⟨ra, hra⟩ : ∃ ra, ra = readR S V a := ⟨_, rfl⟩
  obtain ⟨ba, hba1⟩ : ∃ ba, ba = readB S V a := ⟨_, rfl⟩
  have hrd := rread_any (a := a) H.out.dv (by rw [HSL.out]; omega) (by rw [HVL.out]; omega)
  have hdr := fun (wx : World) (v : Value) (h : DV wx v S V) => drread_any (a := a) h (by rw [HSL.out]; omega) (by rw [HVL.out]; omega)
  rw [← hra, ← hba1] at hrd hdr
  clear hra hba1
  obtain ⟨gx, gy, gz⟩ := ra
  simp only [Rt.v] at hrd hdr
  have HDR := Lib.hid hdr
  clear hdr
  obtain ⟨k0, k1⟩ := DBlk.cells H.out.blk
  have kz := Box.lt H.out.blk
  go_wp2_with fail
  refine (hrd).mono ?_
  clear hrd k0 k1 kz
  rintro e w6 ⟨rfl, hbw6⟩
  have hba : Below _ _ (w6.alloc (.cells #[.int .i64 gx, .int .i64 gy, .int .i64 gz] 27)) := hbw6.alloc hbw6.size _
  have HR := Lib.hid (show RBlk _ (w.heap.size + 1) ⟨x, y, z⟩ from Box.on HR.out hba)
  have H := Lib.hid (H.out.on hba)
  have HX := Lib.hid (show EBlk _ w1.heap.size (.slice A1 n c1) (.slice B1 m d1) from Box.on HX.out hba)
  have HXV := Lib.hid (HXV.out.on hba)
  have HW := Lib.hid (show DBlk _ w3.heap.size A3 n c3 B3 m2 d3 from Box.on HW.out hba)
  have HWV := Lib.hid (HWV.out.on hba)
  have HY := Lib.hid (show EBlk _ w5.heap.size (.slice A5 n c5) (.slice B5 m2 d5) from Box.on HY.out hba)
  have HYV := Lib.hid (HYV.out.on hba)
  have HA := Lib.hid (show RBlk (w6.alloc (.cells #[.int .i64 gx, .int .i64 gy, .int .i64 gz] 27)) w6.heap.size ⟨gx, gy, gz⟩ from Box.fresh _ _ _)
  clear hbw6 hba
  obtain ⟨k0, k1⟩ := EBlk.cells HX.out
  have kz := Box.lt HX.out
  go_wp2_with fail
  refine (HDR.out _ _ HXV.out.dv).mono ?_
  clear HDR k0 k1 kz
  rintro e w7 ⟨rfl, hbw7⟩
  have hba : Below _ _ (w7.alloc (.cells #[.int .i64 gx, .int .i64 gy, .int .i64 gz] 39)) := hbw7.alloc hbw7.size _
  have HR := Lib.hid (show RBlk _ (w.heap.size + 1) ⟨x, y, z⟩ from Box.on HR.out hba)
  have H := Lib.hid (H.out.on hba)
  have HX := Lib.hid (show EBlk _ w1.heap.size (.slice A1 n c1) (.slice B1 m d1) from Box.on HX.out hba)
  have HXV := Lib.hid (HXV.out.on hba)
  have HW := Lib.hid (show DBlk _ w3.heap.size A3 n c3 B3 m2 d3 from Box.on HW.out hba)
  have HWV := Lib.hid (HWV.out.on hba)
  have HY := Lib.hid (show EBlk _ w5.heap.size (.slice A5 n c5) (.slice B5 m2 d5) from Box.on HY.out hba)
  have HYV := Lib.hid (HYV.out.on hba)
  have HA := Lib.hid (show RBlk _ w6.heap.size ⟨gx, gy, gz⟩ from Box.on HA.out hba)
  have HB := Lib.hid (show RBlk2 (w7.alloc (.cells #[.int .i64 gx, .int .i64 gy, .int .i64 gz] 39)) w7.heap.size ⟨gx, gy, gz⟩ from Box.fresh _ _ _)
  clear hbw7 hba
  obtain ⟨rc, hrc⟩ : ∃ rc, rc = bestR S V := ⟨_, rfl⟩
  have hrd := rbest_any H.out.dv (by rw [HSL.out]; omega) (by rw [HVL.out]; omega)
  have hdr := fun (wx : World) (v : Value) (h : DV wx v S V) => drbest_any h (by rw [HSL.out]; omega) (by rw [HVL.out]; omega)
  unfold bestE at hrd
  rw [← hrc] at hrd hdr
  clear hrc
  obtain ⟨cx, cy, cz⟩ := rc
  generalize bestB S V = bb at *
  simp only [Rt.v] at hrd hdr
  have HDR := Lib.hid hdr
  clear hdr
  obtain ⟨be, hbe⟩ : ∃ be : Int, be = if bb then 0 else 3 := ⟨_, rfl⟩
  rw [← hbe] at hrd
  have HBE := Lib.hid hbe
  clear hbe
  obtain ⟨k0, k1⟩ := DBlk.cells H.out.blk
  have kz := Box.lt H.out.blk
  go_wp2_with fail
  refine (hrd).mono ?_
  clear hrd k0 k1 kz
  rintro e w8 ⟨rfl, hbw8⟩
  have hba : Below _ _ (w8.alloc (.cells #[.int .i64 cx, .int .i64 cy, .int .i64 cz] 27)) := hbw8.alloc hbw8.size _
  have HR := Lib.hid (show RBlk _ (w.heap.size + 1) ⟨x, y, z⟩ from Box.on HR.out hba)
  have H := Lib.hid (H.out.on hba)
  have HX := Lib.hid (show EBlk _ w1.heap.size (.slice A1 n c1) (.slice B1 m d1) from Box.on HX.out hba)
  have HXV := Lib.hid (HXV.out.on hba)
  have HW := Lib.hid (show DBlk _ w3.heap.size A3 n c3 B3 m2 d3 from Box.on HW.out hba)
  have HWV := Lib.hid (HWV.out.on hba)
  have HY := Lib.hid (show EBlk _ w5.heap.size (.slice A5 n c5) (.slice B5 m2 d5) from Box.on HY.out hba)
  have HYV := Lib.hid (HYV.out.on hba)
  have HA := Lib.hid (show RBlk _ w6.heap.size ⟨gx, gy, gz⟩ from Box.on HA.out hba)
  have HB := Lib.hid (show RBlk2 _ w7.heap.size ⟨gx, gy, gz⟩ from Box.on HB.out hba)
  have HC := Lib.hid (show RBlk (w8.alloc (.cells #[.int .i64 cx, .int .i64 cy, .int .i64 cz] 27)) w8.heap.size ⟨cx, cy, cz⟩ from Box.fresh _ _ _)
  clear hbw8 hba
  obtain ⟨k0, k1⟩ := EBlk.cells HX.out
  have kz := Box.lt HX.out
  go_wp2_with fail
  refine (HDR.out _ _ HXV.out.dv).mono ?_
  clear HDR k0 k1 kz
  rintro e w9 ⟨rfl, hbw9⟩
  have hba : Below _ _ (w9.alloc (.cells #[.int .i64 cx, .int .i64 cy, .int .i64 cz] 39)) := hbw9.alloc hbw9.size _
  have HR := Lib.hid (show RBlk _ (w.heap.size + 1) ⟨x, y, z⟩ from Box.on HR.out hba)
  have H := Lib.hid (H.out.on hba)
  have HX := Lib.hid (show EBlk _ w1.heap.size (.slice A1 n c1) (.slice B1 m d1) from Box.on HX.out hba)
  have HXV := Lib.hid (HXV.out.on hba)
  have HW := Lib.hid (show DBlk _ w3.heap.size A3 n c3 B3 m2 d3 from Box.on HW.out hba)
  have HWV := Lib.hid (HWV.out.on hba)
  have HY := Lib.hid (show EBlk _ w5.heap.size (.slice A5 n c5) (.slice B5 m2 d5) from Box.on HY.out hba)
  have HYV := Lib.hid (HYV.out.on hba)
  have HA := Lib.hid (show RBlk _ w6.heap.size ⟨gx, gy, gz⟩ from Box.on HA.out hba)
  have HB := Lib.hid (show RBlk2 _ w7.heap.size ⟨gx, gy, gz⟩ from Box.on HB.out hba)
  have HC := Lib.hid (show RBlk _ w8.heap.size ⟨cx, cy, cz⟩ from Box.on HC.out hba)
  have HZ := Lib.hid (show RBlk2 (w9.alloc (.cells #[.int .i64 cx, .int .i64 cy, .int .i64 cz] 39)) w9.heap.size ⟨cx, cy, cz⟩ from Box.fresh _ _ _)
  clear hbw9 hba
  go_wp2
  generalize hw4 : w9.alloc (.cells #[.int .i64 cx, .int .i64 cy, .int .i64 cz] 39) = w4 at *
  clear hw4
  have HC4 := Lib.hid (fun (wx : World) (h : Below w4.heap.size w4 wx) => RBlk.cells (show RBlk wx (w.heap.size + 1) ⟨x, y, z⟩ from Box.on HR.out h))
  have HC12 := Lib.hid (fun (wx : World) (h : Below w4.heap.size w4 wx) => RBlk.cells (show RBlk wx w6.heap.size ⟨gx, gy, gz⟩ from Box.on HA.out h))
  have HC16 := Lib.hid (fun (wx : World) (h : Below w4.heap.size w4 wx) => RBlk.cells (show RBlk wx w8.heap.size ⟨cx, cy, cz⟩ from Box.on HC.out h))
  have HC14 := Lib.hid (fun (wx : World) (h : Below w4.heap.size w4 wx) => RBlk2.cells (show RBlk2 wx w7.heap.size ⟨gx, gy, gz⟩ from Box.on HB.out h))
  have HC18 := Lib.hid (fun (wx : World) (h : Below w4.heap.size w4 wx) => RBlk2.cells (show RBlk2 wx w9.heap.size ⟨cx, cy, cz⟩ from Box.on HZ.out h))
  have HC8 := Lib.hid (fun (wx : World) (h : Below w4.heap.size w4 wx) => DBlk.cells (show DBlk wx w3.heap.size A3 n c3 B3 m2 d3 from Box.on HW.out h))
  have HC10 := Lib.hid (fun (wx : World) (h : Below w4.heap.size w4 wx) => EBlk.cells (show EBlk wx w5.heap.size (.slice A5 n c5) (.slice B5 m2 d5) from Box.on HY.out h))
  have HREF := Lib.hid (fun (wx : World) (h : Below w4.heap.size w4 wx) => ref_dv (HWV.out.on h) (by rw [← HM2.out]; omega))
  have HSAME := Lib.hid (fun (wx : World) (h : Below w4.heap.size w4 wx) (v : Value) (hv : DV wx v S W2) => same2_eq v _ S W2 wx hv (HYV.out.on h) (by rw [HSL.out]; omega) (by rw [← HM2.out]; omega))
  have hee : (E == E) = true := by simp
  have hrbb : (rb == rb) = true := by cases rb <;> rfl
  have hbab : (ba == ba) = true := by cases ba <;> rfl
  cases bb with
  | true =>
    obtain rfl : be = 0 := HBE.out
    refine wp_region_inv [60, 61, 62, 63, 64, 65, 66, 67, 68, 69, 70, 71, 72, 73, 74, 75, 76, 77, 78, 79, 80, 81, 82, 83, 84, 85, 86, 87, 88, 89, 90, 91, 92, 93, 94, 95, 96, 97, 98, 99, 100, 101, 102, 103, 104, 105, 106, 6] (by kernel_rfl) (by kernel_rfl) (fun w' => Below w4.heap.size w4 w') (fun wa wb => Below wa.heap.size wa wb) (TellsT (.agg #[.int .i64 x, .int .i64 y, .int .i64 z]) (.agg #[.slice A3 n c3, .slice B3 m2 d3]) (.agg #[.slice A5 n c5, .slice B5 m2 d5]) (.agg #[.int .i64 gx, .int .i64 gy, .int .i64 gz]) (.agg #[.int .i64 cx, .int .i64 cy, .int .i64 cz]) E rb ba S W2) (by kernel_rfl) (fun wa wb h1 h2 => h2.trans (h1.mono h2.size)) (fun t v wa wb h1 h2 => h2.on h1) (Below.refl _ _).drew (steps_of ?_) ?_
    · skip
      refine Steps1.cons (fun ax wx hS hG => ?_) (Steps1.cons (fun ax wx hS hG => ?_) (Steps1.cons (fun ax wx hS hG => ?_) (Steps1.cons (fun ax wx hS hG => ?_) (Steps1.cons (fun ax wx hS hG => ?_) (Steps1.cons (fun ax wx hS hG => ?_) (Steps1.cons (fun ax wx hS hG => ?_) (Steps1.cons (fun ax wx hS hG => ?_) (Steps1.cons (fun ax wx hS hG => ?_) (Steps1.cons (fun ax wx hS hG => ?_) (Steps1.cons (fun ax wx hS hG => ?_) (Steps1.cons (fun ax wx hS hG => ?_) (Steps1.cons (fun ax wx hS hG => ?_) (Steps1.cons (fun ax wx hS hG => ?_) (Steps1.cons (fun ax wx hS hG => ?_) (Steps1.cons (fun ax wx hS hG => ?_) (Steps1.cons (fun ax wx hS hG => ?_) (Steps1.cons (fun ax wx hS hG => ?_) (Steps1.cons (fun ax wx hS hG => ?_) (Steps1.cons (fun ax wx hS hG => ?_) (Steps1.cons (fun ax wx hS hG => ?_) (Steps1.cons (fun ax wx hS hG => ?_) (Steps1.cons (fun ax wx hS hG => ?_) (Steps1.cons (fun ax wx hS hG => ?_) (Steps1.cons (fun ax wx hS hG => ?_) (Steps1.cons (fun ax wx hS hG => ?_) (Steps1.cons (fun ax wx hS hG => ?_) (Steps1.cons (fun ax wx hS hG => ?_) (Steps1.cons (fun ax wx hS hG => ?_) (Steps1.cons (fun ax wx hS hG => ?_) (Steps1.cons (fun ax wx hS hG => ?_) (Steps1.cons (fun ax wx hS hG => ?_) (Steps1.cons (fun ax wx hS hG => ?_) (Steps1.cons (fun ax wx hS hG => ?_) (Steps1.cons (fun ax wx hS hG => ?_) (Steps1.cons (fun ax wx hS hG => ?_) (Steps1.cons (fun ax wx hS hG => ?_) (Steps1.cons (fun ax wx hS hG => ?_) (Steps1.cons (fun ax wx hS hG => ?_) (Steps1.cons (fun ax wx hS hG => ?_) (Steps1.cons (fun ax wx hS hG => ?_) (Steps1.cons (fun ax wx hS hG => ?_) (Steps1.cons (fun ax wx hS hG => ?_) (Steps1.cons (fun ax wx hS hG => ?_) (Steps1.cons (fun ax wx hS hG => ?_) (Steps1.cons (fun ax wx hS hG => ?_) (Steps1.cons (fun ax wx hS hG => ?_) (Steps1.cons (fun ax wx hS hG => ?_) Steps1.nil)))))))))))))))))))))))))))))))))))))))))))))))
      · have q4 := hG.old 4 (by kernel_rfl) (by kernel_rfl)
        obtain ⟨z0, z1, z2⟩ := HC4.out wx hS
        refine step_value (v := .agg #[.int .i64 x, .int .i64 y, .int .i64 z]) (w' := wx) rfl rfl ?_ (Below.refl _ _) (fun d hd => by cases hd; exact rfl)
        go_simp
      · obtain ⟨_, q60, rfl⟩ := hG.new 60 (by kernel_rfl) (by kernel_rfl)
        refine step_call (w1 := wx) (f := 17) (args := #[.agg #[.int .i64 x, .int .i64 y, .int .i64 z]]) rfl rfl ?_ ((HRT.out wx).mono ?_)
        · skip
          go_simp
        · rintro e w' ⟨rfl, hq⟩
          exact ⟨_, rfl, hq, fun d hd => by cases hd; exact rfl⟩
      · have q4 := hG.old 4 (by kernel_rfl) (by kernel_rfl)
        obtain ⟨z0, z1, z2⟩ := HC4.out wx hS
        refine step_value (v := .agg #[.int .i64 x, .int .i64 y, .int .i64 z]) (w' := wx) rfl rfl ?_ (Below.refl _ _) (fun d hd => by cases hd; exact rfl)
        go_simp
      · obtain ⟨_, q62, rfl⟩ := hG.new 62 (by kernel_rfl) (by kernel_rfl)
        refine step_call (w1 := wx) (f := 18) (args := #[.agg #[.int .i64 x, .int .i64 y, .int .i64 z]]) rfl rfl ?_ ((HRT2.out wx).mono ?_)
        · skip
          go_simp
        · rintro e w' ⟨rfl, hq⟩
          exact ⟨_, rfl, hq, fun d hd => by cases hd; exact rfl⟩
      · obtain ⟨_, q61, rfl⟩ := hG.new 61 (by kernel_rfl) (by kernel_rfl)
        obtain ⟨_, q63, rfl⟩ := hG.new 63 (by kernel_rfl) (by kernel_rfl)
        refine step_value (v := .bool true) (w' := wx) rfl rfl ?_ (Below.refl _ _) (fun d hd => by cases hd; exact rfl)
        go_simp
      · obtain ⟨_, q64, rfl⟩ := hG.new 64 (by kernel_rfl) (by kernel_rfl)
        refine step_value (v := .bool true) (w' := wx) rfl rfl ?_ (Below.refl _ _) (fun d hd => by cases hd; exact rfl)
        go_simp
      · have q8 := hG.old 8 (by kernel_rfl) (by kernel_rfl)
        obtain ⟨_, q65, rfl⟩ := hG.new 65 (by kernel_rfl) (by kernel_rfl)
        obtain ⟨z0, z1⟩ := HC8.out wx hS
        refine step_value (v := .agg #[.slice A3 n c3, .slice B3 m2 d3]) (w' := wx) rfl (by simp [Region.wanted, yielded, q65]) ?_ (Below.refl _ _) (fun d hd => by cases hd; exact rfl)
        go_simp
      · obtain ⟨_, q66, rfl⟩ := hG.new 66 (by kernel_rfl) (by kernel_rfl)
        obtain ⟨_, q65, rfl⟩ := hG.new 65 (by kernel_rfl) (by kernel_rfl)
        refine step_call (w1 := wx) (f := 8) (args := #[.agg #[.slice A3 n c3, .slice B3 m2 d3]]) rfl (by simp [Region.wanted, yielded, q65]) ?_ ((HREF.out wx hS).mono ?_)
        · skip
          go_simp
        · rintro e w' ⟨v', rfl, hv, hq⟩
          exact ⟨_, rfl, hq, fun d hd => by cases hd; exact hv⟩
      · have q10 := hG.old 10 (by kernel_rfl) (by kernel_rfl)
        obtain ⟨_, q65, rfl⟩ := hG.new 65 (by kernel_rfl) (by kernel_rfl)
        obtain ⟨z0, z1⟩ := HC10.out wx hS
        refine step_value (v := .agg #[.slice A5 n c5, .slice B5 m2 d5]) (w' := wx) rfl (by simp [Region.wanted, yielded, q65]) ?_ (Below.refl _ _) (fun d hd => by cases hd; exact rfl)
        go_simp
      · obtain ⟨v67, q67, h67⟩ := hG.new 67 (by kernel_rfl) (by kernel_rfl)
        have p67 : DV wx v67 S W2 := h67
        obtain ⟨_, q68, rfl⟩ := hG.new 68 (by kernel_rfl) (by kernel_rfl)
        obtain ⟨_, q65, rfl⟩ := hG.new 65 (by kernel_rfl) (by kernel_rfl)
        refine step_call (w1 := wx) (f := 19) (args := #[v67, .agg #[.slice A5 n c5, .slice B5 m2 d5]]) rfl (by simp [Region.wanted, yielded, q65]) ?_ ((HSAME.out wx hS v67 p67).mono ?_)
        · clear h67 p67
          go_simp
        · rintro e w' ⟨rfl, hq⟩
          exact ⟨_, rfl, hq, fun d hd => by cases hd; exact rfl⟩
      · obtain ⟨_, q65, rfl⟩ := hG.new 65 (by kernel_rfl) (by kernel_rfl)
        obtain ⟨_, q69, rfl⟩ := hG.new 69 (by kernel_rfl) (by kernel_rfl)
        refine step_value (v := .bool true) (w' := wx) rfl rfl ?_ (Below.refl _ _) (fun d hd => by cases hd; exact rfl)
        go_simp
      · obtain ⟨_, q70, rfl⟩ := hG.new 70 (by kernel_rfl) (by kernel_rfl)
        refine step_value (v := .bool true) (w' := wx) rfl rfl ?_ (Below.refl _ _) (fun d hd => by cases hd; exact rfl)
        go_simp
      · have q9 := hG.old 9 (by kernel_rfl) (by kernel_rfl)
        obtain ⟨_, q71, rfl⟩ := hG.new 71 (by kernel_rfl) (by kernel_rfl)
        refine step_value (v := .int .i64 E) (w' := wx) rfl (by simp [Region.wanted, yielded, q71]) ?_ (Below.refl _ _) (fun d hd => by cases hd; exact rfl)
        go_simp
      · have q11 := hG.old 11 (by kernel_rfl) (by kernel_rfl)
        obtain ⟨_, q71, rfl⟩ := hG.new 71 (by kernel_rfl) (by kernel_rfl)
        refine step_value (v := .int .i64 E) (w' := wx) rfl (by simp [Region.wanted, yielded, q71]) ?_ (Below.refl _ _) (fun d hd => by cases hd; exact rfl)
        go_simp
      · obtain ⟨_, q72, rfl⟩ := hG.new 72 (by kernel_rfl) (by kernel_rfl)
        obtain ⟨_, q73, rfl⟩ := hG.new 73 (by kernel_rfl) (by kernel_rfl)
        obtain ⟨_, q71, rfl⟩ := hG.new 71 (by kernel_rfl) (by kernel_rfl)
        refine step_value (v := .bool true) (w' := wx) rfl (by simp [Region.wanted, yielded, q71]) ?_ (Below.refl _ _) (fun d hd => by cases hd; exact rfl)
        go_simp
      · obtain ⟨_, q71, rfl⟩ := hG.new 71 (by kernel_rfl) (by kernel_rfl)
        obtain ⟨_, q74, rfl⟩ := hG.new 74 (by kernel_rfl) (by kernel_rfl)
        refine step_value (v := .bool true) (w' := wx) rfl rfl ?_ (Below.refl _ _) (fun d hd => by cases hd; exact rfl)
        go_simp
      · obtain ⟨_, q75, rfl⟩ := hG.new 75 (by kernel_rfl) (by kernel_rfl)
        refine step_value (v := .bool true) (w' := wx) rfl rfl ?_ (Below.refl _ _) (fun d hd => by cases hd; exact rfl)
        go_simp
      · have q12 := hG.old 12 (by kernel_rfl) (by kernel_rfl)
        obtain ⟨_, q76, rfl⟩ := hG.new 76 (by kernel_rfl) (by kernel_rfl)
        obtain ⟨z0, z1, z2⟩ := HC12.out wx hS
        refine step_value (v := .agg #[.int .i64 gx, .int .i64 gy, .int .i64 gz]) (w' := wx) rfl (by simp [Region.wanted, yielded, q76]) ?_ (Below.refl _ _) (fun d hd => by cases hd; exact rfl)
        go_simp
      · have q14 := hG.old 14 (by kernel_rfl) (by kernel_rfl)
        obtain ⟨_, q76, rfl⟩ := hG.new 76 (by kernel_rfl) (by kernel_rfl)
        obtain ⟨z0, z1, z2⟩ := HC14.out wx hS
        refine step_value (v := .agg #[.int .i64 gx, .int .i64 gy, .int .i64 gz]) (w' := wx) rfl (by simp [Region.wanted, yielded, q76]) ?_ (Below.refl _ _) (fun d hd => by cases hd; exact rfl)
        go_simp
      · obtain ⟨_, q77, rfl⟩ := hG.new 77 (by kernel_rfl) (by kernel_rfl)
        obtain ⟨_, q78, rfl⟩ := hG.new 78 (by kernel_rfl) (by kernel_rfl)
        obtain ⟨_, q76, rfl⟩ := hG.new 76 (by kernel_rfl) (by kernel_rfl)
        refine step_value (v := .bool true) (w' := wx) rfl (by simp [Region.wanted, yielded, q76]) ?_ (Below.refl _ _) (fun d hd => by cases hd; exact rfl)
        go_simp
      · obtain ⟨_, q76, rfl⟩ := hG.new 76 (by kernel_rfl) (by kernel_rfl)
        obtain ⟨_, q79, rfl⟩ := hG.new 79 (by kernel_rfl) (by kernel_rfl)
        refine step_value (v := .bool true) (w' := wx) rfl rfl ?_ (Below.refl _ _) (fun d hd => by cases hd; exact rfl)
        go_simp
      · obtain ⟨_, q80, rfl⟩ := hG.new 80 (by kernel_rfl) (by kernel_rfl)
        refine step_value (v := .bool true) (w' := wx) rfl rfl ?_ (Below.refl _ _) (fun d hd => by cases hd; exact rfl)
        go_simp
      · have q13 := hG.old 13 (by kernel_rfl) (by kernel_rfl)
        obtain ⟨_, q81, rfl⟩ := hG.new 81 (by kernel_rfl) (by kernel_rfl)
        refine step_value (v := .bool ba) (w' := wx) rfl (by simp [Region.wanted, yielded, q81]) ?_ (Below.refl _ _) (fun d hd => by cases hd; exact rfl)
        go_simp
      · have q15 := hG.old 15 (by kernel_rfl) (by kernel_rfl)
        obtain ⟨_, q81, rfl⟩ := hG.new 81 (by kernel_rfl) (by kernel_rfl)
        refine step_value (v := .bool ba) (w' := wx) rfl (by simp [Region.wanted, yielded, q81]) ?_ (Below.refl _ _) (fun d hd => by cases hd; exact rfl)
        go_simp
      · obtain ⟨_, q82, rfl⟩ := hG.new 82 (by kernel_rfl) (by kernel_rfl)
        obtain ⟨_, q83, rfl⟩ := hG.new 83 (by kernel_rfl) (by kernel_rfl)
        obtain ⟨_, q81, rfl⟩ := hG.new 81 (by kernel_rfl) (by kernel_rfl)
        refine step_value (v := .bool true) (w' := wx) rfl (by simp [Region.wanted, yielded, q81]) ?_ (Below.refl _ _) (fun d hd => by cases hd; exact rfl)
        go_simp
      · obtain ⟨_, q81, rfl⟩ := hG.new 81 (by kernel_rfl) (by kernel_rfl)
        obtain ⟨_, q84, rfl⟩ := hG.new 84 (by kernel_rfl) (by kernel_rfl)
        refine step_value (v := .bool true) (w' := wx) rfl rfl ?_ (Below.refl _ _) (fun d hd => by cases hd; exact rfl)
        go_simp
      · obtain ⟨_, q85, rfl⟩ := hG.new 85 (by kernel_rfl) (by kernel_rfl)
        refine step_value (v := .bool true) (w' := wx) rfl rfl ?_ (Below.refl _ _) (fun d hd => by cases hd; exact rfl)
        go_simp
      · have q16 := hG.old 16 (by kernel_rfl) (by kernel_rfl)
        obtain ⟨_, q86, rfl⟩ := hG.new 86 (by kernel_rfl) (by kernel_rfl)
        obtain ⟨z0, z1, z2⟩ := HC16.out wx hS
        refine step_value (v := .agg #[.int .i64 cx, .int .i64 cy, .int .i64 cz]) (w' := wx) rfl (by simp [Region.wanted, yielded, q86]) ?_ (Below.refl _ _) (fun d hd => by cases hd; exact rfl)
        go_simp
      · have q18 := hG.old 18 (by kernel_rfl) (by kernel_rfl)
        obtain ⟨_, q86, rfl⟩ := hG.new 86 (by kernel_rfl) (by kernel_rfl)
        obtain ⟨z0, z1, z2⟩ := HC18.out wx hS
        refine step_value (v := .agg #[.int .i64 cx, .int .i64 cy, .int .i64 cz]) (w' := wx) rfl (by simp [Region.wanted, yielded, q86]) ?_ (Below.refl _ _) (fun d hd => by cases hd; exact rfl)
        go_simp
      · obtain ⟨_, q87, rfl⟩ := hG.new 87 (by kernel_rfl) (by kernel_rfl)
        obtain ⟨_, q88, rfl⟩ := hG.new 88 (by kernel_rfl) (by kernel_rfl)
        obtain ⟨_, q86, rfl⟩ := hG.new 86 (by kernel_rfl) (by kernel_rfl)
        refine step_value (v := .bool true) (w' := wx) rfl (by simp [Region.wanted, yielded, q86]) ?_ (Below.refl _ _) (fun d hd => by cases hd; exact rfl)
        go_simp
      · obtain ⟨_, q86, rfl⟩ := hG.new 86 (by kernel_rfl) (by kernel_rfl)
        obtain ⟨_, q89, rfl⟩ := hG.new 89 (by kernel_rfl) (by kernel_rfl)
        refine step_value (v := .bool true) (w' := wx) rfl rfl ?_ (Below.refl _ _) (fun d hd => by cases hd; exact rfl)
        go_simp
      · obtain ⟨_, q90, rfl⟩ := hG.new 90 (by kernel_rfl) (by kernel_rfl)
        refine step_value (v := .bool true) (w' := wx) rfl rfl ?_ (Below.refl _ _) (fun d hd => by cases hd; exact rfl)
        go_simp
      · have q17 := hG.old 17 (by kernel_rfl) (by kernel_rfl)
        obtain ⟨_, q91, rfl⟩ := hG.new 91 (by kernel_rfl) (by kernel_rfl)
        refine step_value (v := .int .i64 0) (w' := wx) rfl (by simp [Region.wanted, yielded, q91]) ?_ (Below.refl _ _) (fun d hd => by cases hd; exact rfl)
        go_simp
      · obtain ⟨_, q92, rfl⟩ := hG.new 92 (by kernel_rfl) (by kernel_rfl)
        obtain ⟨_, q91, rfl⟩ := hG.new 91 (by kernel_rfl) (by kernel_rfl)
        refine step_value (v := .bool true) (w' := wx) rfl (by simp [Region.wanted, yielded, q91]) ?_ (Below.refl _ _) (fun d hd => by cases hd; exact rfl)
        go_simp
      · have q19 := hG.old 19 (by kernel_rfl) (by kernel_rfl)
        obtain ⟨_, q91, rfl⟩ := hG.new 91 (by kernel_rfl) (by kernel_rfl)
        refine step_value (v := .bool true) (w' := wx) rfl (by simp [Region.wanted, yielded, q91]) ?_ (Below.refl _ _) (fun d hd => by cases hd; exact rfl)
        go_simp
      · obtain ⟨_, q93, rfl⟩ := hG.new 93 (by kernel_rfl) (by kernel_rfl)
        obtain ⟨_, q94, rfl⟩ := hG.new 94 (by kernel_rfl) (by kernel_rfl)
        obtain ⟨_, q91, rfl⟩ := hG.new 91 (by kernel_rfl) (by kernel_rfl)
        refine step_value (v := .bool true) (w' := wx) rfl (by simp [Region.wanted, yielded, q91]) ?_ (Below.refl _ _) (fun d hd => by cases hd; exact rfl)
        go_simp
      · obtain ⟨_, q91, rfl⟩ := hG.new 91 (by kernel_rfl) (by kernel_rfl)
        obtain ⟨_, q95, rfl⟩ := hG.new 95 (by kernel_rfl) (by kernel_rfl)
        refine step_value (v := .bool true) (w' := wx) rfl rfl ?_ (Below.refl _ _) (fun d hd => by cases hd; exact rfl)
        go_simp
      · obtain ⟨_, q96, rfl⟩ := hG.new 96 (by kernel_rfl) (by kernel_rfl)
        refine step_value (v := .bool true) (w' := wx) rfl rfl ?_ (Below.refl _ _) (fun d hd => by cases hd; exact rfl)
        go_simp
      · have q19 := hG.old 19 (by kernel_rfl) (by kernel_rfl)
        obtain ⟨_, q97, rfl⟩ := hG.new 97 (by kernel_rfl) (by kernel_rfl)
        refine step_value (v := .bool true) (w' := wx) rfl (by simp [Region.wanted, yielded, q97]) ?_ (Below.refl _ _) (fun d hd => by cases hd; exact rfl)
        go_simp
      · obtain ⟨_, q98, rfl⟩ := hG.new 98 (by kernel_rfl) (by kernel_rfl)
        obtain ⟨_, q97, rfl⟩ := hG.new 97 (by kernel_rfl) (by kernel_rfl)
        refine step_value (v := .bool true) (w' := wx) rfl (by simp [Region.wanted, yielded, q97]) ?_ (Below.refl _ _) (fun d hd => by cases hd; exact rfl)
        go_simp
      · obtain ⟨_, q99, rfl⟩ := hG.new 99 (by kernel_rfl) (by kernel_rfl)
        refine step_past rfl (by simp [Region.wanted, yielded, q99]) (Below.refl _ _) (fun d hd => by cases hd; exact rfl)
      · obtain ⟨_, q99, rfl⟩ := hG.new 99 (by kernel_rfl) (by kernel_rfl)
        refine step_past rfl (by simp [Region.wanted, yielded, q99]) (Below.refl _ _) (fun d hd => by cases hd; exact rfl)
      · obtain ⟨_, q99, rfl⟩ := hG.new 99 (by kernel_rfl) (by kernel_rfl)
        obtain ⟨_, q97, rfl⟩ := hG.new 97 (by kernel_rfl) (by kernel_rfl)
        refine step_value (v := .bool true) (w' := wx) rfl (by simp [Region.wanted, yielded, q97]) ?_ (Below.refl _ _) (fun d hd => by cases hd; exact rfl)
        go_simp
      · obtain ⟨_, q97, rfl⟩ := hG.new 97 (by kernel_rfl) (by kernel_rfl)
        obtain ⟨_, q102, rfl⟩ := hG.new 102 (by kernel_rfl) (by kernel_rfl)
        refine step_value (v := .bool true) (w' := wx) rfl rfl ?_ (Below.refl _ _) (fun d hd => by cases hd; exact rfl)
        go_simp
      · obtain ⟨_, q103, rfl⟩ := hG.new 103 (by kernel_rfl) (by kernel_rfl)
        refine step_value (v := .bool true) (w' := wx) rfl rfl ?_ (Below.refl _ _) (fun d hd => by cases hd; exact rfl)
        go_simp
      · obtain ⟨_, q104, rfl⟩ := hG.new 104 (by kernel_rfl) (by kernel_rfl)
        refine step_call (w1 := wx) (f := 10) (args := #[]) rfl (by simp [Region.wanted, yielded, q104]) ?_ ((awake_true wx).mono ?_)
        · skip
          go_simp
        · rintro e w' ⟨rfl, hq⟩
          exact ⟨_, rfl, hq, fun d hd => by cases hd; exact rfl⟩
      · obtain ⟨_, q104, rfl⟩ := hG.new 104 (by kernel_rfl) (by kernel_rfl)
        obtain ⟨_, q105, rfl⟩ := hG.new 105 (by kernel_rfl) (by kernel_rfl)
        refine step_value (v := .bool true) (w' := wx) rfl rfl ?_ (Below.refl _ _) (fun d hd => by cases hd; exact rfl)
        go_simp
      · obtain ⟨_, q106, rfl⟩ := hG.new 106 (by kernel_rfl) (by kernel_rfl)
        refine step_value (v := .bool true) (w' := wx) rfl rfl ?_ (Below.refl _ _) (fun d hd => by cases hd; exact rfl)
        go_simp
    intro f w5 hS5 hV5
    have e6 : f 6 = .bool true := hV5 6 (by decide)
    simp only [puts, Act.put, List.setIfInBounds_toArray, List.set_cons_succ, List.set_cons_zero]
    clear hV5
    rw [e6]
    go_wp2
    go_ret
    exact ⟨rfl, H.out.below.trans (hS5.mono H.out.below.size)⟩
  | false =>
    obtain rfl : be = 3 := HBE.out
    refine wp_region_inv [60, 61, 62, 63, 64, 65, 66, 67, 68, 69, 70, 71, 72, 73, 74, 75, 76, 77, 78, 79, 80, 81, 82, 83, 84, 85, 86, 87, 88, 89, 90, 91, 92, 93, 94, 95, 96, 97, 98, 99, 100, 101, 102, 103, 104, 105, 106, 6] (by kernel_rfl) (by kernel_rfl) (fun w' => Below w4.heap.size w4 w') (fun wa wb => Below wa.heap.size wa wb) (TellsF (.agg #[.int .i64 x, .int .i64 y, .int .i64 z]) (.agg #[.slice A3 n c3, .slice B3 m2 d3]) (.agg #[.slice A5 n c5, .slice B5 m2 d5]) (.agg #[.int .i64 gx, .int .i64 gy, .int .i64 gz]) (.agg #[.int .i64 cx, .int .i64 cy, .int .i64 cz]) E rb ba S W2) (by kernel_rfl) (fun wa wb h1 h2 => h2.trans (h1.mono h2.size)) (fun t v wa wb h1 h2 => h2.on h1) (Below.refl _ _).drew (steps_of ?_) ?_
    · skip
      refine Steps1.cons (fun ax wx hS hG => ?_) (Steps1.cons (fun ax wx hS hG => ?_) (Steps1.cons (fun ax wx hS hG => ?_) (Steps1.cons (fun ax wx hS hG => ?_) (Steps1.cons (fun ax wx hS hG => ?_) (Steps1.cons (fun ax wx hS hG => ?_) (Steps1.cons (fun ax wx hS hG => ?_) (Steps1.cons (fun ax wx hS hG => ?_) (Steps1.cons (fun ax wx hS hG => ?_) (Steps1.cons (fun ax wx hS hG => ?_) (Steps1.cons (fun ax wx hS hG => ?_) (Steps1.cons (fun ax wx hS hG => ?_) (Steps1.cons (fun ax wx hS hG => ?_) (Steps1.cons (fun ax wx hS hG => ?_) (Steps1.cons (fun ax wx hS hG => ?_) (Steps1.cons (fun ax wx hS hG => ?_) (Steps1.cons (fun ax wx hS hG => ?_) (Steps1.cons (fun ax wx hS hG => ?_) (Steps1.cons (fun ax wx hS hG => ?_) (Steps1.cons (fun ax wx hS hG => ?_) (Steps1.cons (fun ax wx hS hG => ?_) (Steps1.cons (fun ax wx hS hG => ?_) (Steps1.cons (fun ax wx hS hG => ?_) (Steps1.cons (fun ax wx hS hG => ?_) (Steps1.cons (fun ax wx hS hG => ?_) (Steps1.cons (fun ax wx hS hG => ?_) (Steps1.cons (fun ax wx hS hG => ?_) (Steps1.cons (fun ax wx hS hG => ?_) (Steps1.cons (fun ax wx hS hG => ?_) (Steps1.cons (fun ax wx hS hG => ?_) (Steps1.cons (fun ax wx hS hG => ?_) (Steps1.cons (fun ax wx hS hG => ?_) (Steps1.cons (fun ax wx hS hG => ?_) (Steps1.cons (fun ax wx hS hG => ?_) (Steps1.cons (fun ax wx hS hG => ?_) (Steps1.cons (fun ax wx hS hG => ?_) (Steps1.cons (fun ax wx hS hG => ?_) (Steps1.cons (fun ax wx hS hG => ?_) (Steps1.cons (fun ax wx hS hG => ?_) (Steps1.cons (fun ax wx hS hG => ?_) (Steps1.cons (fun ax wx hS hG => ?_) (Steps1.cons (fun ax wx hS hG => ?_) (Steps1.cons (fun ax wx hS hG => ?_) (Steps1.cons (fun ax wx hS hG => ?_) (Steps1.cons (fun ax wx hS hG => ?_) (Steps1.cons (fun ax wx hS hG => ?_) (Steps1.cons (fun ax wx hS hG => ?_) (Steps1.cons (fun ax wx hS hG => ?_) Steps1.nil)))))))))))))))))))))))))))))))))))))))))))))))
      · have q4 := hG.old 4 (by kernel_rfl) (by kernel_rfl)
        obtain ⟨z0, z1, z2⟩ := HC4.out wx hS
        refine step_value (v := .agg #[.int .i64 x, .int .i64 y, .int .i64 z]) (w' := wx) rfl rfl ?_ (Below.refl _ _) (fun d hd => by cases hd; exact rfl)
        go_simp
      · obtain ⟨_, q60, rfl⟩ := hG.new 60 (by kernel_rfl) (by kernel_rfl)
        refine step_call (w1 := wx) (f := 17) (args := #[.agg #[.int .i64 x, .int .i64 y, .int .i64 z]]) rfl rfl ?_ ((HRT.out wx).mono ?_)
        · skip
          go_simp
        · rintro e w' ⟨rfl, hq⟩
          exact ⟨_, rfl, hq, fun d hd => by cases hd; exact rfl⟩
      · have q4 := hG.old 4 (by kernel_rfl) (by kernel_rfl)
        obtain ⟨z0, z1, z2⟩ := HC4.out wx hS
        refine step_value (v := .agg #[.int .i64 x, .int .i64 y, .int .i64 z]) (w' := wx) rfl rfl ?_ (Below.refl _ _) (fun d hd => by cases hd; exact rfl)
        go_simp
      · obtain ⟨_, q62, rfl⟩ := hG.new 62 (by kernel_rfl) (by kernel_rfl)
        refine step_call (w1 := wx) (f := 18) (args := #[.agg #[.int .i64 x, .int .i64 y, .int .i64 z]]) rfl rfl ?_ ((HRT2.out wx).mono ?_)
        · skip
          go_simp
        · rintro e w' ⟨rfl, hq⟩
          exact ⟨_, rfl, hq, fun d hd => by cases hd; exact rfl⟩
      · obtain ⟨_, q61, rfl⟩ := hG.new 61 (by kernel_rfl) (by kernel_rfl)
        obtain ⟨_, q63, rfl⟩ := hG.new 63 (by kernel_rfl) (by kernel_rfl)
        refine step_value (v := .bool true) (w' := wx) rfl rfl ?_ (Below.refl _ _) (fun d hd => by cases hd; exact rfl)
        go_simp
      · obtain ⟨_, q64, rfl⟩ := hG.new 64 (by kernel_rfl) (by kernel_rfl)
        refine step_value (v := .bool true) (w' := wx) rfl rfl ?_ (Below.refl _ _) (fun d hd => by cases hd; exact rfl)
        go_simp
      · have q8 := hG.old 8 (by kernel_rfl) (by kernel_rfl)
        obtain ⟨_, q65, rfl⟩ := hG.new 65 (by kernel_rfl) (by kernel_rfl)
        obtain ⟨z0, z1⟩ := HC8.out wx hS
        refine step_value (v := .agg #[.slice A3 n c3, .slice B3 m2 d3]) (w' := wx) rfl (by simp [Region.wanted, yielded, q65]) ?_ (Below.refl _ _) (fun d hd => by cases hd; exact rfl)
        go_simp
      · obtain ⟨_, q66, rfl⟩ := hG.new 66 (by kernel_rfl) (by kernel_rfl)
        obtain ⟨_, q65, rfl⟩ := hG.new 65 (by kernel_rfl) (by kernel_rfl)
        refine step_call (w1 := wx) (f := 8) (args := #[.agg #[.slice A3 n c3, .slice B3 m2 d3]]) rfl (by simp [Region.wanted, yielded, q65]) ?_ ((HREF.out wx hS).mono ?_)
        · skip
          go_simp
        · rintro e w' ⟨v', rfl, hv, hq⟩
          exact ⟨_, rfl, hq, fun d hd => by cases hd; exact hv⟩
      · have q10 := hG.old 10 (by kernel_rfl) (by kernel_rfl)
        obtain ⟨_, q65, rfl⟩ := hG.new 65 (by kernel_rfl) (by kernel_rfl)
        obtain ⟨z0, z1⟩ := HC10.out wx hS
        refine step_value (v := .agg #[.slice A5 n c5, .slice B5 m2 d5]) (w' := wx) rfl (by simp [Region.wanted, yielded, q65]) ?_ (Below.refl _ _) (fun d hd => by cases hd; exact rfl)
        go_simp
      · obtain ⟨v67, q67, h67⟩ := hG.new 67 (by kernel_rfl) (by kernel_rfl)
        have p67 : DV wx v67 S W2 := h67
        obtain ⟨_, q68, rfl⟩ := hG.new 68 (by kernel_rfl) (by kernel_rfl)
        obtain ⟨_, q65, rfl⟩ := hG.new 65 (by kernel_rfl) (by kernel_rfl)
        refine step_call (w1 := wx) (f := 19) (args := #[v67, .agg #[.slice A5 n c5, .slice B5 m2 d5]]) rfl (by simp [Region.wanted, yielded, q65]) ?_ ((HSAME.out wx hS v67 p67).mono ?_)
        · clear h67 p67
          go_simp
        · rintro e w' ⟨rfl, hq⟩
          exact ⟨_, rfl, hq, fun d hd => by cases hd; exact rfl⟩
      · obtain ⟨_, q65, rfl⟩ := hG.new 65 (by kernel_rfl) (by kernel_rfl)
        obtain ⟨_, q69, rfl⟩ := hG.new 69 (by kernel_rfl) (by kernel_rfl)
        refine step_value (v := .bool true) (w' := wx) rfl rfl ?_ (Below.refl _ _) (fun d hd => by cases hd; exact rfl)
        go_simp
      · obtain ⟨_, q70, rfl⟩ := hG.new 70 (by kernel_rfl) (by kernel_rfl)
        refine step_value (v := .bool true) (w' := wx) rfl rfl ?_ (Below.refl _ _) (fun d hd => by cases hd; exact rfl)
        go_simp
      · have q9 := hG.old 9 (by kernel_rfl) (by kernel_rfl)
        obtain ⟨_, q71, rfl⟩ := hG.new 71 (by kernel_rfl) (by kernel_rfl)
        refine step_value (v := .int .i64 E) (w' := wx) rfl (by simp [Region.wanted, yielded, q71]) ?_ (Below.refl _ _) (fun d hd => by cases hd; exact rfl)
        go_simp
      · have q11 := hG.old 11 (by kernel_rfl) (by kernel_rfl)
        obtain ⟨_, q71, rfl⟩ := hG.new 71 (by kernel_rfl) (by kernel_rfl)
        refine step_value (v := .int .i64 E) (w' := wx) rfl (by simp [Region.wanted, yielded, q71]) ?_ (Below.refl _ _) (fun d hd => by cases hd; exact rfl)
        go_simp
      · obtain ⟨_, q72, rfl⟩ := hG.new 72 (by kernel_rfl) (by kernel_rfl)
        obtain ⟨_, q73, rfl⟩ := hG.new 73 (by kernel_rfl) (by kernel_rfl)
        obtain ⟨_, q71, rfl⟩ := hG.new 71 (by kernel_rfl) (by kernel_rfl)
        refine step_value (v := .bool true) (w' := wx) rfl (by simp [Region.wanted, yielded, q71]) ?_ (Below.refl _ _) (fun d hd => by cases hd; exact rfl)
        go_simp
      · obtain ⟨_, q71, rfl⟩ := hG.new 71 (by kernel_rfl) (by kernel_rfl)
        obtain ⟨_, q74, rfl⟩ := hG.new 74 (by kernel_rfl) (by kernel_rfl)
        refine step_value (v := .bool true) (w' := wx) rfl rfl ?_ (Below.refl _ _) (fun d hd => by cases hd; exact rfl)
        go_simp
      · obtain ⟨_, q75, rfl⟩ := hG.new 75 (by kernel_rfl) (by kernel_rfl)
        refine step_value (v := .bool true) (w' := wx) rfl rfl ?_ (Below.refl _ _) (fun d hd => by cases hd; exact rfl)
        go_simp
      · have q12 := hG.old 12 (by kernel_rfl) (by kernel_rfl)
        obtain ⟨_, q76, rfl⟩ := hG.new 76 (by kernel_rfl) (by kernel_rfl)
        obtain ⟨z0, z1, z2⟩ := HC12.out wx hS
        refine step_value (v := .agg #[.int .i64 gx, .int .i64 gy, .int .i64 gz]) (w' := wx) rfl (by simp [Region.wanted, yielded, q76]) ?_ (Below.refl _ _) (fun d hd => by cases hd; exact rfl)
        go_simp
      · have q14 := hG.old 14 (by kernel_rfl) (by kernel_rfl)
        obtain ⟨_, q76, rfl⟩ := hG.new 76 (by kernel_rfl) (by kernel_rfl)
        obtain ⟨z0, z1, z2⟩ := HC14.out wx hS
        refine step_value (v := .agg #[.int .i64 gx, .int .i64 gy, .int .i64 gz]) (w' := wx) rfl (by simp [Region.wanted, yielded, q76]) ?_ (Below.refl _ _) (fun d hd => by cases hd; exact rfl)
        go_simp
      · obtain ⟨_, q77, rfl⟩ := hG.new 77 (by kernel_rfl) (by kernel_rfl)
        obtain ⟨_, q78, rfl⟩ := hG.new 78 (by kernel_rfl) (by kernel_rfl)
        obtain ⟨_, q76, rfl⟩ := hG.new 76 (by kernel_rfl) (by kernel_rfl)
        refine step_value (v := .bool true) (w' := wx) rfl (by simp [Region.wanted, yielded, q76]) ?_ (Below.refl _ _) (fun d hd => by cases hd; exact rfl)
        go_simp
      · obtain ⟨_, q76, rfl⟩ := hG.new 76 (by kernel_rfl) (by kernel_rfl)
        obtain ⟨_, q79, rfl⟩ := hG.new 79 (by kernel_rfl) (by kernel_rfl)
        refine step_value (v := .bool true) (w' := wx) rfl rfl ?_ (Below.refl _ _) (fun d hd => by cases hd; exact rfl)
        go_simp
      · obtain ⟨_, q80, rfl⟩ := hG.new 80 (by kernel_rfl) (by kernel_rfl)
        refine step_value (v := .bool true) (w' := wx) rfl rfl ?_ (Below.refl _ _) (fun d hd => by cases hd; exact rfl)
        go_simp
      · have q13 := hG.old 13 (by kernel_rfl) (by kernel_rfl)
        obtain ⟨_, q81, rfl⟩ := hG.new 81 (by kernel_rfl) (by kernel_rfl)
        refine step_value (v := .bool ba) (w' := wx) rfl (by simp [Region.wanted, yielded, q81]) ?_ (Below.refl _ _) (fun d hd => by cases hd; exact rfl)
        go_simp
      · have q15 := hG.old 15 (by kernel_rfl) (by kernel_rfl)
        obtain ⟨_, q81, rfl⟩ := hG.new 81 (by kernel_rfl) (by kernel_rfl)
        refine step_value (v := .bool ba) (w' := wx) rfl (by simp [Region.wanted, yielded, q81]) ?_ (Below.refl _ _) (fun d hd => by cases hd; exact rfl)
        go_simp
      · obtain ⟨_, q82, rfl⟩ := hG.new 82 (by kernel_rfl) (by kernel_rfl)
        obtain ⟨_, q83, rfl⟩ := hG.new 83 (by kernel_rfl) (by kernel_rfl)
        obtain ⟨_, q81, rfl⟩ := hG.new 81 (by kernel_rfl) (by kernel_rfl)
        refine step_value (v := .bool true) (w' := wx) rfl (by simp [Region.wanted, yielded, q81]) ?_ (Below.refl _ _) (fun d hd => by cases hd; exact rfl)
        go_simp
      · obtain ⟨_, q81, rfl⟩ := hG.new 81 (by kernel_rfl) (by kernel_rfl)
        obtain ⟨_, q84, rfl⟩ := hG.new 84 (by kernel_rfl) (by kernel_rfl)
        refine step_value (v := .bool true) (w' := wx) rfl rfl ?_ (Below.refl _ _) (fun d hd => by cases hd; exact rfl)
        go_simp
      · obtain ⟨_, q85, rfl⟩ := hG.new 85 (by kernel_rfl) (by kernel_rfl)
        refine step_value (v := .bool true) (w' := wx) rfl rfl ?_ (Below.refl _ _) (fun d hd => by cases hd; exact rfl)
        go_simp
      · have q16 := hG.old 16 (by kernel_rfl) (by kernel_rfl)
        obtain ⟨_, q86, rfl⟩ := hG.new 86 (by kernel_rfl) (by kernel_rfl)
        obtain ⟨z0, z1, z2⟩ := HC16.out wx hS
        refine step_value (v := .agg #[.int .i64 cx, .int .i64 cy, .int .i64 cz]) (w' := wx) rfl (by simp [Region.wanted, yielded, q86]) ?_ (Below.refl _ _) (fun d hd => by cases hd; exact rfl)
        go_simp
      · have q18 := hG.old 18 (by kernel_rfl) (by kernel_rfl)
        obtain ⟨_, q86, rfl⟩ := hG.new 86 (by kernel_rfl) (by kernel_rfl)
        obtain ⟨z0, z1, z2⟩ := HC18.out wx hS
        refine step_value (v := .agg #[.int .i64 cx, .int .i64 cy, .int .i64 cz]) (w' := wx) rfl (by simp [Region.wanted, yielded, q86]) ?_ (Below.refl _ _) (fun d hd => by cases hd; exact rfl)
        go_simp
      · obtain ⟨_, q87, rfl⟩ := hG.new 87 (by kernel_rfl) (by kernel_rfl)
        obtain ⟨_, q88, rfl⟩ := hG.new 88 (by kernel_rfl) (by kernel_rfl)
        obtain ⟨_, q86, rfl⟩ := hG.new 86 (by kernel_rfl) (by kernel_rfl)
        refine step_value (v := .bool true) (w' := wx) rfl (by simp [Region.wanted, yielded, q86]) ?_ (Below.refl _ _) (fun d hd => by cases hd; exact rfl)
        go_simp
      · obtain ⟨_, q86, rfl⟩ := hG.new 86 (by kernel_rfl) (by kernel_rfl)
        obtain ⟨_, q89, rfl⟩ := hG.new 89 (by kernel_rfl) (by kernel_rfl)
        refine step_value (v := .bool true) (w' := wx) rfl rfl ?_ (Below.refl _ _) (fun d hd => by cases hd; exact rfl)
        go_simp
      · obtain ⟨_, q90, rfl⟩ := hG.new 90 (by kernel_rfl) (by kernel_rfl)
        refine step_value (v := .bool true) (w' := wx) rfl rfl ?_ (Below.refl _ _) (fun d hd => by cases hd; exact rfl)
        go_simp
      · have q17 := hG.old 17 (by kernel_rfl) (by kernel_rfl)
        obtain ⟨_, q91, rfl⟩ := hG.new 91 (by kernel_rfl) (by kernel_rfl)
        refine step_value (v := .int .i64 3) (w' := wx) rfl (by simp [Region.wanted, yielded, q91]) ?_ (Below.refl _ _) (fun d hd => by cases hd; exact rfl)
        go_simp
      · obtain ⟨_, q92, rfl⟩ := hG.new 92 (by kernel_rfl) (by kernel_rfl)
        obtain ⟨_, q91, rfl⟩ := hG.new 91 (by kernel_rfl) (by kernel_rfl)
        refine step_value (v := .bool false) (w' := wx) rfl (by simp [Region.wanted, yielded, q91]) ?_ (Below.refl _ _) (fun d hd => by cases hd; exact rfl)
        go_simp
      · have q19 := hG.old 19 (by kernel_rfl) (by kernel_rfl)
        obtain ⟨_, q91, rfl⟩ := hG.new 91 (by kernel_rfl) (by kernel_rfl)
        refine step_value (v := .bool false) (w' := wx) rfl (by simp [Region.wanted, yielded, q91]) ?_ (Below.refl _ _) (fun d hd => by cases hd; exact rfl)
        go_simp
      · obtain ⟨_, q93, rfl⟩ := hG.new 93 (by kernel_rfl) (by kernel_rfl)
        obtain ⟨_, q94, rfl⟩ := hG.new 94 (by kernel_rfl) (by kernel_rfl)
        obtain ⟨_, q91, rfl⟩ := hG.new 91 (by kernel_rfl) (by kernel_rfl)
        refine step_value (v := .bool true) (w' := wx) rfl (by simp [Region.wanted, yielded, q91]) ?_ (Below.refl _ _) (fun d hd => by cases hd; exact rfl)
        go_simp
      · obtain ⟨_, q91, rfl⟩ := hG.new 91 (by kernel_rfl) (by kernel_rfl)
        obtain ⟨_, q95, rfl⟩ := hG.new 95 (by kernel_rfl) (by kernel_rfl)
        refine step_value (v := .bool true) (w' := wx) rfl rfl ?_ (Below.refl _ _) (fun d hd => by cases hd; exact rfl)
        go_simp
      · obtain ⟨_, q96, rfl⟩ := hG.new 96 (by kernel_rfl) (by kernel_rfl)
        refine step_value (v := .bool true) (w' := wx) rfl rfl ?_ (Below.refl _ _) (fun d hd => by cases hd; exact rfl)
        go_simp
      · have q19 := hG.old 19 (by kernel_rfl) (by kernel_rfl)
        obtain ⟨_, q97, rfl⟩ := hG.new 97 (by kernel_rfl) (by kernel_rfl)
        refine step_value (v := .bool false) (w' := wx) rfl (by simp [Region.wanted, yielded, q97]) ?_ (Below.refl _ _) (fun d hd => by cases hd; exact rfl)
        go_simp
      · obtain ⟨_, q98, rfl⟩ := hG.new 98 (by kernel_rfl) (by kernel_rfl)
        obtain ⟨_, q97, rfl⟩ := hG.new 97 (by kernel_rfl) (by kernel_rfl)
        refine step_value (v := .bool false) (w' := wx) rfl (by simp [Region.wanted, yielded, q97]) ?_ (Below.refl _ _) (fun d hd => by cases hd; exact rfl)
        go_simp
      · have q17 := hG.old 17 (by kernel_rfl) (by kernel_rfl)
        obtain ⟨_, q99, rfl⟩ := hG.new 99 (by kernel_rfl) (by kernel_rfl)
        refine step_value (v := .int .i64 3) (w' := wx) rfl (by simp [Region.wanted, yielded, q99]) ?_ (Below.refl _ _) (fun d hd => by cases hd; exact rfl)
        go_simp
      · obtain ⟨_, q100, rfl⟩ := hG.new 100 (by kernel_rfl) (by kernel_rfl)
        obtain ⟨_, q99, rfl⟩ := hG.new 99 (by kernel_rfl) (by kernel_rfl)
        refine step_value (v := .bool true) (w' := wx) rfl (by simp [Region.wanted, yielded, q99]) ?_ (Below.refl _ _) (fun d hd => by cases hd; exact rfl)
        go_simp
      · obtain ⟨_, q99, rfl⟩ := hG.new 99 (by kernel_rfl) (by kernel_rfl)
        obtain ⟨_, q101, rfl⟩ := hG.new 101 (by kernel_rfl) (by kernel_rfl)
        obtain ⟨_, q97, rfl⟩ := hG.new 97 (by kernel_rfl) (by kernel_rfl)
        refine step_value (v := .bool true) (w' := wx) rfl (by simp [Region.wanted, yielded, q97]) ?_ (Below.refl _ _) (fun d hd => by cases hd; exact rfl)
        go_simp
      · obtain ⟨_, q97, rfl⟩ := hG.new 97 (by kernel_rfl) (by kernel_rfl)
        obtain ⟨_, q102, rfl⟩ := hG.new 102 (by kernel_rfl) (by kernel_rfl)
        refine step_value (v := .bool true) (w' := wx) rfl rfl ?_ (Below.refl _ _) (fun d hd => by cases hd; exact rfl)
        go_simp
      · obtain ⟨_, q103, rfl⟩ := hG.new 103 (by kernel_rfl) (by kernel_rfl)
        refine step_value (v := .bool true) (w' := wx) rfl rfl ?_ (Below.refl _ _) (fun d hd => by cases hd; exact rfl)
        go_simp
      · obtain ⟨_, q104, rfl⟩ := hG.new 104 (by kernel_rfl) (by kernel_rfl)
        refine step_call (w1 := wx) (f := 10) (args := #[]) rfl (by simp [Region.wanted, yielded, q104]) ?_ ((awake_true wx).mono ?_)
        · skip
          go_simp
        · rintro e w' ⟨rfl, hq⟩
          exact ⟨_, rfl, hq, fun d hd => by cases hd; exact rfl⟩
      · obtain ⟨_, q104, rfl⟩ := hG.new 104 (by kernel_rfl) (by kernel_rfl)
        obtain ⟨_, q105, rfl⟩ := hG.new 105 (by kernel_rfl) (by kernel_rfl)
        refine step_value (v := .bool true) (w' := wx) rfl rfl ?_ (Below.refl _ _) (fun d hd => by cases hd; exact rfl)
        go_simp
      · obtain ⟨_, q106, rfl⟩ := hG.new 106 (by kernel_rfl) (by kernel_rfl)
        refine step_value (v := .bool true) (w' := wx) rfl rfl ?_ (Below.refl _ _) (fun d hd => by cases hd; exact rfl)
        go_simp
    intro f w5 hS5 hV5
    have e6 : f 6 = .bool true := hV5 6 (by decide)
    simp only [puts, Act.put, List.setIfInBounds_toArray, List.set_cons_succ, List.set_cons_zero]
    clear hV5
    rw [e6]
    go_wp2
    go_ret
    exact ⟨rfl, H.out.below.trans (hS5.mono H.out.below.size)⟩

end Go.Proofs.Ythcolmdfpciolaa
