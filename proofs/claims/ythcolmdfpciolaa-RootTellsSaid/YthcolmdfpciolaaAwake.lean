/- No root on a new disk; roots' blocks beside a disk's; the walk of 'awake', the fixed answer at each statement's end: it is true. -/
import Derived.Test.YthcolmdfpciolaaWWrite7
import Derived.Test.YthcolmdfpciolaaWBest
namespace Go.Proofs.Ythcolmdfpciolaa
open Go.RowKit

theorem zero_form : (formB zeroS.data.toList 1 && sumB zeroS.data.toList) = false := by decide +kernel
theorem zero_tell (n : Nat) (a : Int) : tellB (List.replicate n zeroS) [] a = false := by
  unfold tellB
  cases hh : hasB (List.replicate n zeroS).length a 1 with
  | false => simp
  | true =>
    unfold hasB at hh
    rw [List.length_replicate] at hh
    simp only [decide_eq_true_eq] at hh
    have e : readS (List.replicate n zeroS) [] a.toNat 1 = zeroS := by
      unfold readS
      rw [done_nil, List.drop_replicate, List.take_replicate, show min 1 (n - a.toNat) = 1 by omega]
      exact flat_one zeroS
    rw [e, zero_form, Bool.and_false]
theorem zero_none (n : Nat) (a : Int) : readB (List.replicate n zeroS) [] a = false := by unfold readB; rw [zero_tell]; rfl
theorem zero_root (n : Nat) (a : Int) : readR (List.replicate n zeroS) [] a = rt0 := readR_none (zero_none n a)
theorem zero_best (n : Nat) : bestB (List.replicate n zeroS) [] = false ∧ bestR (List.replicate n zeroS) [] = rt0 := by
  unfold bestB bestR
  rw [zero_none, zero_none, zero_root]
  exact ⟨rfl, rfl⟩

/-- A root's block is none of a disk. -/
theorem RBlk.apart {w : World} {gr g : Nat} {r : Rt} {A : Option Addr} {n c : Nat} {B : Option Addr} {m d : Nat} (h : RBlk w gr r) (hd : DBlk w g A n c B m d) : gr ≠ g := by
  rintro rfl
  have h1 := (RBlk.cells h).1
  rw [(DBlk.cells hd).1] at h1
  cases h1
theorem RBlk.beside {w : World} {gr g : Nat} {r : Rt} {A : Option Addr} {n c : Nat} {B : Option Addr} {m d : Nat} (h : RBlk w gr r) (hd : DBlk w g A n c B m d) (x y : Value) : RBlk ((w.setCell ⟨g, 0, none⟩ x).setCell ⟨g, 1, none⟩ y) gr r :=
  Box.away (Box.away h (h.apart hd) _) (h.apart hd) _

/-- A root that was written, to a disk that has its sector. -/
theorem rwrite_ok {v : Value} {S : List ByteArray} {W : List Wr} (r : Rt) {w : World} (h : DV w v S W) (hn : S.length ≤ 1000000) (hm : W.length ≤ 100000) (hok : rtOk S W r = true) :
    Calls Try.prog 11 #[v, r.v] w fun e w' => ∃ v', e = .returned (.tuple #[v', .int .i64 0]) ∧ DV w' v' S (W ++ rtW r) ∧ Below w.heap.size w w' := by
  have h1 := rwrite_any r h hn hm
  unfold wrE wrW at h1
  rw [hok] at h1
  exact h1

def awS : List ByteArray := List.replicate 2 zeroS
def aw7 : Rt := ⟨7, 5, 6⟩
def aw6 : Rt := ⟨6, 0, 0⟩
def awB : Rt := ⟨0, -1, 0⟩
def awW1 : List Wr := [] ++ rtW aw7
def awW2 : List Wr := awW1 ++ rtW aw6
theorem aw_ok1 : rtOk awS [] aw7 = true := by decide +kernel
theorem aw_ok2 : rtOk awS awW1 aw6 = true := by decide +kernel
theorem aw_bad : rtOk awS awW2 awB = false := by decide +kernel
theorem aw_l1 : awW1.length = 1 := by unfold awW1; rw [List.nil_append, rtW_len]
theorem aw_l2 : awW2.length = 2 := by unfold awW2; rw [List.length_append, aw_l1, rtW_len]
theorem aw_r1 : readB awS awW1 1 = true ∧ readR awS awW1 1 = aw7 := read_here aw_ok1
theorem aw_r0 : readB awS awW1 0 = false ∧ readR awS awW1 0 = rt0 := by
  have h := read_other aw_ok1 0 (by decide)
  unfold awW1
  rw [h.1, h.2]
  exact ⟨zero_none 2 0, zero_root 2 0⟩
theorem aw_best : bestR awS awW2 = aw7 ∧ bestE awS awW2 = 0 := by
  have h1 := read_other aw_ok2 1 (by decide)
  have h0 : readB awS awW2 0 = true ∧ readR awS awW2 0 = aw6 := read_here aw_ok2
  have e1 : readB awS awW2 1 = true ∧ readR awS awW2 1 = aw7 := ⟨h1.1.trans aw_r1.1, h1.2.trans aw_r1.2⟩
  unfold bestR bestE bestB
  rw [e1.1, e1.2, h0.1, h0.2]
  exact ⟨rfl, rfl⟩

theorem aw_new (w : World) : Calls Try.prog 20 #[.int .i64 2] w fun e w' => ∃ v', e = .returned (.tuple #[v', .int .i64 0]) ∧ DV w' v' awS [] ∧ Below w.heap.size w w' := new_ok 2 w (by decide) (by decide)
theorem aw_best0 {v : Value} {w : World} (h : DV w v awS []) :
    Calls Try.prog 15 #[v] w fun e w' => e = .returned (.tuple #[.agg #[.int .i64 0, .int .i64 0, .int .i64 0], .int .i64 3]) ∧ Below w.heap.size w w' := by
  have h1 := rbest_any h (by decide) (by decide)
  unfold bestE at h1
  rw [show bestB awS [] = false from (zero_best 2).1, show bestR awS [] = rt0 from (zero_best 2).2] at h1
  exact h1
theorem aw_write7 {v : Value} {w : World} (h : DV w v awS []) :
    Calls Try.prog 11 #[v, .agg #[.int .i64 7, .int .i64 5, .int .i64 6]] w fun e w' => ∃ v', e = .returned (.tuple #[v', .int .i64 0]) ∧ DV w' v' awS awW1 ∧ Below w.heap.size w w' :=
  rwrite_ok aw7 h (by decide) (by decide) aw_ok1
theorem aw_write6 {v : Value} {w : World} (h : DV w v awS awW1) :
    Calls Try.prog 11 #[v, .agg #[.int .i64 6, .int .i64 0, .int .i64 0]] w fun e w' => ∃ v', e = .returned (.tuple #[v', .int .i64 0]) ∧ DV w' v' awS awW2 ∧ Below w.heap.size w w' :=
  rwrite_ok aw6 h (by decide) (by rw [aw_l1]; decide) aw_ok2
theorem aw_writeB {v : Value} {w : World} (h : DV w v awS awW2) :
    Calls Try.prog 11 #[v, .agg #[.int .i64 0, .int .i64 (-1), .int .i64 0]] w fun e w' => (∃ A2 n2 c2 B2 m2 d2, e = .returned (.tuple #[.agg #[.slice A2 n2 c2, .slice B2 m2 d2], .int .i64 1])) ∧ Below w.heap.size w w' := by
  have h1 := rwrite_any awB h (by decide) (by rw [aw_l2]; decide)
  unfold wrE at h1
  rw [aw_bad] at h1
  refine h1.mono ?_
  rintro e w' ⟨v', he, ⟨A, c, B, d, rfl, _, _⟩, hb⟩
  exact ⟨⟨A, _, c, B, _, d, he⟩, hb⟩
theorem aw_read1 {v : Value} {w : World} (h : DV w v awS awW1) :
    Calls Try.prog 13 #[v, .int .i64 1] w fun e w' => e = .returned (.tuple #[.agg #[.int .i64 7, .int .i64 5, .int .i64 6], .bool true]) ∧ Below w.heap.size w w' := by
  have h1 := rread_any (a := 1) h (by decide) (by rw [aw_l1]; decide)
  rw [aw_r1.1, aw_r1.2] at h1
  exact h1
theorem aw_read0 {v : Value} {w : World} (h : DV w v awS awW1) :
    Calls Try.prog 13 #[v, .int .i64 0] w fun e w' => e = .returned (.tuple #[.agg #[.int .i64 0, .int .i64 0, .int .i64 0], .bool false]) ∧ Below w.heap.size w w' := by
  have h1 := rread_any (a := 0) h (by decide) (by rw [aw_l1]; decide)
  rw [aw_r0.1, aw_r0.2] at h1
  exact h1
theorem aw_best2 {v : Value} {w : World} (h : DV w v awS awW2) :
    Calls Try.prog 15 #[v] w fun e w' => e = .returned (.tuple #[.agg #[.int .i64 7, .int .i64 5, .int .i64 6], .int .i64 0]) ∧ Below w.heap.size w w' := by
  have h1 := rbest_any h (by decide) (by rw [aw_l2]; decide)
  rw [aw_best.1, aw_best.2] at h1
  exact h1
theorem aw_right (w : World) : Calls Try.prog 17 #[.agg #[.int .i64 7, .int .i64 5, .int .i64 6]] w fun e w' => e = .returned (.bool true) ∧ Below w.heap.size w w' := rright_any aw7 w

set_option maxHeartbeats 4000000 in
set_option maxRecDepth 100000 in
theorem awake_true (w : World) :
    Calls Try.prog 10 #[] w fun e w' => e = .returned (.bool true) ∧ Below w.heap.size w w' := by
  go_enter Try.func10, Try.ntmps10
  go_wp2_with fail
  refine (aw_new w).mono ?_
  rintro e w1 ⟨v1, rfl, hv1, hb1⟩
  obtain ⟨A, c, B, d, rfl, hA, hB⟩ := hv1
  have hv1 : DV w1 _ awS [] := ⟨A, c, B, d, rfl, hA, hB⟩
  rw [show awS.length = 2 from rfl, show ([] : List Wr).length = 0 from rfl] at hv1 ⊢
  have H1 := Lib.hid (Holds.fresh hv1 hb1)
  clear hv1 hb1 hA hB
  go_wp2_with fail
  refine (aw_best0 H1.out.dv).mono ?_
  rintro e w2 ⟨rfl, hb2⟩
  have hba := hb2.alloc hb2.size (.cells #[.int .i64 0, .int .i64 0, .int .i64 0] 27)
  have H2 := Lib.hid (H1.out.on hba)
  clear hb2 hba H1
  obtain ⟨k0, k1⟩ := DBlk.cells H2.out.blk
  have hz := Box.lt H2.out.blk
  have hw := aw_write7 H2.out.dv
  go_wp2_with fail
  refine hw.mono ?_
  clear hw k0 k1 hz
  rintro e w3 ⟨v3, rfl, ⟨A3, c3, B3, d3, rfl, hA3, hB3⟩, hb3⟩
  have hv3 : DV w3 _ awS awW1 := ⟨A3, c3, B3, d3, rfl, hA3, hB3⟩
  rw [show awS.length = 2 from rfl, aw_l1] at hv3 ⊢
  have H3 := Lib.hid (H2.out.on hb3)
  have H4 := Lib.hid (H3.out.put hv3)
  have f0 := Box.free H3.out.blk 0
  have f1 := Box.free H3.out.blk 1
  obtain ⟨k0, k1⟩ := DBlk.cells H3.out.blk
  have hz := Box.lt H3.out.blk
  clear hv3 hb3 hA3 hB3 H2
  have hr := aw_read1 H4.out.dv
  go_wp2_with fail
  refine hr.mono ?_
  clear hr f0 f1 k0 k1 hz
  rintro e w5 ⟨rfl, hb5⟩
  have hba := hb5.alloc hb5.size (.cells #[.int .i64 7, .int .i64 5, .int .i64 6] 27)
  have HR := Lib.hid (show RBlk (w5.alloc (.cells #[.int .i64 7, .int .i64 5, .int .i64 6] 27)) w5.heap.size aw7 from Box.fresh _ _ _)
  have H5 := Lib.hid (H4.out.on hba)
  clear hb5 hba H4 H3
  obtain ⟨k0, k1⟩ := DBlk.cells H5.out.blk
  have hz := Box.lt H5.out.blk
  have hr := aw_read0 H5.out.dv
  go_wp2_with fail
  refine hr.mono ?_
  clear hr k0 k1 hz
  rintro e w6 ⟨rfl, hb6⟩
  have hba := hb6.alloc hb6.size (.cells #[.int .i64 0, .int .i64 0, .int .i64 0] 27)
  have HR6 := Lib.hid (show RBlk (w6.alloc (.cells #[.int .i64 0, .int .i64 0, .int .i64 0] 27)) w5.heap.size aw7 from Box.on HR.out hba)
  have H6 := Lib.hid (H5.out.on hba)
  clear hb6 hba H5 HR
  obtain ⟨k0, k1⟩ := DBlk.cells H6.out.blk
  have hz := Box.lt H6.out.blk
  have hw := aw_write6 H6.out.dv
  go_wp2_with fail
  refine hw.mono ?_
  clear hw k0 k1 hz
  rintro e w7 ⟨v7, rfl, ⟨A7, c7, B7, d7, rfl, hA7, hB7⟩, hb7⟩
  have hv7 : DV w7 _ awS awW2 := ⟨A7, c7, B7, d7, rfl, hA7, hB7⟩
  rw [show awS.length = 2 from rfl, aw_l2] at hv7 ⊢
  have H7 := Lib.hid (H6.out.on hb7)
  have HR7 := Lib.hid (show RBlk w7 w5.heap.size aw7 from Box.on HR6.out hb7)
  have H8 := Lib.hid (H7.out.put hv7)
  have HR8 := Lib.hid (HR7.out.beside H7.out.blk (.slice A7 2 c7) (.slice B7 2 d7))
  have f0 := Box.free H7.out.blk 0
  have f1 := Box.free H7.out.blk 1
  obtain ⟨k0, k1⟩ := DBlk.cells H7.out.blk
  have hz := Box.lt H7.out.blk
  clear hv7 hb7 hA7 hB7 H6 HR6
  have hr := aw_best2 H8.out.dv
  go_wp2_with fail
  refine hr.mono ?_
  clear hr f0 f1 k0 k1 hz
  rintro e w9 ⟨rfl, hb9⟩
  have hba := hb9.alloc hb9.size (.cells #[.int .i64 7, .int .i64 5, .int .i64 6] 27)
  have HR9 := Lib.hid (show RBlk (w9.alloc (.cells #[.int .i64 7, .int .i64 5, .int .i64 6] 27)) w5.heap.size aw7 from Box.on HR8.out hba)
  have HQ9 := Lib.hid (show RBlk (w9.alloc (.cells #[.int .i64 7, .int .i64 5, .int .i64 6] 27)) w9.heap.size aw7 from Box.fresh _ _ _)
  have H9 := Lib.hid (H8.out.on hba)
  clear hb9 hba H8 HR8 H7 HR7
  obtain ⟨k0, k1⟩ := DBlk.cells H9.out.blk
  have hz := Box.lt H9.out.blk
  have hw := aw_writeB H9.out.dv
  go_wp2_with fail
  refine hw.mono ?_
  clear hw k0 k1 hz
  rintro e wa ⟨⟨Aa, na, ca, Ba, ma, da, rfl⟩, hba⟩
  have hbb := hba.alloc hba.size (.cells #[.slice Aa na ca, .slice Ba ma da] 25)
  have HRa := Lib.hid (show RBlk (wa.alloc (.cells #[.slice Aa na ca, .slice Ba ma da] 25)) w5.heap.size aw7 from Box.on HR9.out hbb)
  have HQa := Lib.hid (show RBlk (wa.alloc (.cells #[.slice Aa na ca, .slice Ba ma da] 25)) w9.heap.size aw7 from Box.on HQ9.out hbb)
  have HBa := Lib.hid (H9.out.below.trans (hbb.mono H9.out.below.size))
  clear hba hbb H9 HR9 HQ9
  obtain ⟨r0, r1, r2⟩ := RBlk.cells HRa.out
  obtain ⟨q0, q1, q2⟩ := RBlk.cells HQa.out
  have hz1 := Box.lt HRa.out
  have hz2 := Box.lt HQa.out
  simp only [aw7] at r0 r1 r2 q0 q1 q2
  go_wp2_with fail
  refine (aw_right _).mono ?_
  rintro e wb ⟨rfl, hbb⟩
  go_wp2
  go_ret
  exact ⟨rfl, HBa.out.trans (hbb.mono HBa.out.size)⟩

end Go.Proofs.Ythcolmdfpciolaa
