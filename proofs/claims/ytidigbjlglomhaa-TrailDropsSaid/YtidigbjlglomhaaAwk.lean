/- The walk of awake. -/
import Derived.Test.YtidigbjlglomhaaWNewest
set_option linter.unusedVariables false
set_option linter.unusedSimpArgs false
namespace Go.Proofs.Ytidigbjlglomhaa
open Go.RowKit

def aB : ByteArray := ⟨#[97]⟩
def bB : ByteArray := ⟨#[98]⟩
def aw1 : Ch := ⟨2, aB, false, noB, true, noB⟩
def aw2 : Ch := ⟨3, bB, false, noB, true, noB⟩
def aw3 : Ch := ⟨7, aB, true, noB, false, noB⟩
def awL : List Ch := [aw1, aw2, aw3]
def awZ : Ch := ⟨1, noB, false, noB, false, noB⟩
theorem aw_n : newestL awL 7 = [aw2, aw3] := by kernel_rfl
theorem aw_s : sinceL awL 2 9 [⟨noB, bB, false⟩] = [aw3] := by kernel_rfl
theorem aw_d : dropL awL 2 = [aw2, aw3] := by kernel_rfl
theorem aw_l : lastL awL = 7 := by kernel_rfl
theorem aw_r : trailB awL = true := by kernel_rfl
theorem aw_z : trailB [awZ] = false := by kernel_rfl
theorem aw_o : sinceL awL 0 1 [] = [aw1] := by kernel_rfl
theorem CV.head {w : World} {v : Value} {x : Ch} {l : List Ch} {n : Nat} (h : CV w v (x :: l)) (hn : l.length + 1 = n) : ∃ (ad : Addr) (c : Nat), v = .slice (some ad) n c ∧ w.cell? ad = some (.int .i64 x.seq) ∧ w.cell? ⟨ad.block, ad.off + 1, none⟩ = some (.string x.key) := by
  subst hn
  obtain ⟨A, c, rfl, hA, _⟩ := h
  obtain ⟨ad, rfl, hb, hc⟩ := hA.seeC (by simp)
  obtain ⟨h0, h1, _⟩ := hc 0 (by simp)
  simp only [List.getElem_cons_zero, Nat.zero_mul, Addr.add_zero'] at h0 h1
  exact ⟨ad, c, rfl, h0, h1⟩

set_option maxRecDepth 100000 in
set_option maxHeartbeats 8000000 in
theorem awake_true (w : World) : Calls Try.prog 10 #[] w fun e w' => e = .returned (.bool true) ∧ Below w.heap.size w w' := by
  obtain ⟨w1, hw1⟩ : ∃ q, q = w.alloc (.cells #[.int .i64 2, .string ⟨#[97]⟩, .bool false, .string ⟨#[]⟩, .bool true, .string ⟨#[]⟩, .int .i64 3, .string ⟨#[98]⟩, .bool false, .string ⟨#[]⟩, .bool true, .string ⟨#[]⟩, .int .i64 7, .string ⟨#[97]⟩, .bool true, .string ⟨#[]⟩, .bool false, .string ⟨#[]⟩] 30) := ⟨_, rfl⟩
  obtain ⟨g, hg⟩ : ∃ q, q = w.heap.size := ⟨_, rfl⟩
  have VL1 := Lib.hid (show CV w1 (.slice (some ⟨g, 0, none⟩) 3 3) awL from by rw [hw1]; exact CV.lit hg rfl rfl)
  have HB1 := Lib.hid (show Below w.heap.size w w1 from by rw [hw1]; exact (Below.refl _ _).alloc (Nat.le_refl _) _)
  go_enter Try.func10, Try.ntmps10
  go_upto_region 2 with fail
  rw [← hg, ← hw1]
  clear hw1 hg
  have hk := newest_v 7 VL1.out (by decide)
  rw [aw_n] at hk
  go_wp2_with fail
  refine (hk).mono ?_
  rintro e w2 ⟨vn, rfl, hp, hb⟩
  have VN2 := Lib.hid hp
  clear hp
  have HB2 := Lib.hid (HB1.out.trans (hb.mono HB1.out.size))
  have VL2 := Lib.hid (VL1.out.on hb)
  clear hb HB1 VL1 hk
  go_upto_region 3 with fail
  obtain ⟨wr, hwr⟩ : ∃ q, q = w2.alloc (.cells #[.string ⟨#[]⟩, .string ⟨#[98]⟩, .bool false] 35) := ⟨_, rfl⟩
  obtain ⟨gr, hgr⟩ : ∃ q, q = w2.heap.size := ⟨_, rfl⟩
  have hb : Below w2.heap.size w2 wr := by rw [hwr]; exact (Below.refl _ _).alloc (Nat.le_refl _) _
  have VRr := Lib.hid (show RgV wr (.slice (some ⟨gr, 0, none⟩) 1 1) [⟨noB, bB, false⟩] from by rw [hwr]; exact RgV.lit hgr rfl rfl)
  have HBr := Lib.hid (HB2.out.trans (hb.mono HB2.out.size))
  have VLr := Lib.hid (VL2.out.on hb)
  have VNr := Lib.hid (VN2.out.on hb)
  clear hb HB2 VL2 VN2 
  have hk := since_v 2 9 VLr.out VRr.out (by decide) (by decide)
  rw [aw_s] at hk
  go_wp2_with fail
  rw [← hgr, ← hwr]
  clear hgr hwr
  refine hk.mono ?_
  clear hk
  rintro e w3 ⟨vs, rfl, hp, hb⟩
  have VS3 := Lib.hid hp
  clear hp
  have HB3 := Lib.hid (HBr.out.trans (hb.mono HBr.out.size))
  have VL3 := Lib.hid (VLr.out.on hb)
  have VN3 := Lib.hid (VNr.out.on hb)
  have VR3 := Lib.hid (VRr.out.on hb)
  clear hb HBr VLr VNr VRr 
  clear VR3
  have hk := drop_v 2 VL3.out (by decide)
  rw [aw_d] at hk
  go_wp2_with fail
  refine (hk).mono ?_
  rintro e w4 ⟨vd, rfl, hp, hb⟩
  have VD4 := Lib.hid hp
  clear hp
  have HB4 := Lib.hid (HB3.out.trans (hb.mono HB3.out.size))
  have VL4 := Lib.hid (VL3.out.on hb)
  have VN4 := Lib.hid (VN3.out.on hb)
  have VS4 := Lib.hid (VS3.out.on hb)
  clear hb HB3 VL3 VN3 VS3 hk
  obtain ⟨an, cn, rfl, n0, n1⟩ := VN4.out.head (n := 2) rfl
  obtain ⟨as7, cs, rfl, s0, s1⟩ := VS4.out.head (n := 1) rfl
  obtain ⟨ad, cd, rfl, _, _⟩ := VD4.out.head (n := 2) rfl
  simp only [aw2, bB] at n1
  simp only [aw3] at s0
  have hk := last_v VL4.out (by decide)
  rw [aw_l] at hk
  clear n0 s1
  go_wp2_with fail
  refine (hk).mono ?_
  rintro e w5 ⟨rfl, hb⟩
  have HB5 := Lib.hid (HB4.out.trans (hb.mono HB4.out.size))
  have VL5 := Lib.hid (VL4.out.on hb)
  have VN5 := Lib.hid (VN4.out.on hb)
  have VS5 := Lib.hid (VS4.out.on hb)
  have VD5 := Lib.hid (VD4.out.on hb)
  clear hb HB4 VL4 VN4 VS4 VD4 hk n1 s0
  have hk := right_v VL5.out (by decide)
  rw [aw_r] at hk
  go_wp2_with fail
  refine (hk).mono ?_
  rintro e w6 ⟨rfl, hb⟩
  have HB6 := Lib.hid (HB5.out.trans (hb.mono HB5.out.size))
  have VL6 := Lib.hid (VL5.out.on hb)
  have VN6 := Lib.hid (VN5.out.on hb)
  have VS6 := Lib.hid (VS5.out.on hb)
  have VD6 := Lib.hid (VD5.out.on hb)
  clear hb HB5 VL5 VN5 VS5 VD5 hk
  obtain ⟨wz, hwz⟩ : ∃ q, q = w6.alloc (.cells #[.int .i64 1, .string ⟨#[]⟩, .bool false, .string ⟨#[]⟩, .bool false, .string ⟨#[]⟩] 30) := ⟨_, rfl⟩
  obtain ⟨gz, hgz⟩ : ∃ q, q = w6.heap.size := ⟨_, rfl⟩
  have hb : Below w6.heap.size w6 wz := by rw [hwz]; exact (Below.refl _ _).alloc (Nat.le_refl _) _
  have VZz := Lib.hid (show CV wz (.slice (some ⟨gz, 0, none⟩) 1 1) [awZ] from by rw [hwz]; exact CV.lit hgz rfl rfl)
  have HBz := Lib.hid (HB6.out.trans (hb.mono HB6.out.size))
  have VLz := Lib.hid (VL6.out.on hb)
  have VNz := Lib.hid (VN6.out.on hb)
  have VSz := Lib.hid (VS6.out.on hb)
  have VDz := Lib.hid (VD6.out.on hb)
  clear hb HB6 VL6 VN6 VS6 VD6 
  have hk := right_v VZz.out (by decide)
  rw [aw_z] at hk
  go_wp2_with fail
  rw [← hgz, ← hwz]
  clear hgz hwz
  refine hk.mono ?_
  clear hk
  rintro e w7 ⟨rfl, hb⟩
  have HB7 := Lib.hid (HBz.out.trans (hb.mono HBz.out.size))
  have VL7 := Lib.hid (VLz.out.on hb)
  have VN7 := Lib.hid (VNz.out.on hb)
  have VS7 := Lib.hid (VSz.out.on hb)
  have VD7 := Lib.hid (VDz.out.on hb)
  have VZ7 := Lib.hid (VZz.out.on hb)
  clear hb HBz VLz VNz VSz VDz VZz 
  clear VZ7
  have hk := since_v 0 1 VL7.out (RgV.nil _) (by decide) (by decide)
  rw [aw_o] at hk
  go_wp2_with fail
  refine (hk).mono ?_
  rintro e w8 ⟨vo, rfl, hp, hb⟩
  have VO8 := Lib.hid hp
  clear hp
  have HB8 := Lib.hid (HB7.out.trans (hb.mono HB7.out.size))
  have VL8 := Lib.hid (VL7.out.on hb)
  have VN8 := Lib.hid (VN7.out.on hb)
  have VS8 := Lib.hid (VS7.out.on hb)
  have VD8 := Lib.hid (VD7.out.on hb)
  clear hb HB7 VL7 VN7 VS7 VD7 hk
  obtain ⟨ao, co, rfl, _, _⟩ := VO8.out.head (n := 1) rfl
  go_wp2
  go_ret
  exact ⟨rfl, HB8.out⟩

end Go.Proofs.Ytidigbjlglomhaa
