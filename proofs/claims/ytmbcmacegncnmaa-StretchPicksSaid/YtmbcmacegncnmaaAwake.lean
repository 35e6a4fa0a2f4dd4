/- The walk of 'awake', the fixed answer at each statement's end: it is true. -/
import Derived.Test.YtmbcmacegncnmaaRngs
namespace Go.Proofs.Ytmbcmacegncnmaa
open Go.RowKit

theorem rngs_two (w : World) (t : TypeId) (a b : Rng) : Rngs (w.alloc (.cells #[.string a.lo, .string a.hi, .bool a.op, .string b.lo, .string b.hi, .bool b.op] t)) (w.heap.size + 1) (some ⟨w.heap.size, 0, none⟩) [a, b] :=
  Lies.lit Rng.cells3 rfl

theorem meet_two (lo hi lo2 hi2 : ByteArray) (op op2 : Bool) (w : World) (g : Nat) (hg : g = w.heap.size) :
    Calls Try.prog 11 #[.slice (some ⟨g, 0, none⟩) 2 2] (w.alloc (.cells #[.string lo, .string hi, .bool op, .string lo2, .string hi2, .bool op2] 25)) fun e w' =>
      e = .returned (meetL [⟨lo, hi, op⟩, ⟨lo2, hi2, op2⟩]).v ∧ Below w.heap.size w w' := by
  subst hg
  have h := meet_any (some ⟨w.heap.size, 0, none⟩) 2 [⟨lo, hi, op⟩, ⟨lo2, hi2, op2⟩] (w.alloc (.cells #[.string lo, .string hi, .bool op, .string lo2, .string hi2, .bool op2] 25)) (by simpa using rngs_two w _ ⟨lo, hi, op⟩ ⟨lo2, hi2, op2⟩) (by simp [maxLen])
  refine h.mono fun e w' ⟨he, hb⟩ => ⟨he, below1 hb⟩

def kA : ByteArray := ⟨#[97]⟩
def kC : ByteArray := ⟨#[99]⟩
theorem aw_meet : meetL [⟨kA, noS, true⟩, ⟨noS, kC, false⟩] = ⟨kA, kC, false⟩ := by decide +kernel
theorem aw_in1 : inB ⟨kA, kC, false⟩ ⟨#[98, 122]⟩ = true := by decide +kernel
theorem aw_in2 : inB ⟨kA, kC, false⟩ ⟨#[99]⟩ = false := by decide +kernel
theorem aw_w1 : withinB ⟨kA, kC, false⟩ ⟨kA, noS, true⟩ = true := by decide +kernel
theorem aw_w2 : withinB ⟨kA, noS, true⟩ ⟨kA, kC, false⟩ = false := by decide +kernel
theorem aw_e : emptyB ⟨noS, noS, false⟩ = true := by decide +kernel
theorem aw_b : Lib.maxS kA (nextS ⟨#[98]⟩) = ⟨#[98, 0]⟩ := by decide +kernel

theorem cells_of {w w' : World} {g : Nat} {r : Rng} (h : RBlk w g r) (hb : Below w.heap.size w w') : RBlk w' g r := RBlk.below h hb (Box.lt h)

set_option maxHeartbeats 1000000 in
set_option maxRecDepth 100000 in
theorem awake_true (w : World) :
    Calls Try.prog 8 #[] w fun e w' => e = .returned (.bool true) ∧ Below w.heap.size w w' := by
  go_enter Try.func8, Try.ntmps8
  go_wp2_with fail
  have h0 := meet_two ⟨#[97]⟩ ⟨#[]⟩ ⟨#[]⟩ ⟨#[99]⟩ true false ((w.alloc (.cells #[.string ⟨#[97]⟩, .string ⟨#[]⟩, .bool true] 25)).alloc (.cells #[.string ⟨#[]⟩, .string ⟨#[99]⟩, .bool false] 25)) (w.heap.size + 1 + 1) (by simp)
  refine h0.mono ?_
  clear h0
  rintro e w1 ⟨rfl, hb1⟩
  rw [show meetL [⟨⟨#[97]⟩, ⟨#[]⟩, true⟩, ⟨⟨#[]⟩, ⟨#[99]⟩, false⟩] = ⟨kA, kC, false⟩ from aw_meet]
  have R1 : RBlk w1 w.heap.size ⟨kA, noS, true⟩ := RBlk.below (Box.push (Box.fresh w _ _) _) hb1 (by simp; omega)
  have hb01 : Below w.heap.size w w1 := below2 hb1
  have hz1 := Box.lt R1
  obtain ⟨x1, x2, x3⟩ := RBlk.cells R1
  have HR1 := Lib.hid R1
  clear R1 hb1
  unfold Rng.v kA kC
  unfold kA noS at x1 x2 x3
  go_wp2_with fail
  refine (in_any ⟨#[97]⟩ ⟨#[99]⟩ ⟨#[98, 122]⟩ false _).mono ?_
  rintro e w2 ⟨rfl, hb2⟩
  rw [show inB ⟨⟨#[97]⟩, ⟨#[99]⟩, false⟩ ⟨#[98, 122]⟩ = true from aw_in1]
  have HM2 := Lib.hid (show RBlk w2 w1.heap.size ⟨kA, kC, false⟩ from cells_of (Box.fresh w1 _ _) hb2)
  have HR2 := Lib.hid (show RBlk w2 w.heap.size ⟨kA, noS, true⟩ from cells_of (Box.push HR1.out _) hb2)
  have hb02 : Below w.heap.size w w2 := (hb01.alloc hb01.size _).trans (hb2.mono (by have := hb01.size; simp; omega))
  clear x1 x2 x3 hb2 hb01
  obtain ⟨x1, x2, x3⟩ := RBlk.cells HR2.out
  obtain ⟨y1, y2, y3⟩ := RBlk.cells HM2.out
  unfold kA noS at x1 x2 x3
  unfold kA kC at y1 y2 y3
  simp only at x1 x2 x3 y1 y2 y3
  go_wp2_with fail
  refine (in_any ⟨#[97]⟩ ⟨#[99]⟩ ⟨#[99]⟩ false _).mono ?_
  rintro e w3 ⟨rfl, hb3⟩
  rw [show inB ⟨⟨#[97]⟩, ⟨#[99]⟩, false⟩ ⟨#[99]⟩ = false from aw_in2]
  have HM3 := Lib.hid (cells_of HM2.out hb3)
  have HR3 := Lib.hid (cells_of HR2.out hb3)
  have hb03 : Below w.heap.size w w3 := hb02.trans (hb3.mono hb02.size)
  clear x1 x2 x3 hb3 hb02 y1 y2 y3
  obtain ⟨x1, x2, x3⟩ := RBlk.cells HR3.out
  obtain ⟨y1, y2, y3⟩ := RBlk.cells HM3.out
  unfold kA noS at x1 x2 x3
  unfold kA kC at y1 y2 y3
  simp only at x1 x2 x3 y1 y2 y3
  go_wp2_with fail
  refine (within_any ⟨#[97]⟩ ⟨#[99]⟩ ⟨#[97]⟩ ⟨#[]⟩ false true _).mono ?_
  rintro e w4 ⟨rfl, hb4⟩
  rw [show withinB ⟨⟨#[97]⟩, ⟨#[99]⟩, false⟩ ⟨⟨#[97]⟩, ⟨#[]⟩, true⟩ = true from aw_w1]
  have HM4 := Lib.hid (cells_of HM3.out hb4)
  have HR4 := Lib.hid (cells_of HR3.out hb4)
  have hb04 : Below w.heap.size w w4 := hb03.trans (hb4.mono hb03.size)
  clear x1 x2 x3 hb4 hb03 y1 y2 y3
  obtain ⟨x1, x2, x3⟩ := RBlk.cells HR4.out
  obtain ⟨y1, y2, y3⟩ := RBlk.cells HM4.out
  unfold kA noS at x1 x2 x3
  unfold kA kC at y1 y2 y3
  simp only at x1 x2 x3 y1 y2 y3
  go_wp2_with fail
  refine (within_any ⟨#[97]⟩ ⟨#[]⟩ ⟨#[97]⟩ ⟨#[99]⟩ true false _).mono ?_
  rintro e w5 ⟨rfl, hb5⟩
  rw [show withinB ⟨⟨#[97]⟩, ⟨#[]⟩, true⟩ ⟨⟨#[97]⟩, ⟨#[99]⟩, false⟩ = false from aw_w2]
  have HM5 := Lib.hid (cells_of HM4.out hb5)
  have HR5 := Lib.hid (cells_of HR4.out hb5)
  have hb05 : Below w.heap.size w w5 := hb04.trans (hb5.mono hb04.size)
  clear x1 x2 x3 hb5 hb04 y1 y2 y3
  obtain ⟨x1, x2, x3⟩ := RBlk.cells HR5.out
  obtain ⟨y1, y2, y3⟩ := RBlk.cells HM5.out
  unfold kA noS at x1 x2 x3
  unfold kA kC at y1 y2 y3
  simp only at x1 x2 x3 y1 y2 y3
  go_wp2_with fail
  refine (empty_any ⟨#[]⟩ ⟨#[]⟩ false _).mono ?_
  rintro e w6 ⟨rfl, hb6⟩
  rw [show emptyB ⟨⟨#[]⟩, ⟨#[]⟩, false⟩ = true from aw_e]
  have HM6 := Lib.hid (cells_of HM5.out hb6)
  have HR6 := Lib.hid (cells_of HR5.out hb6)
  have hb06 : Below w.heap.size w w6 := hb05.trans (hb6.mono hb05.size)
  clear x1 x2 x3 hb6 hb05 y1 y2 y3
  obtain ⟨x1, x2, x3⟩ := RBlk.cells HR6.out
  obtain ⟨y1, y2, y3⟩ := RBlk.cells HM6.out
  unfold kA noS at x1 x2 x3
  unfold kA kC at y1 y2 y3
  simp only at x1 x2 x3 y1 y2 y3
  go_wp2_with fail
  refine (right_any ⟨#[97]⟩ ⟨#[]⟩ _ (by decide) rfl).mono ?_
  rintro e w7 ⟨rfl, hb7⟩
  have HM7 := Lib.hid (cells_of HM6.out hb7)
  have HR7 := Lib.hid (cells_of HR6.out hb7)
  have hb07 : Below w.heap.size w w7 := hb06.trans (hb7.mono hb06.size)
  clear x1 x2 x3 hb7 hb06 y1 y2 y3
  obtain ⟨x1, x2, x3⟩ := RBlk.cells HR7.out
  obtain ⟨y1, y2, y3⟩ := RBlk.cells HM7.out
  unfold kA noS at x1 x2 x3
  unfold kA kC at y1 y2 y3
  simp only at x1 x2 x3 y1 y2 y3
  go_wp2_with fail
  refine (behind_any ⟨#[97]⟩ ⟨#[99]⟩ ⟨#[98]⟩ false _ (by decide)).mono ?_
  rintro e w8 ⟨rfl, hb8⟩
  rw [show Lib.maxS ⟨#[97]⟩ (nextS ⟨#[98]⟩) = ⟨#[98, 0]⟩ from aw_b]
  have HM8 := Lib.hid (cells_of HM7.out hb8)
  have HR8 := Lib.hid (cells_of HR7.out hb8)
  have hb08 : Below w.heap.size w w8 := hb07.trans (hb8.mono hb07.size)
  clear x1 x2 x3 hb8 hb07 y1 y2 y3
  obtain ⟨x1, x2, x3⟩ := RBlk.cells HR8.out
  obtain ⟨y1, y2, y3⟩ := RBlk.cells HM8.out
  unfold kA noS at x1 x2 x3
  unfold kA kC at y1 y2 y3
  simp only at x1 x2 x3 y1 y2 y3
  have hfd : ∀ w : World, (Instr.field 25 (.agg #[.string ⟨#[98, 0]⟩, .string ⟨#[99]⟩, .bool false]) 0).run Try.prog w = .ok (.string ⟨#[98, 0]⟩) w := fun _ => by kernel_rfl
  go_wp2
  go_ret
  exact ⟨rfl, hb08⟩

end Go.Proofs.Ytmbcmacegncnmaa
