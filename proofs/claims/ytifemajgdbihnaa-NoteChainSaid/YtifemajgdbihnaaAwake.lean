/- The walk of 'awake', the fixed answer at each statement's end: it is true. -/
import Derived.Test.YtifemajgdbihnaaWBoth
namespace Go.Proofs.Ytifemajgdbihnaa
open Go.RowKit

def kK : ByteArray := ⟨#[107]⟩
def v2 : ByteArray := ⟨#[0, 0, 0, 0, 0, 0, 0, 2]⟩
def v7 : ByteArray := ⟨#[0, 0, 0, 0, 0, 0, 0, 7]⟩
theorem aw_d1 : doneL ⟨#[120]⟩ true [⟨3, noB, noB, 5⟩, ⟨3, noB, noB, 18446744073709551613⟩] = (v2, true) := by decide +kernel
theorem aw_d2 : doneL ⟨#[120]⟩ true [⟨2, noB, noB, 0⟩] = (noB, false) := by decide +kernel
theorem aw_b : bothN ⟨2, kK, noB, 0⟩ ⟨3, kK, noB, 7⟩ = ⟨1, kK, v7, 0⟩ := by decide +kernel
theorem aw_r : rightN ⟨1, kK, v7, 0⟩ = true := by decide +kernel
theorem aw_n7 : numB v7 = 7 := by decide +kernel
theorem aw_n : numB ⟨#[55]⟩ = 0 := by decide +kernel

theorem aw_done1 (w : World) (g : Nat) (hg : g = w.heap.size) :
    Calls Try.prog 10 #[.string ⟨#[120]⟩, .bool true, .slice (some ⟨g, 0, none⟩) 2 2] (w.alloc (.cells #[.int .i64 3, .string ⟨#[]⟩, .string ⟨#[]⟩, .int .u64 5, .int .i64 3, .string ⟨#[]⟩, .string ⟨#[]⟩, .int .u64 18446744073709551613] 24))
      fun e w' => e = .returned (.tuple #[.string ⟨#[0, 0, 0, 0, 0, 0, 0, 2]⟩, .bool true]) ∧ Below w.heap.size w w' := by
  have h := done_lit2 ⟨#[120]⟩ true ⟨3, noB, noB, 5⟩ ⟨3, noB, noB, 18446744073709551613⟩ w g hg
  rw [aw_d1] at h
  exact h
theorem aw_done2 (w : World) (g : Nat) (hg : g = w.heap.size) :
    Calls Try.prog 10 #[.string ⟨#[120]⟩, .bool true, .slice (some ⟨g, 0, none⟩) 1 1] (w.alloc (.cells #[.int .i64 2, .string ⟨#[]⟩, .string ⟨#[]⟩, .int .u64 0] 24))
      fun e w' => e = .returned (.tuple #[.string ⟨#[]⟩, .bool false]) ∧ Below w.heap.size w w' := by
  have h := done_lit1 ⟨#[120]⟩ true ⟨2, noB, noB, 0⟩ w g hg
  rw [aw_d2] at h
  exact h
theorem aw_both (w : World) :
    Calls Try.prog 11 #[.agg #[.int .i64 2, .string ⟨#[107]⟩, .string ⟨#[]⟩, .int .u64 0], .agg #[.int .i64 3, .string ⟨#[107]⟩, .string ⟨#[]⟩, .int .u64 7]] w
      fun e w' => e = .returned (.agg #[.int .i64 1, .string ⟨#[107]⟩, .string ⟨#[0, 0, 0, 0, 0, 0, 0, 7]⟩, .int .u64 0]) ∧ Below w.heap.size w w' := by
  have h := both_any 2 kK noB 0 3 kK noB 7 w
  rw [aw_b] at h
  exact h
theorem aw_right (w : World) : Calls Try.prog 12 #[.agg #[.int .i64 1, .string ⟨#[107]⟩, .string ⟨#[0, 0, 0, 0, 0, 0, 0, 7]⟩, .int .u64 0]] w fun e w' => e = .returned (.bool true) ∧ Below w.heap.size w w' := by
  have h := right_any 1 kK v7 0 w
  rw [aw_r] at h
  exact h
theorem aw_num7 (w : World) : Calls Try.prog 13 #[.string ⟨#[0, 0, 0, 0, 0, 0, 0, 7]⟩] w fun e w' => e = .returned (.int .u64 7) ∧ Below w.heap.size w w' := by
  have h := number_any v7 w
  rw [aw_n7] at h
  exact h
theorem aw_num (w : World) : Calls Try.prog 13 #[.string ⟨#[55]⟩] w fun e w' => e = .returned (.int .u64 0) ∧ Below w.heap.size w w' := by
  have h := number_any ⟨#[55]⟩ w
  rw [aw_n] at h
  exact h

/-- The block of the note that awake looks at. -/
def AwN : Nt := ⟨1, kK, v7, 0⟩
theorem aw_cells {w : World} {g : Nat} (h : NBlk w g AwN) : w.cell? ⟨g, 0, none⟩ = some (.int .i64 1) ∧ w.cell? ⟨g, 1, none⟩ = some (.string ⟨#[107]⟩) ∧ w.cell? ⟨g, 2, none⟩ = some (.string ⟨#[0, 0, 0, 0, 0, 0, 0, 7]⟩) ∧ w.cell? ⟨g, 3, none⟩ = some (.int .u64 0) := NBlk.cells h
theorem aw_fresh (w : World) : NBlk (w.alloc (.cells #[.int .i64 1, .string ⟨#[107]⟩, .string ⟨#[0, 0, 0, 0, 0, 0, 0, 7]⟩, .int .u64 0] 24)) w.heap.size AwN := Box.fresh w _ _

set_option maxHeartbeats 2000000 in
set_option maxRecDepth 100000 in
theorem awake_true (w : World) :
    Calls Try.prog 9 #[] w fun e w' => e = .returned (.bool true) ∧ Below w.heap.size w w' := by
  go_enter Try.func9, Try.ntmps9
  go_wp2_with fail
  refine (aw_done1 w _ rfl).mono ?_
  rintro e w1 ⟨rfl, hb1⟩
  go_wp2_with fail
  refine (aw_done2 w1 _ rfl).mono ?_
  rintro e w2 ⟨rfl, hb2⟩
  have hb02 : Below w.heap.size w w2 := hb1.trans (hb2.mono hb1.size)
  clear hb1 hb2
  go_wp2_with fail
  refine (aw_both _).mono ?_
  rintro e w3 ⟨rfl, hb3⟩
  have hb03 : Below w.heap.size w w3 := hb02.trans (hb3.mono hb02.size)
  clear hb02 hb3
  go_wp2_with fail
  refine (aw_right _).mono ?_
  rintro e w4 ⟨rfl, hb4⟩
  have n4 : NBlk w4 w3.heap.size AwN := NBlk.on (aw_fresh w3) hb4
  have hb04 : Below w.heap.size w w4 := (hb03.alloc hb03.size _).trans (hb4.mono (by have := hb03.size; simp; omega))
  clear hb03 hb4
  obtain ⟨c0, c1, c2, c3⟩ := aw_cells n4
  go_wp2_with fail
  refine (aw_num7 _).mono ?_
  rintro e w5 ⟨rfl, hb5⟩
  have hb05 : Below w.heap.size w w5 := hb04.trans (hb5.mono hb04.size)
  clear hb04 hb5 c0 c1 c2 c3 n4
  go_wp2_with fail
  refine (aw_num _).mono ?_
  rintro e w6 ⟨rfl, hb6⟩
  have hb06 : Below w.heap.size w w6 := hb05.trans (hb6.mono hb05.size)
  clear hb05 hb6
  go_wp2
  go_ret
  exact ⟨rfl, hb06⟩

end Go.Proofs.Ytifemajgdbihnaa
