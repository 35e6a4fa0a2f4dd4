/- The walk of 'awake', the fixed answer at each statement's end: it is true. -/
import Derived.Test.YteobphighbdjaaaWTable
namespace Go.Proofs.Yteobphighbdjaaa
open Go.RowKit

def sAll : ByteArray := ⟨#[49, 50, 51, 52, 53, 54, 55, 56, 57]⟩
def sOne : ByteArray := ⟨#[49, 50, 51, 52]⟩
def sTwo : ByteArray := ⟨#[53, 54, 55, 56, 57]⟩

theorem aw_sum1 : sumN [sAll] = 2215682 := by decide +kernel
theorem aw_sum0 : sumN [] = 11994318 := by decide +kernel
theorem aw_sum2 : sumN [sOne, sTwo] = 2215682 := by decide +kernel
theorem aw_tab0 : (tabArr 256)[0]? = some (.int .u32 0) := by
  rw [tabArr_at 256 0 (by omega), if_pos (by omega), show tabN 0 = 0 by decide +kernel]; rfl
theorem aw_tab1 : (tabArr 256)[1]? = some (.int .u32 8801531) := by
  rw [tabArr_at 256 1 (by omega), if_pos (by omega), show tabN 1 = 8801531 by decide +kernel]; rfl

/-- The sum of one text, in a row that was just made. -/
theorem sum_one (x : ByteArray) (B : Nat) (w : World) (hB : B = w.heap.size) (hx : x.size ≤ maxLen) :
    Calls Try.prog 12 #[.slice (some ⟨B, 0, none⟩) 1 1] (w.alloc (.cells #[.string x] 9)) fun e w' => e = .returned (.int .u32 (moreN 11994318 x : Nat)) ∧ w.alloc (.cells #[.string x] 9) = w' := by
  subst hB
  rw [← sumN_one]
  exact sum_any (some ⟨w.heap.size, 0, none⟩) 1 [x] _ (by simpa using strs_one w _ x) (by simp [maxLen]) (by simpa using hx)

theorem sum_nil (w : World) : Calls Try.prog 12 #[.slice none 0 0] w fun e w' => e = .returned (.int .u32 11994318) ∧ w = w' := by
  have h := sum_any none 0 [] w (Strs.nil _ _ _) (by simp) (by simp)
  rw [aw_sum0] at h
  exact h

theorem aw1 (B : Nat) (w : World) (hB : B = w.heap.size) : Calls Try.prog 12 #[.slice (some ⟨B, 0, none⟩) 1 1] (w.alloc (.cells #[.string ⟨#[49, 50, 51, 52, 53, 54, 55, 56, 57]⟩] 9)) fun e w' => e = .returned (.int .u32 2215682) ∧ w.alloc (.cells #[.string ⟨#[49, 50, 51, 52, 53, 54, 55, 56, 57]⟩] 9) = w' := by
  have h := sum_one sAll B w hB (by unfold maxLen; decide)
  rw [← sumN_one, aw_sum1] at h
  exact h

theorem aw2 (B : Nat) (w : World) (hB : B = w.heap.size) : Calls Try.prog 12 #[.slice (some ⟨B, 0, none⟩) 2 2] (w.alloc (.cells #[.string ⟨#[49, 50, 51, 52]⟩, .string ⟨#[53, 54, 55, 56, 57]⟩] 9)) fun e w' => e = .returned (.int .u32 2215682) ∧ w.alloc (.cells #[.string ⟨#[49, 50, 51, 52]⟩, .string ⟨#[53, 54, 55, 56, 57]⟩] 9) = w' := by
  subst hB
  have h := sum_any (some ⟨w.heap.size, 0, none⟩) 2 [sOne, sTwo] (w.alloc (.cells #[.string sOne, .string sTwo] 9)) (by simpa using strs_two w _ sOne sTwo) (by simp [maxLen]) (by
    intro t ht
    simp only [List.mem_cons, List.not_mem_nil, or_false] at ht
    rcases ht with rfl | rfl <;> (unfold maxLen; decide))
  rw [aw_sum2] at h
  exact h

set_option maxHeartbeats 400000 in
set_option maxRecDepth 100000 in
theorem awake_true (w : World) :
    Calls Try.prog 11 #[] w fun e w' => e = .returned (.bool true) ∧ Below w.heap.size w w' := by
  obtain ⟨hz, hi⟩ := zero_of_info tab_info
  rw [← tabArr_zero] at hz
  have HI := Lib.hid hi
  clear hi
  go_enter Try.func11, Try.ntmps11
  go_wp2_with fail
  refine (table_any w).mono ?_
  rintro e w1 ⟨rfl, hb1⟩
  have H0 := Lib.hid (tabArr_size 0)
  have H1 := Lib.hid (tabArr_size 256)
  have H2 := Lib.hid (tabArr_one 256)
  have ht0 := aw_tab0
  have ht1 := aw_tab1
  generalize tabArr 0 = t0 at *
  generalize tabArr 256 = tk at *
  go_wp2_with (first | (refine wpList_store_row rfl 34 (.tmp 1) (.tmp 2) rfl w1.heap.size tk rfl rfl 34 t0 (heap_alloc_new _ _) (by rw [H1.out]; exact HI.out) (by rw [H0.out, H1.out]) H2.out ?_))
  rw [World.setRow_alloc_new]
  have hb2 : Below w.heap.size w (w1.alloc (.cells tk 34)) := hb1.alloc hb1.size _
  go_wp2_with (first | (go_at_call 12; (first | (with_reducible refine (aw1 _ _ (by simp)).mono ?_) | (with_reducible refine (aw2 _ _ (by simp)).mono ?_) | (with_reducible refine (sum_nil _).mono ?_)); rintro e w2 ⟨rfl, rfl⟩))
  go_ret
  refine ⟨rfl, ?_⟩
  exact (hb2.alloc hb2.size _).alloc (by have := hb2.size; simp at this ⊢; omega) _

end Go.Proofs.Yteobphighbdjaaa
