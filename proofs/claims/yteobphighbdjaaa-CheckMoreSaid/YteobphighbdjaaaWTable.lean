/- The walk of Table. -/
import Derived.Test.YteobphighbdjaaaWRef
import Derived.Deep.WholeRow
import Derived.Laws.CopyOwn
namespace Go.Proofs.Yteobphighbdjaaa
open Go.RowKit

/-- What one byte makes of a sum of 0. -/
def tabN (i : Nat) : Nat := (addB 0#24 (UInt8.ofNat i)).toNat
/-- The table's cells, the first k of them laid. -/
def tabArr (k : Nat) : Array Value := ((List.range 256).map fun i => Value.int .u32 (if i < k then (tabN i : Int) else 0)).toArray

theorem tabArr_size (k : Nat) : (tabArr k).size = 256 := by simp [tabArr]
theorem tabArr_zero : tabArr 0 = Array.replicate 256 (.int .u32 0) := by
  simp only [tabArr]
  apply Array.ext
  · simp
  · intro i h1 h2; simp
theorem tabArr_at (k i : Nat) (h : i < 256) : (tabArr k)[i]? = some (.int .u32 (if i < k then (tabN i : Int) else 0)) := by
  simp [tabArr, h]
theorem tabArr_set (k : Nat) (_h : k < 256) : (tabArr k).setIfInBounds k (.int .u32 (tabN k : Int)) = tabArr (k + 1) := by
  apply Array.ext
  · simp [tabArr]
  · intro i h1 h2
    simp only [tabArr_size] at h2
    have e := tabArr_at (k + 1) i (by omega)
    have e0 := tabArr_at k i (by omega)
    rw [Array.getElem?_eq_getElem (by rw [tabArr_size]; omega), Option.some.injEq] at e e0
    rw [e]
    by_cases hik : k = i
    · subst hik; simp
    · rw [Array.getElem_setIfInBounds_ne (by rw [tabArr_size]; omega) hik, e0]
      by_cases hlt : i < k
      · rw [if_pos hlt, if_pos (by omega)]
      · rw [if_neg hlt, if_neg (by omega)]
theorem tabArr_one (k : Nat) : (tabArr k).all (·.oneCell') = true := by
  simp [tabArr, Value.oneCell']

theorem tab_info : (Try.prog.info? 34).map (fun i => (i.zero, i.size)) = some (some (.agg (Array.replicate 256 (.int .u32 0))), 256) := by kernel_rfl

set_option maxHeartbeats 400000 in
set_option maxRecDepth 100000 in
theorem table_any (w : World) :
    Calls Try.prog 16 #[] w fun e w' => e = .returned (.agg (tabArr 256)) ∧ Below w.heap.size w w' := by
  obtain ⟨hz, hi⟩ := zero_of_info tab_info
  rw [← tabArr_zero] at hz
  have HI := Lib.hid hi
  clear hi
  go_enter Try.func16, Try.ntmps16
  go_wp2
  go_loopw [3] (fun i wr => ∃ k : Nat, k ≤ 256 ∧ i = .int .i64 k ∧ wr = (w.alloc (.cells (tabArr 0) 34)).alloc (.cells (tabArr k) 34)) (fun i _ => 256 - (intOf i).toNat)
  case atStart => exact ⟨0, by omega, rfl, rfl⟩
  case round =>
    obtain ⟨k, hk, rfl, rfl⟩ := hrel
    by_cases hlt : k < 256
    · have hc := tabArr_at k k hlt
      have HS := Lib.hid (tabArr_set k hlt)
      have HN := Lib.hid (show (addB (BitVec.ofNat 24 0) (UInt8.ofNat k)).toNat = tabN k from rfl)
      generalize tabArr 0 = t0 at *
      generalize tabArr k = tk at *
      go_wp2_with fail
      refine (add_any 0 k _ (by omega) (by omega)).mono ?_
      rintro e w' ⟨rfl, rfl⟩
      rw [HN.out]
      go_wp2
      go_roundw
      case rel => exact ⟨k + 1, by omega, by go_num, by rw [← HS.out]⟩
      case measure => simp [intOf]; omega
    · obtain rfl : k = 256 := by omega
      have H0 := Lib.hid (tabArr_size 0)
      have H1 := Lib.hid (tabArr_size 256)
      have H2 := Lib.hid (tabArr_one 256)
      generalize tabArr 0 = t0 at *
      obtain ⟨tk, htk⟩ : ∃ tk, tk = tabArr 256 := ⟨_, rfl⟩
      rw [← htk] at H1 H2 ⊢
      have HT := Lib.hid htk
      clear htk
      go_wp2_with (first | (refine wpList_load_row rfl 34 (.tmp 1) rfl (w.heap.size + 1) rfl 34 tk (0, 0) _ (by simpa using heap_alloc_new (w.alloc (.cells t0 34)) (.cells tk 34)) Try.underlying34 rfl (by rw [H1.out]; exact HI.out) ?_) | (refine wpList_store_row rfl 34 (.tmp 0) (.tmp 12) rfl w.heap.size tk rfl rfl 34 t0 (by rw [Below.heap_alloc _ _ _ (by simp)]; exact heap_alloc_new _ _) (by rw [H1.out]; exact HI.out) (by rw [H0.out, H1.out]) H2.out ?_))
      have hg : (((w.alloc (.cells t0 34)).alloc (.cells tk 34)).setRow w.heap.size tk).heap[w.heap.size]? = some (.cells tk 34 (0, 0)) :=
        setRow_heap _ _ t0 _ _ _ (by rw [Below.heap_alloc _ _ _ (by simp)]; exact heap_alloc_new _ _)
      have hi2 : (Try.prog.info? 34).map (·.size) = some tk.size := by rw [H1.out]; exact HI.out
      refine bodyPost_ret (v := .agg tk) ?_ rfl ⟨by rw [HT.out], ?_⟩
      · exact results_cell_row rfl _ _ w.heap.size 34 tk (0, 0) _ rfl hg Try.underlying34 rfl hi2
      · exact below_setRow (((Below.refl _ _).alloc (Nat.le_refl _) _).alloc (by simp) _) (Nat.le_refl _) _

end Go.Proofs.Yteobphighbdjaaa
