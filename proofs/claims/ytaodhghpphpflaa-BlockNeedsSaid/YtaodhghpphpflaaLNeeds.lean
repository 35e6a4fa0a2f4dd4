/- The walk of the law BlockNeeds. -/
import Derived.Test.YtaodhghpphpflaaAwake
import Derived.Lib.MinMaxS
import Derived.Deep.OwnRows
namespace Go.Proofs.Ytaodhghpphpflaa
open Go.RowKit

set_option maxHeartbeats 2000000 in
set_option maxRecDepth 100000 in
theorem needs_walk (a b : Nat) (w : World) (ha : a < 65536) (hb : b < 65536) :
    Calls Try.prog 6 #[.int .u16 a, .int .u16 b] w fun e w' => e = .returned (.bool true) ∧ Below w.heap.size w w' := by
  obtain ⟨n, hn⟩ : ∃ n, n = a % 3000 := ⟨_, rfl⟩
  obtain ⟨m, hm⟩ : ∃ m, m = b % 3000 := ⟨_, rfl⟩
  have hn3 : n < 3000 := by omega
  have hm3 : m < 3000 := by omega
  have e1 : (a : Int) % 3000 = n := by omega
  have e2 : (b : Int) % 3000 = m := by omega
  clear hn hm
  go_enter Try.func6, Try.ntmps6
  have hx1 := need_mono (show min n m ≤ max n m by omega)
  have hx2 := need_pos (min n m)
  have emin : min (n : Int) m = ((min n m : Nat) : Int) := by omega
  have emax : max (n : Int) m = ((max n m : Nat) : Int) := by omega
  have HMI := Lib.hid emin
  have HMA := Lib.hid emax
  have H1 := Lib.hid (fun wx => need_in (min n m) wx (by omega))
  have H2 := Lib.hid (fun wx => need_in (max n m) wx (by omega))
  have H3 := Lib.hid (fun wx => need_in n wx (by omega))
  generalize needN (min n m) = x at *
  generalize needN (max n m) = y at *
  clear emin emax
  obtain ⟨C, hC⟩ : ∃ C, C = madeCells #[.int .u8 0] (n + 7) := ⟨_, rfl⟩
  have hmk : (Instr.makeSlice 44 (.int .i64 ((n : Int) + 7)) (.int .i64 ((n : Int) + 7))).run Try.prog w = .ok (.slice (some ⟨w.heap.size, 0, none⟩) (n + 7) (n + 7)) (w.alloc (.cells C 5)) := by
    have h := run_make_row' (P := Try.prog) 44 5 (.int .u8 0) 1 Try.underlying44 u8_info rfl .i64 .i64 (n + 7) (by omega) (by omega) w
    rw [hC]
    exact h
  have hcv : (convert 44 9 (.slice (some ⟨w.heap.size, 0, none⟩) (n + 7) (n + 7))).run Try.prog (w.alloc (.cells C 5)) = .ok (.string (zerosS (n + 7))) (w.alloc (.cells C 5)) := by
    have hz : Lib.byteCells (List.replicate (n + 7) 0) = List.replicate (n + 7) (.int .u8 0) := by unfold Lib.byteCells; rw [List.map_replicate]; rfl
    have hl : (List.replicate (n + 7) (0 : UInt8)).length = n + 7 := List.length_replicate
    have ho := World.ownsRow_lit (base := w.heap.size) (e := 5) (size := 1) w C (n + 7) (Nat.le_refl _) (by unfold maxLen; omega) (by rw [hC]; simp [madeCells])
    rw [hC, toList_madeCells_one, ← hz, ← hC] at ho
    have h := conv_own (w := w.alloc (.cells C 5)) (base := w.heap.size) (g := w.heap.size) (cap := n + 7) (l := List.replicate (n + 7) 0) (by rw [hl]; exact ho)
    rw [hl] at h
    exact h
  have HCU := Lib.hid (fun wx => cut_any (zerosS (n + 7)) wx (by rw [zeros_size]; omega))
  have HCL := Lib.hid (show (cutL (zerosS (n + 7)).data.toList).length = needN n by rw [cut_len]; show secN (List.replicate (n + 7) 0).toArray.toList.length = needN n; simp [needN])
  generalize zerosS (n + 7) = zz at *
  have hb1 : Below w.heap.size w (w.alloc (.cells C 5)) := (Below.refl _ _).alloc (Nat.le_refl _) _
  have HB1 := Lib.hid hb1
  clear hC hb1
  go_wp2_with fail
  rw [HMI.out]
  refine (H1.out _).mono ?_
  rintro e w1 ⟨rfl, rfl⟩
  go_wp2_with fail
  rw [HMA.out]
  refine (H2.out _).mono ?_
  rintro e w1 ⟨rfl, rfl⟩
  go_wp2_with fail
  refine (HCU.out _).mono ?_
  rintro e w2 ⟨v2, rfl, hv2, hb2⟩
  obtain ⟨A2, c2, rfl, _⟩ := hv2
  have HB2 := Lib.hid (HB1.out.trans (hb2.mono HB1.out.size))
  rw [HCL.out]
  clear hb2 hmk hcv
  generalize needN n = q at *
  go_wp2_with fail
  refine (H3.out _).mono ?_
  rintro e w3 ⟨rfl, rfl⟩
  go_wp2_with fail
  refine (awake_true _).mono ?_
  rintro e w4 ⟨rfl, hb4⟩
  go_wp2
  go_ret
  exact ⟨rfl, HB2.out.trans (hb4.mono HB2.out.size)⟩

end Go.Proofs.Ytaodhghpphpflaa
