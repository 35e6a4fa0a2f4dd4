/- The walk of the law CheckBurst. -/
import Derived.Test.YteobphighbdjaaaLThree
import Derived.Test.YteobphighbdjaaaBurst
import Derived.Lib.ConvBytes
namespace Go.Proofs.Yteobphighbdjaaa
open Go.RowKit

theorem xor_one (c : UInt8) (r : Nat) (hr : r < 8) : bits .xor .u8 (c.toNat : Int) (128 / 2 ^ r) = ((c ^^^ oneBit r).toNat : Int) := by
  have H : ∀ r : Fin 8, ((128 : Int) / 2 ^ r.val) = ((oneBit r.val).toNat : Int) := by decide
  rw [H ⟨r, hr⟩, u8_xor_nat _ _ c.toNat_lt (oneBit r).toNat_lt, UInt8.toNat_xor]

theorem low_bit (m k : Nat) (hm : m < 4294967296) : bits .and .u32 ((m : Int) / 2 ^ k) 1 = if m.testBit k = true then 1 else 0 := by
  have e : ((m : Int) / 2 ^ k) = ((m / 2 ^ k : Nat) : Int) := by simp
  have hle : m / 2 ^ k ≤ m := Nat.div_le_self _ _
  rw [e, show (1 : Int) = ((1 : Nat) : Int) from rfl, u32_and_nat _ 1 (by omega) (by omega), Nat.and_one_is_mod, Nat.testBit_eq_decide_div_mod_eq]
  rcases Nat.mod_two_eq_zero_or_one (m / 2 ^ k) with h | h <;> rw [h] <;> simp

set_option maxHeartbeats 1000000 in
set_option maxRecDepth 100000 in
theorem burst_walk (s : ByteArray) (p m0 : Nat) (w : World) (hs : s.size ≤ maxLen) (hp : p < 65536) (hm0 : m0 < 4294967296) :
    Calls Try.prog 5 #[.string s, .int .u16 p, .int .u32 m0] w fun e w' => e = .returned (.bool true) ∧ Below w.heap.size w w' := by
  unfold maxLen at hs
  obtain ⟨m, hM⟩ : ∃ m : Nat, (m0 : Int) % 16777216 = (m : Int) := ⟨m0 % 16777216, by omega⟩
  have hm : m < 16777216 := by omega
  by_cases hbad : 300 < s.size ∨ s.size < 3 ∨ m = 0
  · obtain ⟨b1, hb1⟩ : ∃ b, decide ((300 : Int) < s.size) = b := ⟨_, rfl⟩
    obtain ⟨b2, hb2⟩ : ∃ b, decide ((s.size : Int) < 3) = b := ⟨_, rfl⟩
    obtain ⟨b3, hb3⟩ : ∃ b, ((m : Int) == 0) = b := ⟨_, rfl⟩
    have hor : b1 = true ∨ b2 = true ∨ b3 = true := by
      rw [← hb1, ← hb2, ← hb3]; simp only [decide_eq_true_eq, beq_iff_eq]; omega
    clear hbad
    rcases b1 with _ | _ <;> rcases b2 with _ | _ <;> rcases b3 with _ | _ <;> first | (exfalso; revert hor; decide) | skip
    all_goals
      clear hor
      go_enter Try.func5, Try.ntmps5
      go_wp2_with fail
      refine (awake_true _).mono ?_
      rintro e w1 ⟨rfl, hq⟩
      go_wp2
      go_ret
      exact ⟨rfl, hq⟩
  obtain ⟨h300, h3, hmz⟩ : s.size ≤ 300 ∧ 3 ≤ s.size ∧ m ≠ 0 := by omega
  clear hbad
  have d1 : decide ((300 : Int) < s.size) = false := by simp; omega
  have d2 : decide ((s.size : Int) < 3) = false := by simp; omega
  have d3 : ((m : Int) == 0) = false := by rw [beq_eq_false_iff_ne]; omega
  obtain ⟨a, ha⟩ : ∃ a : Nat, (p : Int) % (8 * s.size - 23) = (a : Int) := ⟨p % (8 * s.size - 23), by rw [Int.natCast_emod]; congr 1; omega⟩
  have ha24 : a + 24 ≤ 8 * s.size := by
    have := Int.emod_lt_of_pos (p : Int) (show (0 : Int) < 8 * s.size - 23 by omega)
    omega
  obtain ⟨cap, w1, hcv, hb1, hB⟩ := conv_bytes (P := Try.prog) (ts := 9) (tt := 31) (te := 5) Try.underlying9 Try.underlying31 Try.underlying5 s w
  go_enter Try.func5, Try.ntmps5
  go_wp2_with fail
  go_loopw [35] (fun i wr => ∃ k : Nat, i = .int .i64 k ∧ k ≤ 24 ∧ BytesAt wr w.heap.size (burstL s.data.toList m a k) ∧ Below w.heap.size w wr) (fun i _ => (24 - intOf i).toNat)
  case atStart => exact ⟨0, rfl, by omega, hB, hb1⟩
  case round =>
    obtain ⟨k, rfl, hk, hBk, hbr⟩ := hrel
    clear hB hb1 hcv
    by_cases hlt : k < 24
    · obtain ⟨j, hj⟩ : ∃ j : Nat, ((a : Int) + k) / 8 = (j : Int) := ⟨(a + k) / 8, by omega⟩
      obtain ⟨r, hr⟩ : ∃ r : Nat, ((a : Int) + k) % 8 = (r : Int) := ⟨(a + k) % 8, by omega⟩
      have hjs : (j : Int) < s.size := by omega
      have hjl : j < (burstL s.data.toList m a k).length := by rw [burstL_length]; simp; omega
      have hr8 : r < 8 := by omega
      obtain ⟨hcell, hfro⟩ := hBk j hjl
      have HX := Lib.hid (xor_one ((burstL s.data.toList m a k).getD j 0) r hr8)
      have HB := Lib.hid hBk
      have HL := Lib.hid hjl
      have HJ := Lib.hid (show (a + k) / 8 = j by omega)
      have HR := Lib.hid (show (a + k) % 8 = r by omega)
      clear hBk hjl
      by_cases hbit : m.testBit k = true
      · have HT := Lib.hid hbit
        have ht : (bits .and .u32 ((m : Int) / 2 ^ k) 1 == 1) = true := by rw [low_bit m k (by omega), beq_iff_eq, if_pos hbit]
        clear hbit
        generalize hl : burstL s.data.toList m a k = l at *
        have HLL := Lib.hid hl
        clear hl
        go_wp2
        go_region
        go_wp2
        go_roundw
        case rel =>
          refine ⟨k + 1, by go_num, by omega, ?_, (hbr.setCell (Nat.le_refl _) _).drew⟩
          have hst := HB.out.set j (l.getD j 0 ^^^ oneBit r) HL.out
          rw [← HX.out] at hst
          have e : burstL s.data.toList m a (k + 1) = l.set j (l.getD j 0 ^^^ oneBit r) := by
            show (if m.testBit k = true then flipB (burstL s.data.toList m a k) (a + k) else burstL s.data.toList m a k) = _
            rw [if_pos HT.out, HLL.out]; unfold flipB; rw [HJ.out, HR.out]
          rw [e]
          exact hst.drew
        case measure => simp [intOf]; omega
      · have HT := Lib.hid hbit
        have ht : (bits .and .u32 ((m : Int) / 2 ^ k) 1 == 1) = false := by rw [low_bit m k (by omega), if_neg hbit]; rfl
        clear hbit
        go_wp2
        go_roundw
        case rel =>
          refine ⟨k + 1, by go_num, by omega, ?_, hbr⟩
          show BytesAt _ _ (if m.testBit k = true then flipB (burstL s.data.toList m a k) (a + k) else burstL s.data.toList m a k)
          rw [if_neg HT.out]
          exact HB.out
        case measure => simp [intOf]; omega
    · have hk24 : k = 24 := by omega
      subst hk24
      have HN := Lib.hid (burst_sum s 11994318 m a hmz hm ha24)
      have hcv := conv_cells (P := Try.prog) (ts := 31) (tt := 9) (te := 5) (cap := cap) Try.underlying31 Try.underlying5 Try.underlying9 (show (burstL s.data.toList m a 24).length = s.size by rw [burstL_length]; simp) (fun i hi => (hBk i (by rw [burstL_length]; simpa using hi)).1)
      have HX := Lib.hid (show (ByteArray.mk (burstL s.data.toList m a 24).toArray).size ≤ maxLen by show (burstL s.data.toList m a 24).toArray.size ≤ _; rw [List.size_toArray, burstL_length]; unfold maxLen; simp; omega)
      have HS := Lib.hid (show s.size ≤ maxLen by unfold maxLen; omega)
      generalize ByteArray.mk (burstL s.data.toList m a 24).toArray = x at *
      clear hBk
      have hne : ((moreN 11994318 x : Nat) : Int) != ((moreN 11994318 s : Nat) : Int) := by
        rw [bne_iff_ne]; have := HN.out; omega
      clear HN
      go_wp2_with fail
      refine (sum_cell x _ _ (by simp) HX.out).mono ?_
      rintro e w' ⟨rfl, rfl⟩
      go_wp2_with fail
      refine (sum_cell s _ _ (by simp) HS.out).mono ?_
      rintro e w' ⟨rfl, rfl⟩
      go_wp2_with fail
      refine (awake_true _).mono ?_
      rintro e w' ⟨rfl, hq⟩
      go_wp2
      go_ret
      have h1 : Below w.heap.size w (wr.alloc (.cells #[.string x] 9)) := hbr.alloc hbr.size _
      have h2 := h1.alloc h1.size (.cells #[.string s] 9)
      exact ⟨rfl, h2.trans (hq.mono h2.size)⟩

end Go.Proofs.Yteobphighbdjaaa
