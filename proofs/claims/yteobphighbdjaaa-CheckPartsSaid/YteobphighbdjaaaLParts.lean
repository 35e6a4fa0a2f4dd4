/- The walk of the law CheckParts. -/
import Derived.Test.YteobphighbdjaaaLEasy
namespace Go.Proofs.Yteobphighbdjaaa
open Go.RowKit

/-- All texts, one behind the other, as one. -/
def catS (ss : List ByteArray) : ByteArray := ⟨(allB ss).toArray⟩

theorem catS_step (ss : List ByteArray) (k : Nat) (h : k < ss.length) : catS (ss.take k) ++ ss[k] = catS (ss.take (k + 1)) := by
  apply ByteArray.ext
  unfold catS
  rw [allB_step ss k h]
  simp

theorem sumN_cat (ss : List ByteArray) : moreN 11994318 (catS ss) = sumN ss := by
  unfold moreN sumN catS
  simp

theorem sum_step_cat (ss : List ByteArray) (k : Nat) (h : k < ss.length) : moreN (sumN (ss.take k)) ss[k] = sumN (ss.take (k + 1)) := sum_step ss k h

set_option maxHeartbeats 1000000 in
set_option maxRecDepth 100000 in
theorem parts_walk (A : Option Addr) (c : Nat) (ss : List ByteArray) (w : World) (hA : Strs w w.heap.size A ss) (hn : ss.length ≤ maxLen) (hs : ∀ t ∈ ss, t.size ≤ maxLen) :
    Calls Try.prog 4 #[.slice A ss.length c] w fun e w' => e = .returned (.bool true) ∧ Below w.heap.size w w' := by
  unfold maxLen at hn
  generalize hl : ss.length = n at *
  have HL := Lib.hid hl
  have HA := Lib.hid hA
  have HS := Lib.hid hs
  clear hl hA hs
  by_cases h30 : 30 < n
  · go_enter Try.func4, Try.ntmps4
    go_wp2_with fail
    refine (awake_true _).mono ?_
    rintro e w1 ⟨rfl, hb1⟩
    go_wp2
    go_ret
    exact ⟨rfl, hb1⟩
  · go_enter Try.func4, Try.ntmps4
    go_wp2_with fail
    refine (sum_nil _).mono ?_
    rintro e w1 ⟨rfl, rfl⟩
    go_wp2
    go_loop [3, 4, 14] (fun al sm i => ∃ k : Nat, k ≤ n ∧ i = .int .i64 k ∧ (catS (ss.take k)).size ≤ 300 * k ∧ al = .string (catS (ss.take k)) ∧ sm = .int .u32 (sumN (ss.take k) : Nat)) (fun _ _ i => n - (intOf i).toNat)
    case atStart => exact ⟨0, by omega, rfl, Nat.le_refl 0, rfl, by rw [List.take_zero, aw_sum0]; rfl⟩
    case round =>
      obtain ⟨k, hk, rfl, hsz, rfl, rfl⟩ := hrel
      have hlt : sumN (ss.take k) < 16777216 := (moreB _ _).isLt
      by_cases h8 : k < n
      · obtain ⟨a1, rfl, hab, hca⟩ := HA.out (by rw [HL.out]; omega)
        have c1 := hca k (by rw [HL.out]; omega)
        have hm := HS.out _ (List.getElem_mem (by rw [HL.out]; omega : k < ss.length))
        have HN := Lib.hid (sum_step_cat ss k (by rw [HL.out]; omega))
        have HC := Lib.hid (catS_step ss k (by rw [HL.out]; omega))
        generalize sumN (ss.take k) = m at *
        generalize ss[k]'(by rw [HL.out]; omega) = x at *
        generalize catS (ss.take k) = y at *
        have HM := Lib.hid hm
        clear hca hm
        by_cases hx : 300 < x.size
        · have hb0 := Below.refl w.heap.size w
          go_wp2_with fail
          refine (awake_true _).mono ?_
          rintro e w1 ⟨rfl, hb1⟩
          go_wp2
          go_ret
          exact ⟨rfl, hb1⟩
        · have hadd : (y ++ x).size ≤ 300 * (k + 1) := by rw [ByteArray.size_append]; omega
          have HD := Lib.hid hadd
          clear hadd
          go_wp2_with fail
          refine (more_any m x _ (by omega) HM.out).mono ?_
          rintro e w1 ⟨rfl, rfl⟩
          rw [HN.out]
          go_wp2
          go_round
          case rel => exact ⟨k + 1, by omega, by go_num, by rw [← HC.out]; exact HD.out, by rw [HC.out], rfl⟩
          case measure => simp [intOf]; omega
      · have hkn : k = n := by omega
        have HZ := Lib.hid (show sumN (ss.take k) = sumN ss by rw [List.take_of_length_le (by rw [HL.out]; omega)])
        have HY := Lib.hid (show catS (ss.take k) = catS ss by rw [List.take_of_length_le (by rw [HL.out]; omega)])
        have HQ := Lib.hid (sumN_cat ss)
        have hsz2 : (catS (ss.take k)).size ≤ 9000 := by omega
        rw [HY.out] at hsz2 ⊢
        rw [HZ.out] at hlt ⊢
        have HSZ := Lib.hid (show (catS ss).size ≤ maxLen by unfold maxLen; omega)
        clear hsz hsz2 HY HZ hkn
        have hd : decide ((sumN ss : Int) < 16777216) = true := by simp; omega
        have hS := sum_any A c ss w HA.out (by rw [HL.out]; unfold maxLen; omega) HS.out
        rw [HL.out] at hS
        have HS2 := Lib.hid hS
        clear hS
        generalize catS ss = y at *
        generalize sumN ss = m at *
        clear hlt
        go_wp2_with fail
        refine HS2.out.mono ?_
        rintro e w1 ⟨rfl, rfl⟩
        go_wp2_with fail
        refine (sum_one y _ w rfl HSZ.out).mono ?_
        rintro e w1 ⟨rfl, rfl⟩
        rw [HQ.out]
        go_wp2_with fail
        refine (sum_one y _ _ (by simp) HSZ.out).mono ?_
        rintro e w1 ⟨rfl, rfl⟩
        rw [HQ.out]
        go_wp2_with fail
        refine (awake_true _).mono ?_
        rintro e w1 ⟨rfl, hb1⟩
        go_wp2
        go_ret
        exact ⟨rfl, (((Below.refl _ _).alloc (Nat.le_refl _) _).alloc (by simp) _).trans (hb1.mono (by simp; omega))⟩

end Go.Proofs.Yteobphighbdjaaa
