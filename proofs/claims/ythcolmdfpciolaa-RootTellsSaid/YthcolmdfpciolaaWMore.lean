/- The walks of More and Sum, and of the document's bit, More and Sum. -/
import Derived.Test.YthcolmdfpciolaaWTurn
import Derived.Test.YthcolmdfpciolaaStrs
namespace Go.Proofs.Ythcolmdfpciolaa
open Go.RowKit

theorem more_step (x : BitVec 24) (s : ByteArray) (k : Nat) (h : k < s.size) : moreB x (s.data.toList.take (k + 1)) = addB (moreB x (s.data.toList.take k)) s[k] := by
  rw [List.take_succ_eq_append_getElem (by simpa using h), moreB_append]; rfl

theorem add_step (x : BitVec 24) (s : ByteArray) (k : Nat) (h : k < s.size) :
    addB (BitVec.ofNat 24 (moreB x (s.data.toList.take k)).toNat) (UInt8.ofNat s[k].toNat) = moreB x (s.data.toList.take (k + 1)) := by
  rw [ofNat_toNat24, more_step x s k h]; simp

theorem more_all (n : Nat) (s : ByteArray) (k : Nat) (h : s.size ≤ k) : (moreB (BitVec.ofNat 24 n) (s.data.toList.take k)).toNat = moreN n s := by
  rw [List.take_of_length_le (by simpa using h)]; rfl

theorem first24 (n : Nat) : (moreB (BitVec.ofNat 24 n) []).toNat = n % 16777216 := by
  show (BitVec.ofNat 24 n).toNat = _
  rw [BitVec.toNat_ofNat]

set_option maxHeartbeats 400000 in
theorem more_any (n : Nat) (s : ByteArray) (w : World) (hn : n < 4294967296) (hs : s.size ≤ maxLen) :
    Calls Try.prog 74 #[.int .u32 n, .string s] w fun e w' => e = .returned (.int .u32 (moreN n s : Nat)) ∧ w = w' := by
  unfold maxLen at hs
  have HM := Lib.hid (show bits .and .u32 (n : Int) 16777215 = (n : Int) % 16777216 by rw [and_mask n hn]; rfl)
  go_enter Try.func74, Try.ntmps74
  go_wp2
  rw [HM.out]
  go_loop [0, 10] (fun t i => ∃ k : Nat, k ≤ s.size ∧ i = .int .i64 k ∧ t = .int .u32 ((moreB (BitVec.ofNat 24 n) (s.data.toList.take k)).toNat : Nat)) (fun _ i => s.size - (intOf i).toNat)
  case atStart => exact ⟨0, by omega, rfl, by rw [List.take_zero, first24]; rfl⟩
  case round =>
    obtain ⟨k, hk, rfl, rfl⟩ := hrel
    have hlt := (moreB (BitVec.ofNat 24 n) (s.data.toList.take k)).isLt
    by_cases h8 : k < s.size
    · have HN := Lib.hid (add_step (BitVec.ofNat 24 n) s k h8)
      generalize (moreB (BitVec.ofNat 24 n) (s.data.toList.take k)).toNat = m at *
      have hb : s[k].toNat < 256 := s[k].toNat_lt
      go_wp2_with fail
      refine (add_any m s[k].toNat _ hlt hb).mono ?_
      rintro e w' ⟨rfl, rfl⟩
      rw [HN.out]
      go_wp2
      go_round
      case rel => exact ⟨k + 1, by omega, by go_num, rfl⟩
      case measure => simp [intOf]; omega
    · have HZ := Lib.hid (more_all n s k (by omega))
      generalize (moreB (BitVec.ofNat 24 n) (s.data.toList.take k)).toNat = m at *
      go_wp2
      go_ret
      exact ⟨ret_u32 (by rw [HZ.out]), rfl⟩

/-- All bytes of texts, one behind the other. -/
def allB (ss : List ByteArray) : List UInt8 := ss.flatMap fun t => t.data.toList
/-- The sum of texts. -/
def sumN (ss : List ByteArray) : Nat := (moreB 0xb704ce#24 (allB ss)).toNat

theorem allB_step (ss : List ByteArray) (k : Nat) (h : k < ss.length) : allB (ss.take (k + 1)) = allB (ss.take k) ++ ss[k].data.toList := by
  rw [List.take_succ_eq_append_getElem h]; unfold allB; rw [List.flatMap_append, List.flatMap_singleton]

theorem sum_step (ss : List ByteArray) (k : Nat) (h : k < ss.length) : moreN (moreB 0xb704ce#24 (allB (ss.take k))).toNat ss[k] = (moreB 0xb704ce#24 (allB (ss.take (k + 1)))).toNat := by
  unfold moreN
  rw [ofNat_toNat24, allB_step ss k h, moreB_append]

set_option maxHeartbeats 400000 in
theorem sum_any (A : Option Addr) (c : Nat) (ss : List ByteArray) (w : World) (hA : Strs w w.heap.size A ss) (hn : ss.length ≤ maxLen) (hs : ∀ t ∈ ss, t.size ≤ maxLen) :
    Calls Try.prog 62 #[.slice A ss.length c] w fun e w' => e = .returned (.int .u32 (sumN ss : Nat)) ∧ w = w' := by
  unfold maxLen at hn
  generalize hl : ss.length = n at *
  have HL := Lib.hid hl
  have HA := Lib.hid hA
  have HS := Lib.hid hs
  clear hl hA hs
  go_enter Try.func62, Try.ntmps62
  go_wp2
  go_loop [3, 8] (fun t i => ∃ k : Nat, k ≤ n ∧ i = .int .i64 k ∧ t = .int .u32 ((moreB 0xb704ce#24 (allB (ss.take k))).toNat : Nat)) (fun _ i => n - (intOf i).toNat)
  case atStart => exact ⟨0, by omega, rfl, rfl⟩
  case round =>
    obtain ⟨k, hk, rfl, rfl⟩ := hrel
    have hlt := (moreB 0xb704ce#24 (allB (ss.take k))).isLt
    by_cases h8 : k < n
    · obtain ⟨a1, rfl, hab, hca⟩ := HA.out (by rw [HL.out]; omega)
      have c1 := hca k (by rw [HL.out]; omega)
      have hm := HS.out _ (List.getElem_mem (by rw [HL.out]; omega : k < ss.length))
      have HN := Lib.hid (sum_step ss k (by rw [HL.out]; omega))
      generalize (moreB 0xb704ce#24 (allB (ss.take k))).toNat = m at *
      generalize ss[k]'(by rw [HL.out]; omega) = x at *
      clear hca
      go_wp2_with fail
      refine (more_any m x _ (by omega) hm).mono ?_
      rintro e w' ⟨rfl, rfl⟩
      rw [HN.out]
      go_wp2
      go_round
      case rel => exact ⟨k + 1, by omega, by go_num, rfl⟩
      case measure => simp [intOf]; omega
    · have HZ := Lib.hid (show (moreB 0xb704ce#24 (allB (ss.take k))).toNat = sumN ss by rw [List.take_of_length_le (by rw [HL.out]; omega)]; rfl)
      generalize (moreB 0xb704ce#24 (allB (ss.take k))).toNat = m at *
      go_wp2
      go_ret
      exact ⟨ret_u32 (by rw [HZ.out]), rfl⟩

end Go.Proofs.Ythcolmdfpciolaa
