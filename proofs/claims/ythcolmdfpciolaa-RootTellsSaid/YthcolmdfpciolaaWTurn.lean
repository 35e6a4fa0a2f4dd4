/- The walks of turn, addByte and of the document's bit. -/
import Derived.Test.YthcolmdfpciolaaRows
import Derived.Test.YthcolmdfpciolaaCrc
import Derived.WalkKit
import Derived.WalkSpells
import Derived.WalkLawsBesides
import Derived.Lib.Hide
import Derived.Laws.BytesArg
import Derived.Laws.BitsAllLaws
namespace Go.Proofs.Ythcolmdfpciolaa
open Go.RowKit

theorem and_mask (n : Nat) (h : n < 4294967296) : bits .and .u32 (n : Int) 16777215 = ((n % 16777216 : Nat) : Int) := by
  have h1 := u32_and_nat n 16777215 h (by omega)
  rw [show ((16777215 : Nat) : Int) = 16777215 from rfl] at h1
  rw [h1, show (16777215 : Nat) = 2 ^ 24 - 1 from rfl, Nat.and_two_pow_sub_one_eq_mod]

theorem trn_toNat (n : Nat) (hn : n < 16777216) : (trn (BitVec.ofNat 24 n)).toNat = if 8388608 ≤ n then (n * 2 % 16777216) ^^^ 8801531 else n * 2 % 16777216 := by
  have hm : (BitVec.ofNat 24 n).msb = decide (8388608 ≤ n) := by
    rw [BitVec.msb_eq_decide, BitVec.toNat_ofNat, Nat.mod_eq_of_lt (by omega)]
  unfold trn
  rw [hm, BitVec.toNat_xor, BitVec.toNat_shiftLeft, BitVec.toNat_ofNat, Nat.mod_eq_of_lt (show n < 2 ^ 24 by omega), Nat.shiftLeft_eq, Nat.pow_one]
  by_cases h : 8388608 ≤ n
  · simp [h]
  · simp [h]

theorem turn_hi (n : Nat) (hn : n < 16777216) (h : 8388608 ≤ n) : bits .xor .u32 (bits .and .u32 ((n : Int) * 2) 16777215) 8801531 = ((trn (BitVec.ofNat 24 n)).toNat : Int) := by
  rw [show (n : Int) * 2 = ((n * 2 : Nat) : Int) by simp, and_mask _ (by omega)]
  have h1 := u32_xor_nat (n * 2 % 16777216) 8801531 (by omega) (by omega)
  rw [show ((8801531 : Nat) : Int) = 8801531 from rfl] at h1
  rw [h1, trn_toNat n hn, if_pos h]

theorem turn_lo (n : Nat) (hn : n < 16777216) (h : n < 8388608) : bits .and .u32 ((n : Int) * 2) 16777215 = ((trn (BitVec.ofNat 24 n)).toNat : Int) := by
  rw [show (n : Int) * 2 = ((n * 2 : Nat) : Int) by simp, and_mask _ (by omega), trn_toNat n hn, if_neg (by omega)]

theorem ret_u32 {a b : Int} (h : a = b) : Ending.returned (.int .u32 a) = .returned (.int .u32 b) := by rw [h]

set_option maxHeartbeats 400000 in
theorem turn_any (n : Nat) (w : World) (hn : n < 16777216) :
    Calls Try.prog 79 #[.int .u32 n] w fun e w' => e = .returned (.int .u32 ((trn (BitVec.ofNat 24 n)).toNat : Nat)) ∧ w = w' := by
  by_cases h : 8388608 ≤ n
  · have H := Lib.hid (turn_hi n hn h)
    have hd : ((n : Int) / 8388608 == 1) = true := by rw [beq_iff_eq]; omega
    go_enter Try.func79, Try.ntmps79
    go_wp2
    go_ret
    exact ⟨ret_u32 H.out, rfl⟩
  · have H := Lib.hid (turn_lo n hn (by omega))
    have hd : ((n : Int) / 8388608 == 1) = false := by rw [beq_eq_false_iff_ne]; omega
    go_enter Try.func79, Try.ntmps79
    go_wp2
    go_ret
    exact ⟨ret_u32 H.out, rfl⟩

theorem ofNat_toNat24 (x : BitVec 24) : BitVec.ofNat 24 x.toNat = x := by simp

/-- The sum with a byte changed in, ahead of the turns. -/
theorem start_byte (n b : Nat) (hn : n < 16777216) (hb : b < 256) : bits .xor .u32 (n : Int) ((b : Int) * 65536) = ((BitVec.ofNat 24 n ^^^ BitVec.ofNat 24 ((UInt8.ofNat b).toNat * 65536)).toNat : Int) := by
  have h1 := u32_xor_nat n (b * 65536) (by omega) (by omega)
  rw [show (b : Int) * 65536 = ((b * 65536 : Nat) : Int) by simp, h1, BitVec.toNat_xor, BitVec.toNat_ofNat, BitVec.toNat_ofNat]
  have e : (UInt8.ofNat b).toNat = b := by simp; omega
  rw [e, Nat.mod_eq_of_lt (show n < 2 ^ 24 by omega), Nat.mod_eq_of_lt (show b * 65536 < 2 ^ 24 by omega)]

set_option maxHeartbeats 400000 in
theorem add_any (n b : Nat) (w : World) (hn : n < 16777216) (hb : b < 256) :
    Calls Try.prog 78 #[.int .u32 n, .int .u8 b] w fun e w' => e = .returned (.int .u32 ((addB (BitVec.ofNat 24 n) (UInt8.ofNat b)).toNat : Nat)) ∧ w = w' := by
  have hs := start_byte n b hn hb
  have HD := Lib.hid (show addB (BitVec.ofNat 24 n) (UInt8.ofNat b) = trnN 8 (BitVec.ofNat 24 n ^^^ BitVec.ofNat 24 ((UInt8.ofNat b).toNat * 65536)) from rfl)
  generalize addB (BitVec.ofNat 24 n) (UInt8.ofNat b) = r at *
  generalize BitVec.ofNat 24 n ^^^ BitVec.ofNat 24 ((UInt8.ofNat b).toNat * 65536) = x at *
  have HS := Lib.hid hs
  clear hs
  go_enter Try.func78, Try.ntmps78
  go_wp2
  rw [HS.out]
  go_loop [0, 10] (fun t i => ∃ k : Nat, k ≤ 8 ∧ i = .int .i64 k ∧ t = .int .u32 ((trnN k x).toNat : Nat)) (fun _ i => 8 - (intOf i).toNat)
  case atStart => exact ⟨0, by omega, rfl, rfl⟩
  case round =>
    obtain ⟨k, hk, rfl, rfl⟩ := hrel
    have hlt := (trnN k x).isLt
    have HN := Lib.hid (show (trn (BitVec.ofNat 24 (trnN k x).toNat)) = trnN (k + 1) x by rw [ofNat_toNat24]; rfl)
    have HX := Lib.hid (show k = 8 → (trnN k x).toNat = r.toNat by rintro rfl; rw [HD.out])
    generalize (trnN k x).toNat = m at *
    by_cases h8 : k < 8
    · go_wp2_with fail
      refine (turn_any m _ hlt).mono ?_
      rintro e w' ⟨rfl, rfl⟩
      rw [HN.out]
      go_wp2
      go_round
      case rel => exact ⟨k + 1, by omega, by go_num, rfl⟩
      case measure => simp [intOf]; omega
    · have hz := HX.out (by omega)
      have HZ := Lib.hid hz
      clear hz HX
      go_wp2
      go_ret
      exact ⟨ret_u32 (by rw [HZ.out]), rfl⟩

end Go.Proofs.Ythcolmdfpciolaa
