/- The walks of the document's bit, More and Sum. -/
import Derived.Test.YthcolmdfpciolaaWMore
namespace Go.Proofs.Ythcolmdfpciolaa
open Go.RowKit

/-- A sum with one bit changed in at the highest place. -/
def bitIn (x : BitVec 24) (b : Bool) : BitVec 24 := trn (x ^^^ (if b then 0x800000#24 else 0#24))

theorem trn_high : trn 0x800000#24 = 0x864cfb#24 := by decide

theorem bitIn_toNat (n b : Nat) (hn : n < 16777216) (hb : b < 2) : (bitIn (BitVec.ofNat 24 n) (decide (b = 1))).toNat = if n / 8388608 % 2 + b = 1 then (n * 2 % 16777216) ^^^ 8801531 else n * 2 % 16777216 := by
  unfold bitIn
  rw [trn_xor, BitVec.toNat_xor, trn_toNat n hn]
  have hx : ∀ y : Nat, (y ^^^ 8801531) ^^^ 8801531 = y := fun y => by rw [Nat.xor_assoc, Nat.xor_self, Nat.xor_zero]
  rcases (show b = 0 ∨ b = 1 by omega) with rfl | rfl
  · rw [show (if decide (0 = 1) = true then 0x800000#24 else 0#24) = 0#24 from rfl, trn_zero]
    by_cases h : 8388608 ≤ n
    · rw [if_pos h, if_pos (by omega)]; simp
    · rw [if_neg h, if_neg (by omega)]; simp
  · rw [show (if decide (1 = 1) = true then 0x800000#24 else 0#24) = 0x800000#24 from rfl, trn_high]
    by_cases h : 8388608 ≤ n
    · rw [if_pos h, if_neg (by omega)]; exact hx _
    · rw [if_neg h, if_pos (by omega)]; rfl

set_option maxHeartbeats 400000 in
theorem rbit_any (n b : Nat) (w : World) (hn : n < 16777216) (hb : b < 2) :
    Calls Try.prog 75 #[.int .u32 n, .int .u32 b] w fun e w' => e = .returned (.int .u32 ((bitIn (BitVec.ofNat 24 n) (decide (b = 1))).toNat : Nat)) ∧ w = w' := by
  have H0 := bitIn_toNat n b hn hb
  by_cases h : n / 8388608 % 2 + b = 1
  · rw [if_pos h] at H0
    have hd : ((n : Int) / 8388608 % 2 + b == 1) = true := by rw [beq_iff_eq]; omega
    have hx := u32_xor_nat (n * 2 % 16777216) 8801531 (by omega) (by omega)
    rw [← H0] at hx
    have HX := Lib.hid (show bits .xor .u32 ((n : Int) * 2 % 16777216) 8801531 = ((bitIn (BitVec.ofNat 24 n) (decide (b = 1))).toNat : Int) from hx)
    generalize (bitIn (BitVec.ofNat 24 n) (decide (b = 1))).toNat = r at *
    clear H0 h hx
    go_enter Try.func75, Try.ntmps75
    go_wp2
    go_ret
    exact ⟨ret_u32 HX.out, rfl⟩
  · rw [if_neg h] at H0
    have hd : ((n : Int) / 8388608 % 2 + b == 1) = false := by rw [beq_eq_false_iff_ne]; omega
    have HX := Lib.hid (show (n : Int) * 2 % 16777216 = ((bitIn (BitVec.ofNat 24 n) (decide (b = 1))).toNat : Int) by rw [H0]; rfl)
    generalize (bitIn (BitVec.ofNat 24 n) (decide (b = 1))).toNat = r at *
    clear H0 h
    go_enter Try.func75, Try.ntmps75
    go_wp2
    go_ret
    exact ⟨ret_u32 HX.out, rfl⟩

theorem feed_bit (x : BitVec 24) (b : UInt8) (j : Nat) : bitIn (BitVec.ofNat 24 (feed x (bitOf b) j).toNat) (decide (b.toNat / 2 ^ (7 - j) % 2 = 1)) = feed x (bitOf b) (j + 1) := by
  rw [ofNat_toNat24]
  have e : decide (b.toNat / 2 ^ (7 - j) % 2 = 1) = bitOf b j := by
    unfold bitOf; rw [Nat.testBit_eq_decide_div_mod_eq]
  rw [e]; rfl

theorem shr_bit (c m j : Nat) (h : m = 7 - j) : ((c : Int) / 2 ^ m).tmod 2 % 4294967296 = ((c / 2 ^ (7 - j) % 2 : Nat) : Int) := by
  rw [← h]
  have e2 : ((c : Int) / 2 ^ m) = ((c / 2 ^ m : Nat) : Int) := by simp
  rw [e2]
  generalize c / 2 ^ m = d
  rw [Int.tmod_eq_emod_of_nonneg (by omega)]
  omega

set_option maxHeartbeats 400000 in
theorem rmore_any (n : Nat) (s : ByteArray) (w : World) (hn : n < 4294967296) (hs : s.size ≤ maxLen) :
    Calls Try.prog 68 #[.int .u32 n, .string s] w fun e w' => e = .returned (.int .u32 (moreN n s : Nat)) ∧ w = w' := by
  unfold maxLen at hs
  go_enter Try.func68, Try.ntmps68
  go_wp2
  go_loop [0, 5] (fun t i => ∃ k : Nat, k ≤ s.size ∧ i = .int .i64 k ∧ t = .int .u32 ((moreB (BitVec.ofNat 24 n) (s.data.toList.take k)).toNat : Nat)) (fun _ i => s.size - (intOf i).toNat)
  case atStart => exact ⟨0, by omega, rfl, by rw [List.take_zero, first24]; rfl⟩
  case round =>
    obtain ⟨k, hk, rfl, rfl⟩ := hrel
    by_cases h8 : k < s.size
    · have HN := Lib.hid (more_step (BitVec.ofNat 24 n) s k h8)
      generalize hx : moreB (BitVec.ofNat 24 n) (s.data.toList.take k) = x at *
      clear hx
      go_wp2
      go_loop [0, 6] (fun t i => ∃ (j : Nat) (q : Int), j ≤ 8 ∧ q + j = 7 ∧ i = .int .i64 q ∧ t = .int .u32 ((feed x (bitOf s[k]) j).toNat : Nat)) (fun _ i => (intOf i + 1).toNat)
      case atStart => exact ⟨0, 7, by omega, by omega, rfl, rfl⟩
      case round =>
        obtain ⟨j, q, hj, hq, rfl, rfl⟩ := hrel
        have hlt := (feed x (bitOf s[k]) j).isLt
        have hb : s[k].toNat < 256 := s[k].toNat_lt
        by_cases hj8 : j < 8
        · obtain ⟨m, rfl⟩ := Int.eq_ofNat_of_zero_le (show 0 ≤ q by omega)
          have HF := Lib.hid (feed_bit x s[k] j)
          have hm7 : m ≤ 7 := by omega
          have HQ := Lib.hid hq
          have HB := Lib.hid (shr_bit s[k].toNat m j (by omega))
          clear hq
          generalize (feed x (bitOf s[k]) j).toNat = y at *
          go_wp2_with fail
          rw [HB.out]
          refine (rbit_any y _ _ hlt (by omega)).mono ?_
          rintro e w' ⟨rfl, rfl⟩
          rw [HF.out]
          go_wp2
          go_round
          case rel => exact ⟨j + 1, (m : Int) - 1, by omega, by have := HQ.out; omega, rfl, rfl⟩
          case measure => simp [intOf]
        · have hqm : q = -1 := by omega
          subst hqm
          have hj8 : j = 8 := by omega
          subst hj8
          have HF := Lib.hid (show (feed x (bitOf s[k]) 8).toNat = (moreB (BitVec.ofNat 24 n) (s.data.toList.take (k + 1))).toNat by rw [← addB_feed, HN.out])
          clear hq hj8
          generalize (feed x (bitOf s[k]) 8).toNat = y at *
          go_wp2
          go_round
          case rel => exact ⟨k + 1, by omega, by go_num, by rw [HF.out]⟩
          case measure => simp [intOf]; omega
    · have HZ := Lib.hid (more_all n s k (by omega))
      generalize (moreB (BitVec.ofNat 24 n) (s.data.toList.take k)).toNat = m at *
      go_wp2
      go_ret
      exact ⟨ret_u32 (by rw [HZ.out]), rfl⟩

theorem rsum_any (s : ByteArray) (w : World) (hs : s.size ≤ maxLen) :
    Calls Try.prog 51 #[.string s] w fun e w' => e = .returned (.int .u32 (moreN 11994318 s : Nat)) ∧ w = w' := by
  go_enter Try.func51, Try.ntmps51
  go_wp2_with fail
  refine (rmore_any 11994318 s _ (by omega) hs).mono ?_
  rintro e w' ⟨rfl, rfl⟩
  go_wp2
  go_ret
  exact ⟨rfl, rfl⟩

theorem sumN_one (s : ByteArray) : sumN [s] = moreN 11994318 s := by
  unfold sumN moreN allB
  simp

end Go.Proofs.Ythcolmdfpciolaa
