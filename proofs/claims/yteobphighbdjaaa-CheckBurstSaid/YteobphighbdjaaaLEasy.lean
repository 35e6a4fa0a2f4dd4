/- The walks of the laws CheckTells, CheckMore and CheckApart, out of the contracts: each returns true, whatever it is given; nothing that was there changes. -/
import Derived.Test.YteobphighbdjaaaAwake
namespace Go.Proofs.Yteobphighbdjaaa
open Go.RowKit

theorem moreN_inj (n m : Nat) (s : ByteArray) : moreN n s = moreN m s ↔ n % 16777216 = m % 16777216 := by
  unfold moreN
  rw [BitVec.toNat_inj, moreB_inj]
  constructor
  · intro h
    have := congrArg BitVec.toNat h
    rwa [BitVec.toNat_ofNat, BitVec.toNat_ofNat] at this
  · intro h
    apply BitVec.eq_of_toNat_eq
    rw [BitVec.toNat_ofNat, BitVec.toNat_ofNat]
    exact h

theorem moreN_append (n : Nat) (a b : ByteArray) : moreN (moreN n a) b = moreN n (a ++ b) := by
  unfold moreN
  rw [ofNat_toNat24, ← moreB_append]
  congr 2

set_option maxHeartbeats 400000 in
set_option maxRecDepth 100000 in
theorem tells_walk (n : Nat) (s : ByteArray) (w : World) (hn : n < 4294967296) (hs : s.size ≤ maxLen) :
    Calls Try.prog 3 #[.int .u32 n, .string s] w fun e w' => e = .returned (.bool true) ∧ Below w.heap.size w w' := by
  have HS := Lib.hid hs
  have hs1 := hs
  unfold maxLen at hs1
  clear hs
  by_cases hl : 300 < s.size
  · go_enter Try.func3, Try.ntmps3
    go_wp2_with fail
    refine (awake_true _).mono ?_
    rintro e w1 ⟨rfl, hb1⟩
    go_wp2
    go_ret
    exact ⟨rfl, hb1⟩
  · go_enter Try.func3, Try.ntmps3
    go_wp2_with fail
    refine (sum_one s _ w rfl HS.out).mono ?_
    rintro e w1 ⟨rfl, rfl⟩
    go_wp2_with fail
    refine (rsum_any s _ HS.out).mono ?_
    rintro e w1 ⟨rfl, rfl⟩
    generalize moreN 11994318 s = x
    go_wp2_with fail
    refine (more_any n s _ hn HS.out).mono ?_
    rintro e w1 ⟨rfl, rfl⟩
    go_wp2_with fail
    refine (rmore_any n s _ hn HS.out).mono ?_
    rintro e w1 ⟨rfl, rfl⟩
    generalize moreN n s = y
    go_wp2_with fail
    refine (awake_true _).mono ?_
    rintro e w1 ⟨rfl, hb1⟩
    go_wp2
    go_ret
    exact ⟨rfl, ((Below.refl _ _).alloc (Nat.le_refl _) _).trans (hb1.mono (by simp))⟩

set_option maxHeartbeats 400000 in
set_option maxRecDepth 100000 in
theorem apart_walk (n m : Nat) (s : ByteArray) (w : World) (hn : n < 4294967296) (hm : m < 4294967296) (hs : s.size ≤ maxLen) :
    Calls Try.prog 8 #[.int .u32 n, .int .u32 m, .string s] w fun e w' => e = .returned (.bool true) ∧ Below w.heap.size w w' := by
  have HS := Lib.hid hs
  have hs1 := hs
  unfold maxLen at hs1
  clear hs
  by_cases hl : 300 < s.size
  · go_enter Try.func8, Try.ntmps8
    go_wp2_with fail
    refine (awake_true _).mono ?_
    rintro e w1 ⟨rfl, hb1⟩
    go_wp2
    go_ret
    exact ⟨rfl, hb1⟩
  · obtain ⟨b, hb1, hb2⟩ : ∃ b : Bool, (((moreN n s : Nat) : Int) == ((moreN m s : Nat) : Int)) = b ∧ ((n : Int) % 16777216 == (m : Int) % 16777216) = b := by
      refine ⟨_, rfl, ?_⟩
      have h := moreN_inj n m s
      rw [Bool.eq_iff_iff, beq_iff_eq, beq_iff_eq]
      omega
    go_enter Try.func8, Try.ntmps8
    go_wp2_with fail
    refine (more_any n s _ hn HS.out).mono ?_
    rintro e w1 ⟨rfl, rfl⟩
    go_wp2_with fail
    refine (more_any m s _ hm HS.out).mono ?_
    rintro e w1 ⟨rfl, rfl⟩
    generalize moreN n s = x at *
    generalize moreN m s = y at *
    go_wp2_with fail
    refine (awake_true _).mono ?_
    rintro e w1 ⟨rfl, hb1⟩
    go_wp2
    go_ret
    exact ⟨rfl, hb1⟩

set_option maxHeartbeats 400000 in
set_option maxRecDepth 100000 in
theorem more_walk (n : Nat) (a b : ByteArray) (w : World) (hn : n < 4294967296) (ha : a.size ≤ maxLen) (hb : b.size ≤ maxLen) :
    Calls Try.prog 9 #[.int .u32 n, .string a, .string b] w fun e w' => e = .returned (.bool true) ∧ Below w.heap.size w w' := by
  have HA := Lib.hid ha
  have HB := Lib.hid hb
  have ha1 := ha
  have hb1 := hb
  unfold maxLen at ha1 hb1
  clear ha hb
  by_cases hl : a.size ≤ 300 ∧ b.size ≤ 300
  · obtain ⟨h1, h2⟩ := hl
    have d1 : decide (300 < (a.size : Int)) = false := by simp; omega
    have d2 : decide (300 < (b.size : Int)) = false := by simp; omega
    have HAB := Lib.hid (show (a ++ b).size ≤ maxLen by rw [ByteArray.size_append]; unfold maxLen; omega)
    have HM := Lib.hid (moreN_append n a b)
    have hlt := moreN_lt n a
    go_enter Try.func9, Try.ntmps9
    go_wp2_with fail
    refine (more_any n a _ hn HA.out).mono ?_
    rintro e w1 ⟨rfl, rfl⟩
    go_wp2_with fail
    refine (more_any (moreN n a) b _ (by omega) HB.out).mono ?_
    rintro e w1 ⟨rfl, rfl⟩
    rw [HM.out]
    go_wp2_with fail
    generalize a ++ b = c at *
    refine (more_any n c _ hn HAB.out).mono ?_
    rintro e w1 ⟨rfl, rfl⟩
    generalize moreN n c = y at *
    go_wp2_with fail
    refine (more_any n a _ hn HA.out).mono ?_
    rintro e w1 ⟨rfl, rfl⟩
    generalize moreN n a = x at *
    have hd : decide ((x : Int) < 16777216) = true := by simp; omega
    clear ha1 hb1 HM hlt
    go_wp2_with fail
    refine (awake_true _).mono ?_
    rintro e w1 ⟨rfl, hb1⟩
    go_wp2
    go_ret
    exact ⟨rfl, hb1⟩
  · by_cases h1 : 300 < a.size
    · clear hl
      go_enter Try.func9, Try.ntmps9
      go_wp2_with fail
      refine (awake_true _).mono ?_
      rintro e w1 ⟨rfl, hb1⟩
      go_wp2
      go_ret
      exact ⟨rfl, hb1⟩
    · have d1 : decide (300 < (a.size : Int)) = false := by simp; omega
      have h2 : 300 < b.size := by omega
      clear hl
      go_enter Try.func9, Try.ntmps9
      go_wp2_with fail
      refine (awake_true _).mono ?_
      rintro e w1 ⟨rfl, hb1⟩
      go_wp2
      go_ret
      exact ⟨rfl, hb1⟩

end Go.Proofs.Yteobphighbdjaaa
