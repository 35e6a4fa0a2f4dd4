/- The walk of the law PackBytes, out of the contracts: it returns true, whatever the numbers; nothing that was there changes. -/
import Derived.Test.YtngiadcbmfbonaaAwake
namespace Go.Proofs.Ytngiadcbmfbonaa
open Go.RowKit

theorem two_bytes (a b : Nat) (ha : a < 256) (hb : b < 256) : takeN ⟨#[UInt8.ofNat a, UInt8.ofNat b]⟩ 2 = 256 * a + b ∧ takeR ⟨#[UInt8.ofNat a, UInt8.ofNat b]⟩ 2 = ⟨#[]⟩ ∧ takeE ⟨#[UInt8.ofNat a, UInt8.ofNat b]⟩ 2 = 0 := by
  have hs : (⟨#[UInt8.ofNat a, UInt8.ofNat b]⟩ : ByteArray).size = 2 := rfl
  have e : takeOk ⟨#[UInt8.ofNat a, UInt8.ofNat b]⟩ 2 = true := by simp [takeOk, sized, hs]
  refine ⟨?_, ?_, ?_⟩
  · simp only [takeN, e, if_true]
    show val [UInt8.ofNat a, UInt8.ofNat b] = _
    simp only [val, valFrom, List.foldl_cons, List.foldl_nil, byte_toNat]; omega
  · simp only [takeR, e, if_true, hs]
    exact ba_ext (by rw [Lib.extract_data]; rfl)
  · simp [takeE, e]

theorem num_eight (n : Nat) (h : n < 2 ^ 64) : numS n 8 = be 8 n ∧ numE n 8 = 0 := by
  have e : fits n 8 = true := by simp [fits]; omega
  simp [numS, numE, e]

theorem num_one (a : Nat) (h : a < 256) : numS a 1 = [UInt8.ofNat a] ∧ numE a 1 = 0 := by
  have e : fits a 1 = true := by simp [fits]; omega
  simp [numS, numE, e, be]

set_option maxHeartbeats 400000 in
set_option maxRecDepth 100000 in
theorem bytes_walk (n a b : Nat) (w : World) (hn : n < 2 ^ 64) (ha : a < 256) (hb : b < 256) :
    Calls Try.prog 9 #[.int .u64 n, .int .u8 a, .int .u8 b] w fun e w' => e = .returned (.bool true) ∧ Below w.heap.size w w' := by
  have HN := Lib.hid hn
  obtain ⟨s1, e1⟩ := num_eight n hn
  obtain ⟨s2, e2⟩ := num_one a ha
  obtain ⟨t1, t2, t3⟩ := two_bytes a b ha hb
  have S1 := Lib.hid s1
  have E1 := Lib.hid e1
  have S2 := Lib.hid s2
  have E2 := Lib.hid e2
  have T1 := Lib.hid t1
  have T2 := Lib.hid t2
  have T3 := Lib.hid t3
  clear hn s1 s2 e1 e2 t1 t2 t3
  go_enter Try.func9, Try.ntmps9
  go_wp2_with fail
  refine (num_any n 8 _ HN.out).mono ?_
  rintro e w1 ⟨rfl, hb1⟩
  rw [S1.out, E1.out]
  have hl := be_length 8 n
  generalize be 8 n = q at *
  have HL := Lib.hid hl
  clear hl
  go_wp2_with fail
  refine (num_any a 1 _ (by omega)).mono ?_
  rintro e w2 ⟨rfl, hb2⟩
  rw [S2.out, E2.out]
  have hb02 : Below w.heap.size w w2 := hb1.trans (hb2.mono hb1.size)
  have hcv := conv_two w2 a b (by omega) (by omega) (by omega) (by omega)
  rw [Int.toNat_natCast, Int.toNat_natCast] at hcv
  go_wp2_with fail
  refine (take_any ⟨#[UInt8.ofNat a, UInt8.ofNat b]⟩ 2 _).mono ?_
  rintro e w3 ⟨rfl, hb3⟩
  rw [T1.out, T2.out, T3.out]
  have hb03 : Below w.heap.size w w3 := (hb02.alloc hb02.size _).trans (hb3.mono (by have := hb02.size; simp; omega))
  have hcv1 := conv_one w3 a (by omega) (by omega)
  rw [Int.toNat_natCast] at hcv1
  have hl := HL.out
  go_wp2_with fail
  refine (awake_true _).mono ?_
  rintro e w5 ⟨rfl, hb5⟩
  go_wp2
  go_ret
  exact ⟨rfl, (hb03.alloc hb03.size _).trans (hb5.mono (by have := hb03.size; simp; omega))⟩

end Go.Proofs.Ytngiadcbmfbonaa
