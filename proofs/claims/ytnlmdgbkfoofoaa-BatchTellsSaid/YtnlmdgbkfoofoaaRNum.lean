/- The walks of the document's Num and Take. -/
import Derived.Test.YtnlmdgbkfoofoaaPk
import Derived.Laws.BytesArg
set_option linter.unusedVariables false
set_option linter.unusedSimpArgs false
namespace Go.Proofs.Ytnlmdgbkfoofoaa
open Go.RowKit

set_option maxRecDepth 100000 in
theorem conv_one (w : World) (c : Int) (h0 : 0 ≤ c) (h1 : c < 256) : (convert 119 9 (.slice (some ⟨w.heap.size, 0, none⟩) 1 1)).run Try.prog (w.alloc (.cells #[.int .u8 c] 5)) = .ok (.string ⟨#[UInt8.ofNat c.toNat]⟩) (w.alloc (.cells #[.int .u8 c] 5)) := by
  have h := World.ownsRow_lit (base := w.heap.size) (e := 5) (size := 1) w #[.int .u8 c] 1 (Nat.le_refl _) (by unfold maxLen; omega) rfl
  have hc : Lib.byteCells [UInt8.ofNat c.toNat] = [.int .u8 c] := by
    simp [Lib.byteCells]; omega
  have := conv_own (w := w.alloc (.cells #[.int .u8 c] 5)) (base := w.heap.size) (g := w.heap.size) (cap := 1) (l := [UInt8.ofNat c.toNat]) (by rw [hc]; exact h)
  simpa using this

set_option maxHeartbeats 400000 in
set_option maxRecDepth 100000 in
theorem dnum_size (n k : Int) (w : World) (h : k < 1 ∨ 8 < k) :
    Calls Try.prog 61 #[.int .u64 n, .int .i64 k] w fun e w' => e = .returned (.tuple #[.string ⟨#[]⟩, .int .i64 1]) ∧ Below w.heap.size w w' := by
  rcases h with h | h
  · go_enter Try.func61, Try.ntmps61
    go_wp2
    go_ret2
    exact ⟨rfl, Below.refl _ _⟩
  · have h2 : ¬ k < 1 := by omega
    go_enter Try.func61, Try.ntmps61
    go_wp2
    go_ret2
    exact ⟨rfl, Below.refl _ _⟩

set_option maxHeartbeats 400000 in
set_option maxRecDepth 100000 in
theorem dnum_in (n k : Nat) (w : World) (h1 : 1 ≤ k) (h8 : k ≤ 8) (hn : n < 2 ^ 64) :
    Calls Try.prog 61 #[.int .u64 n, .int .i64 k] w fun e w' => e = .returned (.tuple #[.string ⟨(numS n k).toArray⟩, .int .i64 (numE n k)]) ∧ Below w.heap.size w w' := by
  have hd : decide (8 < (k : Int)) = false := by simp; omega
  have hn2 : (n : Int) ≤ 18446744073709551615 := by omega
  clear hn
  go_enter Try.func61, Try.ntmps61
  go_wp2
  go_loopw [0, 6, 7] (fun t s i wr => ∃ (j : Nat), t = .int .u64 ((n / 256 ^ j : Nat) : Int) ∧ s = .string ⟨(be j n).toArray⟩ ∧ i = .int .i64 j ∧ j ≤ k ∧ Below w.heap.size w wr) (fun _ _ i _ => (k - intOf i).toNat)
  case atStart => exact ⟨0, by simp, rfl, rfl, by omega, Below.refl _ _⟩
  case round =>
    obtain ⟨j, rfl, rfl, rfl, hj, hbr⟩ := hrel
    obtain ⟨x, hx⟩ : ∃ x, x = n / 256 ^ j := ⟨_, rfl⟩
    rw [← hx]
    have Hx := Lib.hid hx
    have hxn : x ≤ n := by rw [hx]; exact Nat.div_le_self _ _
    clear hx
    by_cases hjk : j < k
    · have hcv := conv_one wr ((x : Int) % 256) (by omega) (by omega)
      have hl : ¬ 9223372036854775807 < 1 + (be j n).length := by rw [be_length]; omega
      go_wp2
      go_roundw
      case rel =>
        have hxe := Hx.out
        refine ⟨j + 1, ?_, ?_, by go_num, by omega, hbr.alloc hbr.size _⟩
        · have e : n / 256 ^ (j + 1) = x / 256 := by rw [hxe, Nat.pow_succ, Nat.div_div_eq_div_mul]
          rw [e]; go_num
        · have e := ba_append [UInt8.ofNat (x % 256)] (be j n)
          refine congrArg Value.string (e.trans ?_)
          congr 2
          show _ :: _ = _ :: _
          congr 1
          apply UInt8.toNat_inj.1
          rw [byte_toNat, byte_toNat, hxe]; omega
      case measure => simp [intOf]; omega
    · have hkj : k = j := by omega
      have Hk := Lib.hid hkj
      clear hkj
      by_cases hx0 : 0 < x
      · have e : fits n (k : Int) = false := by
          have := Hx.out; rw [← Hk.out] at this
          have : 256 ^ k ≤ n := by
            rcases Nat.lt_or_ge n (256 ^ k) with hl | hl
            · rw [Nat.div_eq_of_lt hl] at this; omega
            · exact hl
          simp [fits]; intros; omega
        have HS := Lib.hid (show numS n k = [] by simp [numS, e])
        have HE := Lib.hid (show numE n k = 1 by simp [numE, e])
        clear e
        go_wp2
        go_ret2
        rw [HS.out, HE.out]
        exact ⟨rfl, hbr⟩
      · have e : fits n (k : Int) = true := by
          have := Hx.out; rw [← Hk.out] at this
          have hp : 0 < 256 ^ k := Nat.pow_pos (by decide)
          have : n < 256 ^ k := by
            rcases Nat.lt_or_ge n (256 ^ k) with hl | hl
            · exact hl
            · have := (Nat.le_div_iff_mul_le hp).2 (show 1 * 256 ^ k ≤ n by omega); omega
          simp [fits, this]; omega
        have HS := Lib.hid (show numS n k = be j n by unfold numS; rw [if_pos e, Int.toNat_natCast, Hk.out])
        have HE := Lib.hid (show numE n k = 0 by simp [numE, e])
        clear e
        go_wp2
        go_ret2
        rw [HS.out, HE.out]
        exact ⟨rfl, hbr⟩

theorem dnum_any (n : Nat) (k : Int) (w : World) (hn : n < 2 ^ 64) :
    Calls Try.prog 61 #[.int .u64 n, .int .i64 k] w fun e w' => e = .returned (.tuple #[.string ⟨(numS n k).toArray⟩, .int .i64 (numE n k)]) ∧ Below w.heap.size w w' := by
  by_cases h : 1 ≤ k ∧ k ≤ 8
  · obtain ⟨m, rfl⟩ := Int.eq_ofNat_of_zero_le (show 0 ≤ k by omega)
    exact dnum_in n m w (by omega) (by omega) hn
  · have e : fits n k = false := by
      simp only [fits, Bool.and_eq_false_iff, decide_eq_false_iff_not]; omega
    simp only [numS, numE, e]
    exact dnum_size n k w (by omega)

set_option maxHeartbeats 400000 in
set_option maxRecDepth 100000 in
theorem dtake_size (s : ByteArray) (k : Int) (w : World) (h : k < 1 ∨ 8 < k) :
    Calls Try.prog 74 #[.string s, .int .i64 k] w fun e w' => e = .returned (.tuple #[.int .u64 0, .string ⟨#[]⟩, .int .i64 1]) ∧ Below w.heap.size w w' := by
  rcases h with h | h
  · go_enter Try.func74, Try.ntmps74
    go_wp2
    go_ret3
    exact ⟨rfl, Below.refl _ _⟩
  · have h2 : ¬ k < 1 := by omega
    go_enter Try.func74, Try.ntmps74
    go_wp2
    go_ret3
    exact ⟨rfl, Below.refl _ _⟩

set_option maxHeartbeats 400000 in
set_option maxRecDepth 100000 in
theorem dtake_short (s : ByteArray) (k : Nat) (w : World) (h1 : 1 ≤ k) (h8 : k ≤ 8) (h : s.size < k) :
    Calls Try.prog 74 #[.string s, .int .i64 k] w fun e w' => e = .returned (.tuple #[.int .u64 0, .string ⟨#[]⟩, .int .i64 2]) ∧ Below w.heap.size w w' := by
  have hd : decide (8 < (k : Int)) = false := by simp; omega
  go_enter Try.func74, Try.ntmps74
  go_wp2
  go_ret3
  exact ⟨rfl, Below.refl _ _⟩

theorem wrap_u64_byte (c : UInt8) : IntKind.u64.wrap (c.toNat : Int) = (c.toNat : Int) := by
  have hc := c.toNat_lt
  simp [IntKind.wrap, IntKind.bits, IntKind.signed]; omega

set_option maxHeartbeats 400000 in
set_option maxRecDepth 100000 in
theorem dtake_ok (s : ByteArray) (k : Nat) (w : World) (h1 : 1 ≤ k) (h8 : k ≤ 8) (h : k ≤ s.size) :
    Calls Try.prog 74 #[.string s, .int .i64 k] w fun e w' => e = .returned (.tuple #[.int .u64 (val (s.data.toList.take k)), .string (s.extract k s.size), .int .i64 0]) ∧ Below w.heap.size w w' := by
  have hd1 : decide ((k : Int) < 1) = false := by simp; omega
  have hd2 : decide (8 < (k : Int)) = false := by simp; omega
  have hd : decide (s.size < k) = false := by simp; omega
  go_enter Try.func74, Try.ntmps74
  go_wp2
  go_loopw [7, 8] (fun t i wr => ∃ (j : Nat), t = .int .u64 (val (s.data.toList.take j) : Int) ∧ i = .int .i64 j ∧ j ≤ k ∧ Below w.heap.size w wr) (fun _ i _ => (k - intOf i).toNat)
  case atStart => exact ⟨0, by simp [val, valFrom], rfl, by omega, Below.refl _ _⟩
  case round =>
    obtain ⟨j, rfl, rfl, hj, hbr⟩ := hrel
    have hvl := val_lt (s.data.toList.take j)
    obtain ⟨x, hx⟩ : ∃ x, x = val (s.data.toList.take j) := ⟨_, rfl⟩
    rw [← hx] at hvl ⊢
    have Hx := Lib.hid hx
    clear hx
    by_cases hjk : j < k
    · have hx56 : x < 72057594037927936 := by
        refine Nat.lt_of_lt_of_le hvl ?_
        rw [List.length_take]
        exact Nat.le_trans (Nat.pow_le_pow_right (by decide) (show min j s.data.toList.length ≤ 7 by omega)) (by decide)
      clear hvl
      have hjs : j < s.size := by omega
      have hcb : s[j].toNat < 256 := s[j].toNat_lt
      go_wp2
      go_roundw
      case rel =>
        refine ⟨j + 1, ?_, by go_num, by omega, hbr⟩
        rw [take_snoc s j hjs, val_snoc, ← Hx.out]; go_num
      case measure => simp [intOf]; omega
    · have hkj : k = j := by omega
      have Hk := Lib.hid hkj
      clear hkj hvl
      go_wp2
      go_quiet (fail)
      go_wp2
      go_ret3
      have e := Hx.out
      rw [← Hk.out] at e
      rw [← e]
      exact ⟨rfl, below_drewN hbr _⟩

theorem dtake_any (s : ByteArray) (k : Int) (w : World) :
    Calls Try.prog 74 #[.string s, .int .i64 k] w fun e w' => e = .returned (.tuple #[.int .u64 (takeN s k), .string (takeR s k), .int .i64 (takeE s k)]) ∧ Below w.heap.size w w' := by
  by_cases h : 1 ≤ k ∧ k ≤ 8
  · obtain ⟨h1, h8⟩ := h
    obtain ⟨m, rfl⟩ := Int.eq_ofNat_of_zero_le (show 0 ≤ k by omega)
    have es : sized (m : Int) = true := by simp [sized, h1, h8]
    by_cases hf : m ≤ s.size
    · have e : takeOk s (m : Int) = true := by simp [takeOk, es, hf]
      simp only [takeN, takeR, takeE, e, if_true, Int.toNat_natCast]
      exact dtake_ok s m w (by omega) (by omega) hf
    · have e : takeOk s (m : Int) = false := by simp [takeOk, es]; omega
      simp only [takeN, takeR, takeE, e, es]
      exact dtake_short s m w (by omega) (by omega) (by omega)
  · have es : sized k = false := by simp only [sized, Bool.and_eq_false_iff, decide_eq_false_iff_not]; omega
    have e : takeOk s k = false := by simp [takeOk, es]
    simp only [takeN, takeR, takeE, e, es]
    exact dtake_size s k w (by omega)

end Go.Proofs.Ytnlmdgbkfoofoaa
