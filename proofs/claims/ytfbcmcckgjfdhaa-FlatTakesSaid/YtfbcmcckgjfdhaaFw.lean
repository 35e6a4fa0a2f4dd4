/- The walks of flat's num, texts and flag, and of the document's num, text and flag. -/
import Derived.Test.YtfbcmcckgjfdhaaTxs
import Derived.Test.YtfbcmcckgjfdhaaFl
set_option linter.unusedVariables false
set_option linter.unusedSimpArgs false
namespace Go.Proofs.Ytfbcmcckgjfdhaa
open Go.RowKit

theorem nS_num {n k : Nat} (h1 : 1 ≤ k) (h8 : k ≤ 8) (hn : n < 256 ^ k) : (⟨(numS n k).toArray⟩ : ByteArray) = nS k n ∧ numE n k = 0 := by
  have e : fits n (k : Int) = true := by simp [fits, hn]; omega
  unfold numS numE nS
  rw [e]
  simp
theorem cat_one (t : ByteArray) : (⟨(cat [t]).toArray⟩ : ByteArray) = textS t := by
  apply ba_ext
  simp [cat]
theorem cat_two (t u : ByteArray) : (⟨(cat [t, u]).toArray⟩ : ByteArray) = textS t ++ textS u := by
  apply ba_ext
  simp [cat]

theorem pow_le8 {k : Nat} (h8 : k ≤ 8) : 256 ^ k ≤ 2 ^ 64 := by
  have h := Nat.pow_le_pow_right (show 0 < 256 by decide) h8
  exact Nat.le_trans h (by decide)

set_option maxHeartbeats 400000 in
set_option maxRecDepth 100000 in
theorem fnum_any (n k : Nat) (w : World) (h1 : 1 ≤ k) (h8 : k ≤ 8) (hn : n < 256 ^ k) :
    Calls Try.prog 67 #[.int .u64 n, .int .i64 k] w fun e w' => e = .returned (.string (nS k n)) ∧ Below w.heap.size w w' := by
  obtain ⟨e1, e2⟩ := nS_num h1 h8 hn
  have hc := fun w => num_any n k w (Nat.lt_of_lt_of_le hn (pow_le8 h8))
  rw [e1, e2] at hc
  have HC := Lib.hid hc
  clear hc e1 e2 hn
  go_enter Try.func67, Try.ntmps67
  go_wp2_with fail
  refine (HC.out _).mono ?_
  rintro e w1 ⟨rfl, hb⟩
  go_wp2
  go_ret
  exact ⟨rfl, hb⟩

set_option maxHeartbeats 400000 in
set_option maxRecDepth 100000 in
theorem ftexts_any (A : Option Addr) (c : Nat) (ss : List ByteArray) (n : Nat) (t : ByteArray) (w : World) (hl : ss.length = n) (hA : Strs w w.heap.size A ss) (hn : n ≤ 65536) (hs : ∀ t ∈ ss, t.size ≤ maxLen) (ht : textsS ss = t) :
    Calls Try.prog 47 #[.slice A n c] w fun e w' => e = .returned (.string t) ∧ Below w.heap.size w w' := by
  have hc := texts_any A c ss w hA (by omega) hs
  rw [hl, ht] at hc
  obtain ⟨E, hE⟩ : ∃ E, E = textsE ss := ⟨_, rfl⟩
  rw [← hE] at hc
  have HC := Lib.hid hc
  clear hc ht hE hA hs hl
  go_enter Try.func47, Try.ntmps47
  go_wp2_with fail
  refine HC.out.mono ?_
  rintro e w1 ⟨rfl, hb⟩
  go_wp2
  go_ret
  exact ⟨rfl, hb⟩

set_option maxHeartbeats 400000 in
set_option maxRecDepth 100000 in
theorem fflag_any (b : Bool) (w : World) :
    Calls Try.prog 48 #[.bool b] w fun e w' => e = .returned (.string (fS b)) ∧ Below w.heap.size w w' := by
  cases b with
  | true =>
    have hc := fun w => fnum_any 1 1 w (by decide) (by decide) (by decide)
    have HC := Lib.hid hc
    clear hc
    go_enter Try.func48, Try.ntmps48
    go_wp2_with fail
    refine (HC.out _).mono ?_
    rintro e w1 ⟨rfl, hb⟩
    go_wp2
    go_ret
    exact ⟨rfl, hb⟩
  | false =>
    have hc := fun w => fnum_any 0 1 w (by decide) (by decide) (by decide)
    have HC := Lib.hid hc
    clear hc
    go_enter Try.func48, Try.ntmps48
    go_wp2_with fail
    refine (HC.out _).mono ?_
    rintro e w1 ⟨rfl, hb⟩
    go_wp2
    go_ret
    exact ⟨rfl, hb⟩

set_option maxHeartbeats 400000 in
set_option maxRecDepth 100000 in
theorem dnum_flat (n k : Nat) (w : World) (h1 : 1 ≤ k) (h8 : k ≤ 8) (hn : n < 256 ^ k) :
    Calls Try.prog 49 #[.int .u64 n, .int .i64 k] w fun e w' => e = .returned (.string (nS k n)) ∧ Below w.heap.size w w' := by
  obtain ⟨e1, e2⟩ := nS_num h1 h8 hn
  have hc := fun w => dnum_any n k w (Nat.lt_of_lt_of_le hn (pow_le8 h8))
  rw [e1, e2] at hc
  have HC := Lib.hid hc
  clear hc e1 e2 hn
  go_enter Try.func49, Try.ntmps49
  go_wp2_with fail
  refine (HC.out _).mono ?_
  rintro e w1 ⟨rfl, hb⟩
  go_wp2
  go_ret
  exact ⟨rfl, hb⟩

set_option maxHeartbeats 400000 in
set_option maxRecDepth 100000 in
theorem dtext_flat (t : ByteArray) (w : World) (ht : t.size ≤ maxLen) :
    Calls Try.prog 53 #[.string t] w fun e w' => e = .returned (.string (textS t)) ∧ Below w.heap.size w w' := by
  have hc := fun w => rtext_any t w ht
  obtain ⟨E, hE⟩ : ∃ E, E = textE t := ⟨_, rfl⟩
  obtain ⟨S, hS⟩ : ∃ S, S = textS t := ⟨_, rfl⟩
  rw [← hE, ← hS] at hc
  rw [← hS]
  have HC := Lib.hid hc
  clear hc hE hS
  go_enter Try.func53, Try.ntmps53
  go_wp2_with fail
  refine (HC.out _).mono ?_
  rintro e w1 ⟨rfl, hb⟩
  go_wp2
  go_ret
  exact ⟨rfl, hb⟩

theorem fS_true : fS true = ⟨#[1]⟩ := rfl
theorem fS_false : fS false = ⟨#[0]⟩ := rfl
set_option maxHeartbeats 400000 in
set_option maxRecDepth 100000 in
theorem dflag_any (b : Bool) (w : World) :
    Calls Try.prog 54 #[.bool b] w fun e w' => e = .returned (.string (fS b)) ∧ Below w.heap.size w w' := by
  cases b with
  | true =>
    rw [fS_true]
    go_enter Try.func54, Try.ntmps54
    go_wp2
    go_ret
    exact ⟨rfl, Below.refl _ _⟩
  | false =>
    rw [fS_false]
    go_enter Try.func54, Try.ntmps54
    go_wp2
    go_ret
    exact ⟨rfl, Below.refl _ _⟩

end Go.Proofs.Ytfbcmcckgjfdhaa
