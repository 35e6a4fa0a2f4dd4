/- The walks of In, Empty, endsBy, Within, small, Right and of the document's In. -/
import Derived.Test.YtmbcmacegncnmaaRng
import Derived.Test.YtmbcmacegncnmaaStrs
import Derived.Test.YtmbcmacegncnmaaRows
namespace Go.Proofs.Ytmbcmacegncnmaa
open Go.RowKit

set_option maxHeartbeats 400000 in
theorem in_any (lo hi key : ByteArray) (op : Bool) (w : World) :
    Calls Try.prog 13 #[.agg #[.string lo, .string hi, .bool op], .string key] w fun e w' => e = .returned (.bool (inB ⟨lo, hi, op⟩ key)) ∧ Below w.heap.size w w' := by
  cases h1 : (Op.bytesLess lo.toList key.toList || lo.toList == key.toList) with
  | false =>
    have HR := Lib.hid (show inB ⟨lo, hi, op⟩ key = false by simp only [inB, leS, h1, Bool.false_and])
    go_enter Try.func13, Try.ntmps13
    go_wp2
    go_ret
    rw [HR.out]
    exact ⟨rfl, (Below.refl _ _).alloc (Nat.le_refl _) _⟩
  | true =>
    cases op with
    | true =>
      have HR := Lib.hid (show inB ⟨lo, hi, true⟩ key = true by simp only [inB, leS, h1, Bool.true_and, Bool.true_or])
      go_enter Try.func13, Try.ntmps13
      go_wp2
      go_ret
      rw [HR.out]
      exact ⟨rfl, (Below.refl _ _).alloc (Nat.le_refl _) _⟩
    | false =>
      have HR := Lib.hid (show inB ⟨lo, hi, false⟩ key = Op.bytesLess key.toList hi.toList by simp only [inB, leS, ltS, h1, Bool.true_and, Bool.false_or])
      go_enter Try.func13, Try.ntmps13
      go_wp2
      go_ret
      rw [HR.out]
      exact ⟨rfl, (Below.refl _ _).alloc (Nat.le_refl _) _⟩

theorem below1 {w w1 : World} {o : Obj} (h : Below (w.alloc o).heap.size (w.alloc o) w1) : Below w.heap.size w w1 :=
  ((Below.refl _ w).alloc (Nat.le_refl _) o).trans (h.mono (by simp))
theorem below2 {w w1 : World} {o p : Obj} (h : Below ((w.alloc o).alloc p).heap.size ((w.alloc o).alloc p) w1) : Below w.heap.size w w1 :=
  (((Below.refl _ w).alloc (Nat.le_refl _) o).alloc (by simp) p).trans (h.mono (by simp; omega))

set_option maxHeartbeats 400000 in
theorem empty_any (lo hi : ByteArray) (op : Bool) (w : World) :
    Calls Try.prog 16 #[.agg #[.string lo, .string hi, .bool op]] w fun e w' => e = .returned (.bool (emptyB ⟨lo, hi, op⟩)) ∧ Below w.heap.size w w' := by
  have HR := Lib.hid (show emptyB ⟨lo, hi, op⟩ = !inB ⟨lo, hi, op⟩ lo from rfl)
  go_enter Try.func16, Try.ntmps16
  go_wp2_with fail
  refine (in_any lo hi lo op _).mono ?_
  rintro e w1 ⟨rfl, hb1⟩
  generalize inB ⟨lo, hi, op⟩ lo = b at *
  go_wp2
  go_ret
  rw [HR.out]
  exact ⟨rfl, below1 hb1⟩

set_option maxHeartbeats 400000 in
theorem ends_any (lo hi lo2 hi2 : ByteArray) (op op2 : Bool) (w : World) :
    Calls Try.prog 21 #[.agg #[.string lo, .string hi, .bool op], .agg #[.string lo2, .string hi2, .bool op2]] w fun e w' => e = .returned (.bool (endsB ⟨lo, hi, op⟩ ⟨lo2, hi2, op2⟩)) ∧ Below w.heap.size w w' := by
  cases op2 with
  | true =>
    go_enter Try.func21, Try.ntmps21
    go_wp2
    go_ret
    exact ⟨rfl, ((Below.refl _ _).alloc (Nat.le_refl _) _).alloc (by simp) _⟩
  | false =>
    cases op with
    | true =>
      go_enter Try.func21, Try.ntmps21
      go_wp2
      go_ret
      exact ⟨rfl, ((Below.refl _ _).alloc (Nat.le_refl _) _).alloc (by simp) _⟩
    | false =>
      go_enter Try.func21, Try.ntmps21
      go_wp2
      go_ret
      exact ⟨rfl, ((Below.refl _ _).alloc (Nat.le_refl _) _).alloc (by simp) _⟩

set_option maxHeartbeats 400000 in
theorem within_any (lo hi lo2 hi2 : ByteArray) (op op2 : Bool) (w : World) :
    Calls Try.prog 14 #[.agg #[.string lo, .string hi, .bool op], .agg #[.string lo2, .string hi2, .bool op2]] w fun e w' => e = .returned (.bool (withinB ⟨lo, hi, op⟩ ⟨lo2, hi2, op2⟩)) ∧ Below w.heap.size w w' := by
  have HR := Lib.hid (show withinB ⟨lo, hi, op⟩ ⟨lo2, hi2, op2⟩ = (emptyB ⟨lo, hi, op⟩ || ((Op.bytesLess lo2.toList lo.toList || lo2.toList == lo.toList) && endsB ⟨lo, hi, op⟩ ⟨lo2, hi2, op2⟩)) from rfl)
  go_enter Try.func14, Try.ntmps14
  go_wp2_with fail
  refine (empty_any lo hi op _).mono ?_
  rintro e w1 ⟨rfl, hb1⟩
  have hb := below2 hb1
  obtain ⟨hc, hz⟩ : (∀ b o, b < w.heap.size + 2 → w1.cell? ⟨b, o, none⟩ = ((w.alloc (.cells #[.string lo, .string hi, .bool op] 25)).alloc (.cells #[.string lo2, .string hi2, .bool op2] 25)).cell? ⟨b, o, none⟩) ∧ w.heap.size + 2 ≤ w1.heap.size := ⟨fun b o h => hb1.cell (p := ⟨b, o, none⟩) (by simp; omega), by have := hb1.size; simp at this; omega⟩
  generalize emptyB ⟨lo, hi, op⟩ = b1 at *
  cases b1 with
  | true =>
    go_wp2
    go_ret
    rw [HR.out]
    exact ⟨rfl, hb⟩
  | false =>
    cases h1 : (Op.bytesLess lo2.toList lo.toList || lo2.toList == lo.toList) with
    | false =>
      rw [h1] at HR
      go_wp2
      go_ret
      rw [HR.out]
      exact ⟨rfl, hb⟩
    | true =>
      rw [h1] at HR
      go_wp2_with fail
      refine (ends_any lo hi lo2 hi2 op op2 _).mono ?_
      rintro e w2 ⟨rfl, hb2⟩
      generalize endsB ⟨lo, hi, op⟩ ⟨lo2, hi2, op2⟩ = b2 at *
      go_wp2
      go_ret
      rw [HR.out]
      exact ⟨rfl, hb.trans (hb2.mono hb.size)⟩

set_option maxHeartbeats 400000 in
theorem small_any (lo hi : ByteArray) (op : Bool) (w : World) (h1 : lo.size ≤ maxLen) (h2 : hi.size ≤ maxLen) :
    Calls Try.prog 9 #[.agg #[.string lo, .string hi, .bool op]] w fun e w' => e = .returned (.bool (smallB ⟨lo, hi, op⟩)) ∧ Below w.heap.size w w' := by
  unfold maxLen at h1 h2
  by_cases h3 : lo.size ≤ 300
  · have HR := Lib.hid (show smallB ⟨lo, hi, op⟩ = decide ((hi.size : Int) ≤ 300) by unfold smallB; simp only [h3, decide_true, Bool.true_and]; congr 1; exact propext (by omega))
    go_enter Try.func9, Try.ntmps9
    go_wp2
    go_ret
    rw [HR.out]
    exact ⟨rfl, (Below.refl _ _).alloc (Nat.le_refl _) _⟩
  · have HR := Lib.hid (show smallB ⟨lo, hi, op⟩ = false by unfold smallB; simp only [h3, decide_false, Bool.false_and])
    go_enter Try.func9, Try.ntmps9
    go_wp2
    go_ret
    rw [HR.out]
    exact ⟨rfl, (Below.refl _ _).alloc (Nat.le_refl _) _⟩

set_option maxHeartbeats 400000 in
theorem rin_any (lo hi key : ByteArray) (op : Bool) (w : World) :
    Calls Try.prog 10 #[.agg #[.string lo, .string hi, .bool op], .string key] w fun e w' => e = .returned (.bool (inB ⟨lo, hi, op⟩ key)) ∧ Below w.heap.size w w' := by
  have e0 : inB ⟨lo, hi, op⟩ key = (!ltS key lo && (op || ltS key hi)) := by
    unfold inB
    rw [leS_eq]
    congr 1
    rw [Bool.eq_iff_iff, decide_eq_true_eq, le_iff, Bool.not_eq_true']
  have HR := Lib.hid e0
  clear e0
  cases h1 : Op.bytesLess key.toList lo.toList with
  | true =>
    unfold ltS at HR
    rw [h1] at HR
    go_enter Try.func10, Try.ntmps10
    go_wp2
    go_ret
    rw [HR.out]
    exact ⟨rfl, (Below.refl _ _).alloc (Nat.le_refl _) _⟩
  | false =>
    unfold ltS at HR
    rw [h1] at HR
    cases op with
    | true =>
      go_enter Try.func10, Try.ntmps10
      go_wp2
      go_ret
      rw [HR.out]
      exact ⟨rfl, (Below.refl _ _).alloc (Nat.le_refl _) _⟩
    | false =>
      go_enter Try.func10, Try.ntmps10
      go_wp2
      go_ret
      rw [HR.out]
      exact ⟨rfl, (Below.refl _ _).alloc (Nat.le_refl _) _⟩

end Go.Proofs.Ytmbcmacegncnmaa
