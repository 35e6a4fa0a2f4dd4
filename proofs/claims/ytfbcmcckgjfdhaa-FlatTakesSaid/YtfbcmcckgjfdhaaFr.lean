/- The walks of stretch's Right, of flat's Range, and of the document's Right and Range of ranges, and May. -/
import Derived.Test.YtfbcmcckgjfdhaaFm
set_option linter.unusedVariables false
set_option linter.unusedSimpArgs false
namespace Go.Proofs.Ytfbcmcckgjfdhaa
open Go.RowKit Go.Sort

set_option maxRecDepth 100000 in
set_option maxHeartbeats 1000000 in
theorem sright_any (lo hi : ByteArray) (op : Bool) (w : World) :
    Calls Try.prog 46 #[.agg #[.string lo, .string hi, .bool op]] w fun e w' => e = .returned (.bool (rightB ⟨lo, hi, op⟩)) ∧ Below w.heap.size w w' := by
  obtain ⟨R, hR⟩ : ∃ R, R = rightB ⟨lo, hi, op⟩ := ⟨_, rfl⟩
  rw [← hR]
  rw [rightB_parts] at hR
  obtain ⟨b1, hb1⟩ : ∃ b, b = decide (lo.size ≤ 16) := ⟨_, rfl⟩
  obtain ⟨b2, hb2⟩ : ∃ b, b = decide (hi.size ≤ 17) := ⟨_, rfl⟩
  rw [← hb1, ← hb2] at hR
  have hd1 : decide ((lo.size : Int) ≤ 16) = b1 := by rw [hb1]; exact decide_eq_decide.2 (by omega)
  have hd2 : decide ((hi.size : Int) ≤ 17) = b2 := by rw [hb2]; exact decide_eq_decide.2 (by omega)
  clear hb1 hb2
  obtain ⟨e, he⟩ : ∃ e, hi.toList.isEmpty = e := ⟨_, rfl⟩
  rw [he] at hR
  have HR := Lib.hid hR
  clear hR
  cases b1 <;> cases b2 <;> cases op <;> cases e <;>
  · go_enter Try.func46, Try.ntmps46
    go_wp2
    go_ret
    rw [HR.out]
    exact ⟨rfl, (Below.refl _ _).alloc (Nat.le_refl _) _⟩

set_option maxRecDepth 100000 in
set_option maxHeartbeats 1000000 in
theorem dright_rng (lo hi : ByteArray) (op : Bool) (w : World) :
    Calls Try.prog 52 #[.agg #[.string lo, .string hi, .bool op]] w fun e w' => e = .returned (.bool (rightB ⟨lo, hi, op⟩)) ∧ Below w.heap.size w w' := by
  obtain ⟨R, hR⟩ : ∃ R, R = rightB ⟨lo, hi, op⟩ := ⟨_, rfl⟩
  rw [← hR]
  rw [rightB_parts] at hR
  obtain ⟨b1, hb1⟩ : ∃ b, b = decide (lo.size ≤ 16) := ⟨_, rfl⟩
  obtain ⟨b2, hb2⟩ : ∃ b, b = decide (hi.size ≤ 17) := ⟨_, rfl⟩
  rw [← hb1, ← hb2] at hR
  have hd1 : decide (16 < (lo.size : Int)) = !b1 := by rw [hb1, ← decide_not]; exact decide_eq_decide.2 (by omega)
  have hd2 : decide (17 < (hi.size : Int)) = !b2 := by rw [hb2, ← decide_not]; exact decide_eq_decide.2 (by omega)
  clear hb1 hb2
  obtain ⟨e, he⟩ : ∃ e, ((hi.size : Int) == 0) = e := ⟨_, rfl⟩
  have he2 : hi.toList.isEmpty = e := by
    rw [← he, str_empty]
    by_cases h : hi = noB
    · subst h; rfl
    · rw [decide_eq_false h]
      have : hi.size ≠ 0 := fun h0 => h (by
        apply ByteArray.ext
        apply Array.eq_empty_of_size_eq_zero
        exact h0)
      exact (beq_eq_false_iff_ne.2 (by omega)).symm
  rw [he2] at hR
  clear he2
  have HR := Lib.hid hR
  clear hR
  cases b1 <;> cases b2 <;> cases op <;> cases e <;>
  · simp only [Bool.not_true, Bool.not_false] at hd1 hd2
    go_enter Try.func52, Try.ntmps52
    go_wp2
    go_ret
    rw [HR.out]
    exact ⟨rfl, (Below.refl _ _).alloc (Nat.le_refl _) _⟩

theorem may_in {s : Int} {k : ByteArray} {had : Bool} {xb : ByteArray} {has : Bool} {xa : ByteArray} (h1 : 1 ≤ s) (h2 : s ≤ 2147483647) (h3 : k.size ≤ 16) (h4 : xb.size ≤ 32) (h5 : xa.size ≤ 32) :
    mayC ⟨s, k, had, xb, has, xa⟩ = ((had || has) && (had || xb.toList.isEmpty) && (has || xa.toList.isEmpty)) := by
  rw [may_parts, decide_eq_true h1, decide_eq_true h2, decide_eq_true h3, str_empty, str_empty]
  unfold sideB
  rw [decide_eq_true h4, decide_eq_true h5]
  cases had <;> cases has <;> simp

set_option maxRecDepth 100000 in
set_option maxHeartbeats 2000000 in
theorem dmay_any (s : Int) (k : ByteArray) (had : Bool) (xb : ByteArray) (has : Bool) (xa : ByteArray) (w : World) :
    Calls Try.prog 21 #[.agg #[.int .i64 s, .string k, .bool had, .string xb, .bool has, .string xa]] w fun e w' => e = .returned (.bool (mayC ⟨s, k, had, xb, has, xa⟩)) ∧ Below w.heap.size w w' := by
  obtain ⟨R, hR⟩ : ∃ R, R = mayC ⟨s, k, had, xb, has, xa⟩ := ⟨_, rfl⟩
  rw [← hR]
  have hF : ¬ (1 ≤ s ∧ s ≤ 2147483647 ∧ k.size ≤ 16 ∧ xb.size ≤ 32 ∧ xa.size ≤ 32) → R = false := fun hn => by
    rw [hR]
    cases hh : mayC ⟨s, k, had, xb, has, xa⟩ with
    | false => rfl
    | true => exact absurd (may_of hh) hn
  by_cases h1 : 1 ≤ s
  case neg =>
    obtain rfl := hF (fun h => h1 h.1)
    clear hR hF
    go_enter Try.func21, Try.ntmps21
    go_wp2
    go_ret
    exact ⟨rfl, (Below.refl _ _).alloc (Nat.le_refl _) _⟩
  have hd1 : decide (s < 1) = false := by simp; omega
  by_cases h2 : s ≤ 2147483647
  case neg =>
    have hd2 : decide (2147483647 < s) = true := by simp; omega
    obtain rfl := hF (fun h => h2 h.2.1)
    clear hR hF
    go_enter Try.func21, Try.ntmps21
    go_wp2
    go_ret
    exact ⟨rfl, (Below.refl _ _).alloc (Nat.le_refl _) _⟩
  have hd2 : decide (2147483647 < s) = false := by simp; omega
  by_cases h3 : k.size ≤ 16
  case neg =>
    have hd3 : decide (16 < (k.size : Int)) = true := by simp; omega
    obtain rfl := hF (fun h => h3 h.2.2.1)
    clear hR hF
    go_enter Try.func21, Try.ntmps21
    go_wp2
    go_ret
    exact ⟨rfl, (Below.refl _ _).alloc (Nat.le_refl _) _⟩
  have hd3 : decide (16 < (k.size : Int)) = false := by simp; omega
  by_cases h4 : xb.size ≤ 32
  case neg =>
    have hd4 : decide (32 < (xb.size : Int)) = true := by simp; omega
    obtain rfl := hF (fun h => h4 h.2.2.2.1)
    clear hR hF
    go_enter Try.func21, Try.ntmps21
    go_wp2
    go_ret
    exact ⟨rfl, (Below.refl _ _).alloc (Nat.le_refl _) _⟩
  have hd4 : decide (32 < (xb.size : Int)) = false := by simp; omega
  by_cases h5 : xa.size ≤ 32
  case neg =>
    have hd5 : decide (32 < (xa.size : Int)) = true := by simp; omega
    obtain rfl := hF (fun h => h5 h.2.2.2.2)
    clear hR hF
    go_enter Try.func21, Try.ntmps21
    go_wp2
    go_ret
    exact ⟨rfl, (Below.refl _ _).alloc (Nat.le_refl _) _⟩
  have hd5 : decide (32 < (xa.size : Int)) = false := by simp; omega
  rw [may_in h1 h2 h3 h4 h5] at hR
  clear hF h1 h2 h3 h4 h5
  obtain ⟨e1, he1⟩ : ∃ e, xb.toList.isEmpty = e := ⟨_, rfl⟩
  obtain ⟨e2, he2⟩ : ∃ e, xa.toList.isEmpty = e := ⟨_, rfl⟩
  rw [he1, he2] at hR
  have HR := Lib.hid hR
  clear hR
  cases had <;> cases has <;> cases e1 <;> cases e2 <;>
  · go_enter Try.func21, Try.ntmps21
    go_wp2
    go_ret
    rw [HR.out]
    exact ⟨rfl, (Below.refl _ _).alloc (Nat.le_refl _) _⟩

end Go.Proofs.Ytfbcmcckgjfdhaa
