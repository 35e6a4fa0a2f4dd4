/- What the laws of (most, things) share. -/
import Derived.Test.YthoffknkpogfhaaKc
import Derived.Test.YthoffknkpogfhaaUq
set_option linter.unusedVariables false
set_option linter.unusedSimpArgs false
namespace Go.Proofs.Ythoffknkpogfhaa
open Go.RowKit

theorem new_s (n : Nat) (h : 1 ≤ n) (h2 : n ≤ 100) (w : World) : Calls Try.prog 21 #[.int .i64 (n : Int)] w fun e w' => e = .returned (.tuple #[.agg #[.int .i64 (n : Int), .slice none 0 0], .int .i64 0]) ∧ Below w.heap.size w w' := by
  have h1 := new_any (n : Int) w
  rw [show mayM (n : Int) = true from by unfold mayM; exact decide_eq_true ⟨by omega, by omega⟩] at h1
  exact h1
theorem right_nil (n : Nat) (h : 1 ≤ n) (h2 : n ≤ 100) : rightL (n : Int) [] = true := by
  rw [right_iff]
  exact ⟨by omega, by omega, by simp, by simp⟩
theorem put_nil (n : Nat) (h : 1 ≤ n) (h2 : n ≤ 100) (xs : List It) : putC (n : Int) [] xs = ((uniq xs.reverse).take n, (putL n [] xs).2) := by
  unfold putC
  rw [if_pos (right_nil n h h2), ← put_uniq n h]

end Go.Proofs.Ythoffknkpogfhaa
