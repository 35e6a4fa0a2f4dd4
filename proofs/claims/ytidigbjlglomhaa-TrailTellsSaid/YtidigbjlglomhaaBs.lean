/- Small facts that the walks of this layer share: strings, worlds, rows of the call's own. -/
import Derived.Test.YtidigbjlglomhaaLies
import Derived.Test.YtidigbjlglomhaaBox
import Derived.Test.YtidigbjlglomhaaInv
import Derived.Test.YtidigbjlglomhaaProg
import Derived.Test.YtidigbjlglomhaaRng
import Derived.Maps.AppendAt
import Derived.Laws.AppendOwnNone
import Derived.Laws.OwnMore
import Derived.OwnWalk
import Derived.Below
import Derived.Lib.Hide
import Derived.Deep.AppendLies
import Derived.BigQuiet
import Derived.Deep.QuietTactic
import Derived.Deep.DeepCutAuto
set_option linter.unusedVariables false
set_option linter.unusedSimpArgs false
namespace Go.Proofs.Ytidigbjlglomhaa
open Go.RowKit

abbrev noB : ByteArray := ⟨#[]⟩
theorem str_some {x : ByteArray} (h : x ≠ noB) : x.toList.isEmpty = false := by
  cases hx : x.toList with
  | nil =>
    rw [ByteArray.toList_eq] at hx
    exact absurd (ByteArray.ext (Array.toList_inj.1 hx)) h
  | cons _ _ => rfl
theorem str_empty (x : ByteArray) : x.toList.isEmpty = decide (x = noB) := by
  by_cases h : x = noB
  · rw [h, decide_eq_true rfl, ByteArray.toList_eq]; rfl
  · rw [decide_eq_false h, str_some h]
theorem below1 {w w1 : World} {o : Obj} (h : Below (w.alloc o).heap.size (w.alloc o) w1) : Below w.heap.size w w1 :=
  ((Below.refl _ w).alloc (Nat.le_refl _) o).trans (h.mono (by simp))
theorem below_drewN {w0 w : World} {B : Nat} (h : Below B w0 w) (n : Nat) : Below B w0 (w.drewN n) := ⟨h.os, h.tape, h.output, h.size, h.block⟩
theorem own_shape {w : World} {base e k n : Nat} {v : Value} {xs : List Value} (h : w.ownsRow base e k v n xs) : ∃ A c, v = .slice A n c := by
  rcases h.2 with ⟨rfl, rfl⟩ | ⟨g, cap, cur, rfl, _⟩
  · exact ⟨_, _, rfl⟩
  · exact ⟨_, _, rfl⟩
theorem row_cap {w : World} {base n k c : Nat} {e : TypeId} {A : Option Addr} {xs : List Value} (h : w.ownsRow base e k (.slice A n c) n xs) : n ≤ c ∧ (A = none → c = 0) := by
  rcases h.2 with ⟨hv, h0⟩ | ⟨g, cap, cur, hv, _, _, h1, _⟩
  · injection hv with e1 e2 e3
    exact ⟨by omega, fun _ => e3⟩
  · injection hv with e1 e2 e3
    exact ⟨by omega, fun h => by rw [e1] at h; cases h⟩

theorem own_below {w w' : World} {base n k : Nat} {e : TypeId} {v : Value} {xs : List Value} (h : w.ownsRow base e k v n xs) (hb : Below w.heap.size w w') : w'.ownsRow base e k v n xs := by
  obtain ⟨A, c, rfl⟩ := own_shape h
  exact h.kept (row := .none) ⟨hb.os, hb.tape, hb.output, hb.size, fun k hk _ => hb.block k hk⟩ (by cases A <;> simp [Value.ownBlock])

/-- Two rows of the call's own that lie in unlike blocks. -/
def Apart2 (a b : Value) : Prop := b.ownBlock = none ∨ b.ownBlock ≠ a.ownBlock
theorem Apart2.symm {a b : Value} (h : Apart2 a b) : Apart2 b a := by
  unfold Apart2 at *
  cases ha : a.ownBlock with
  | none => exact .inl rfl
  | some g =>
    right
    rcases h with h | h
    · rw [h]; simp
    · rw [ha] at h; exact fun e => h e.symm
theorem own_lt {w : World} {base e k n : Nat} {b : Value} {xs : List Value} (h : w.ownsRow base e k b n xs) {g : Nat} (hg : b.ownBlock = some g) : base ≤ g ∧ g < w.heap.size := by
  obtain ⟨A, c, rfl⟩ := own_shape h
  exact h.lt g hg
theorem Apart2.grow {w : World} {base e k n : Nat} {a a' b : Value} {xs : List Value} (h : Apart2 a b) (hb : w.ownsRow base e k b n xs) (hat : a'.ownBlock = a.ownBlock ∨ ∃ q, w.heap.size ≤ q ∧ a'.ownBlock = some q) : Apart2 a' b := by
  unfold Apart2 at *
  rcases hat with e | ⟨q, hq, e⟩
  · rw [e]; exact h
  · cases hbb : b.ownBlock with
    | none => exact .inl rfl
    | some g =>
      right
      have := own_lt hb hbb
      rw [e]
      intro h
      injection h with h
      omega
/-- A row of the call's own, behind what grew another one. -/
theorem own_grown {w w' : World} {base n k : Nat} {e : TypeId} {a b : Value} {xs : List Value} (hb : w.ownsRow base e k b n xs) (hg : w.grownBy w' a.ownBlock) (hap : Apart2 a b) : w'.ownsRow base e k b n xs := by
  obtain ⟨A, c, rfl⟩ := own_shape hb
  refine hb.kept hg ?_
  unfold Apart2 at hap
  exact hap

theorem own_unlike {w : World} {b b' n n' k k' : Nat} {T U : TypeId} {v u : Value} {xs ys : List Value} (h : w.ownsRow b T k v n xs) (g : w.ownsRow b' U k' u n' ys) (hTU : T ≠ U) : Apart2 v u := by
  rcases g.2 with ⟨rfl, _⟩ | ⟨q, cap, cur, rfl, _, h1, _⟩
  · exact .inl rfl
  · right
    intro e
    rcases h.2 with ⟨rfl, _⟩ | ⟨q', cap', cur', rfl, _, h2, _⟩
    · simp [Value.ownBlock] at e
    · have e1 : q = q' := by simpa [Value.ownBlock] using e
      subst e1
      rw [h1] at h2
      injection h2 with h2
      injection h2 with _ h2 _
      exact hTU h2.symm

end Go.Proofs.Ytidigbjlglomhaa
