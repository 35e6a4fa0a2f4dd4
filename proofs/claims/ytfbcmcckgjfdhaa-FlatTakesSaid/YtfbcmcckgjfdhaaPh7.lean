/- Regions that draw their order and store once: into a result's block, or into a new one. -/
import Derived.Test.YtfbcmcckgjfdhaaFt
import Derived.Test.YtfbcmcckgjfdhaaPhase
set_option linter.unusedVariables false
set_option linter.unusedSimpArgs false
namespace Go.Proofs.Ytfbcmcckgjfdhaa
open Go.RowKit Go.Sort

theorem phase1 {F : Nat → Nat → Oper → Prop} {l : List Oper} (h : Steps1 (F 0) 0 l) (h1 : Steps1 (F 1) 0 l) : ∀ (p i : Nat) (o : Oper), l.toArray[i]? = some o → p ≤ 1 → F p i o := fun p i o hi hp => by
  match p, hp with
  | 0, _ => exact steps_of h i o hi
  | 1, _ => exact steps_of h1 i o hi

/-- What holds while a result's block q is written: until then nothing that was there turns; then it holds C. -/
structure ResS (wd : World) (q : Nat) (T : TypeId) (C : Array Value) (p : Nat) (wx : World) : Prop where
  ex : Ex q wd wx
  fresh : p = 0 → Below wd.heap.size wd wx
  done : p = 1 → Box wx q T C
theorem ResS.on {wd : World} {q : Nat} {T : TypeId} {C : Array Value} {p : Nat} {wa wb : World} (h : ResS wd q T C p wa) (hb : Below wa.heap.size wa wb) : ResS wd q T C p wb :=
  ⟨h.ex.trans (Ex.of hb), fun e => (h.fresh e).trans (hb.mono (h.fresh e).size), fun e => (h.done e).on hb⟩
theorem ResS.start (wd : World) (q : Nat) (T : TypeId) (C : Array Value) : ResS wd q T C 0 wd.drew :=
  ⟨Ex.of (Below.refl _ _).drew, fun _ => (Below.refl _ _).drew, fun h => absurd h (by decide)⟩
/-- A block that is made, and then written. -/
def NewB (B : Nat) (T : TypeId) (Z C : Array Value) (p : Nat) (v : Value) (w : World) : Prop :=
  ∃ g, v = .pointer (some ⟨g, 0, none⟩) ∧ B ≤ g ∧ (p = 0 → Box w g T Z) ∧ (p = 1 → Box w g T C)
theorem NewB.on {B : Nat} {T : TypeId} {Z C : Array Value} {p : Nat} {v : Value} {w w' : World} (h : NewB B T Z C p v w) (hb : Below w.heap.size w w') : NewB B T Z C p v w' := by
  obtain ⟨g, e, hg, h0, h1⟩ := h
  exact ⟨g, e, hg, fun q => (h0 q).on hb, fun q => (h1 q).on hb⟩

end Go.Proofs.Ytfbcmcckgjfdhaa
