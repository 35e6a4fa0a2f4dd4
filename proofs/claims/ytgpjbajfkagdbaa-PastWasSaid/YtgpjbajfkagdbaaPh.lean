/- Regions that draw their order and write: what holds in each phase; calls that write; what may have been written beside a block and a row. -/
import Derived.Test.YtgpjbajfkagdbaaCv
import Derived.Test.YtgpjbajfkagdbaaPhase
import Derived.Deep.DeepCutAuto
import Derived.Deep.QuietTactic
import Derived.BigQuiet
set_option linter.unusedVariables false
set_option linter.unusedSimpArgs false
namespace Go.Proofs.Ytgpjbajfkagdbaa
open Go.RowKit

theorem phase1 {F : Nat → Nat → Oper → Prop} {l : List Oper} (h : Steps1 (F 0) 0 l) (h1 : Steps1 (F 1) 0 l) : ∀ (p i : Nat) (o : Oper), l.toArray[i]? = some o → p ≤ 1 → F p i o := fun p i o hi hp => by
  match p, hp with
  | 0, _ => exact steps_of h i o hi
  | 1, _ => exact steps_of h1 i o hi
/-- What holds in each phase. -/
def SP (S0 S1 S2 : World → Prop) (p : Nat) (wx : World) : Prop := match p with
  | 0 => S0 wx
  | 1 => S1 wx
  | _ => S2 wx
theorem SP.on {S0 S1 S2 : World → Prop} {R : World → World → Prop} (h0 : ∀ wa wb, R wa wb → S0 wa → S0 wb) (h1 : ∀ wa wb, R wa wb → S1 wa → S1 wb) (h2 : ∀ wa wb, R wa wb → S2 wa → S2 wb) : ∀ p wa wb, R wa wb → SP S0 S1 S2 p wa → SP S0 S1 S2 p wb := by
  intro p wa wb h hs
  unfold SP at *
  split at hs
  · exact h0 _ _ h hs
  · exact h1 _ _ h hs
  · exact h2 _ _ h hs
theorem below_grow {w0 : World} : ∀ wa wb, Below wa.heap.size wa wb → Below w0.heap.size w0 wa → Below w0.heap.size w0 wb := fun _ _ h1 h2 => h2.trans (h1.mono h2.size)

section
variable {P : Program} {ops : Array Oper} {Q : Exit → Act → World → Prop} {marks T : List Nat} {J : Act → World → Prop} {S : Nat → World → Prop} {V : Nat → Nat → Value → World → Prop} {R : World → World → Prop} {p i d : Nat} {o : Oper} {a : Act} {w : World}
/-- A call that is marked. -/
theorem step_marked_call {w1 : World} {f : FuncId} {args : Array Value} (hi : ops[i]? = some o) (hd : o.dst = some d) (hk : marks.contains i = true) (hw : Region.wanted o (yielded ops a.tmps) = true)
    (hr : (execOp a.eval o).run P w = .ok (.enter f args) w1)
    (hc : Calls P f args w1 fun e w' => ∃ v, e = .returned v ∧ S (p + 1) w' ∧ J (a.put (some d) v) w' ∧ V (p + 1) d v w' ∧ ∀ t u, (dsts ops).contains t = true → t ≠ d → a.tmps[t]? = some u → V p t u w → V (p + 1) t u w') : wpOp P ops Q i (Made2 ops marks T J S V R p i o a w) a w := by
  unfold wpOp
  simp only [hi, hw, if_true, Oper.wp, hr, Oper.upon]
  refine .inl (Calls.mono hc fun e w' h => ?_)
  obtain ⟨v, rfl, hS, hJ, hVd, hV⟩ := h
  refine made_marked hk ⟨v, rfl, hS, by rw [hd]; exact hJ, fun d' h => by rw [hd] at h; injection h with h; subst h; exact hVd, fun t u h1 h2 h3 h4 => hV t u h1 (fun e => h2 (by rw [hd, e])) h3 h4⟩
end

theorem grown_trans {r : Option Nat} {a b c : World} (h : a.grownBy b r) (k : b.grownBy c r) : a.grownBy c r :=
  ⟨k.os.trans h.os, k.tape.trans h.tape, k.output.trans h.output, Nat.le_trans h.size k.size, fun i hi hn => (k.block i (Nat.lt_of_lt_of_le hi h.size) hn).trans (h.block i hi hn)⟩
/-- Of what was there the block g alone may have been written. -/
abbrev Ex (g : Nat) (w w' : World) : Prop := w.grownBy w' (some g)
theorem Ex.refl (g : Nat) (w : World) : Ex g w w := ⟨rfl, rfl, rfl, Nat.le_refl _, fun _ _ _ => rfl⟩
theorem Ex.trans {g : Nat} {a b c : World} (h : Ex g a b) (k : Ex g b c) : Ex g a c := grown_trans h k
theorem Ex.of {g : Nat} {w w' : World} (h : Below w.heap.size w w') : Ex g w w' := ⟨h.os, h.tape, h.output, h.size, fun k hk _ => h.block k hk⟩
theorem Ex.set {g i : Nat} (w : World) (v : Value) : Ex g w (w.setCell ⟨g, i, none⟩ v) :=
  ⟨rfl, rfl, rfl, by simp [World.setCell], fun k _ hn => Below.heap_setCell _ _ _ _ (fun e => hn (by rw [e]))⟩
theorem Ex.below {g B : Nat} {w0 w w' : World} (h : Below B w0 w) (k : Ex g w w') (hg : B ≤ g) (hB : B ≤ w.heap.size) : Below B w0 w' := h.grown k hB (fun _ e => by cases e; exact hg)
theorem Ex.box {g q : Nat} {w w' : World} {t : TypeId} {C : Array Value} (k : Ex g w w') (h : Box w q t C) (hq : q ≠ g) : Box w' q t C := h.grown k (by simp [hq])
theorem below_row {w w' : World} (h : Below w.heap.size w w') (r : Option Nat) : w.grownBy w' r := ⟨h.os, h.tape, h.output, h.size, fun k hk _ => h.block k hk⟩
theorem own_on {w w' : World} {base e k n : Nat} {v : Value} {xs : List Value} (h : w.ownsRow base e k v n xs) (hb : Below w.heap.size w w') : w'.ownsRow base e k v n xs := by
  obtain ⟨A, c, rfl⟩ := own_shape h
  cases A with
  | none => exact h.kept (below_row hb (some 0)) (.inl rfl)
  | some a => exact h.kept (below_row hb none) (.inr (by simp [Value.ownBlock]))
theorem own_more {w : World} {base base' e k n : Nat} {v : Value} {xs : List Value} (h : w.ownsRow base e k v n xs) (hb : base' ≤ base) : w.ownsRow base' e k v n xs := by
  refine ⟨h.1, ?_⟩
  rcases h.2 with hn | ⟨g, cap, cur, e1, h1, h2⟩
  · exact .inl hn
  · exact .inr ⟨g, cap, cur, e1, by omega, h2⟩

/-- Of what was there the block g, and the row's block r, alone may have been written. -/
structure K2 (g : Nat) (r : Option Nat) (w w' : World) : Prop where
  os : w'.os = w.os
  tape : w'.tape = w.tape
  output : w'.output = w.output
  size : w.heap.size ≤ w'.heap.size
  block : ∀ k, k < w.heap.size → k ≠ g → some k ≠ r → w'.heap[k]? = w.heap[k]?
section
variable {g : Nat} {r r1 : Option Nat} {a b c : World}
theorem K2.refl (g : Nat) (r : Option Nat) (w : World) : K2 g r w w := ⟨rfl, rfl, rfl, Nat.le_refl _, fun _ _ _ _ => rfl⟩
theorem K2.of (h : Below a.heap.size a b) : K2 g r a b := ⟨h.os, h.tape, h.output, h.size, fun k hk _ _ => h.block k hk⟩
theorem K2.row (h : a.grownBy b r) : K2 g r a b := ⟨h.os, h.tape, h.output, h.size, fun k hk _ hr => h.block k hk hr⟩
theorem K2.ex (h : Ex g a b) : K2 g r a b := ⟨h.os, h.tape, h.output, h.size, fun k hk hg _ => h.block k hk (by simp [hg])⟩
theorem K2.trans (h : K2 g r a b) (k : K2 g r1 b c) (hr : r1 = r ∨ ∃ q, a.heap.size ≤ q ∧ r1 = some q) : K2 g r a c :=
  ⟨k.os.trans h.os, k.tape.trans h.tape, k.output.trans h.output, Nat.le_trans h.size k.size, fun i hi hg hn => (k.block i (Nat.lt_of_lt_of_le hi h.size) hg (by
    rcases hr with e | ⟨q, hq, e⟩
    · rw [e]; exact hn
    · rw [e]; intro e2; injection e2 with e2; omega)).trans (h.block i hi hg hn)⟩
theorem K2.on (h : K2 g r a b) (hb : Below b.heap.size b c) : K2 g r a c := h.trans (K2.of hb) (.inl rfl)
theorem K2.box {q : Nat} {t : TypeId} {C : Array Value} (k : K2 g r a b) (h : Box a q t C) (hq : q ≠ g) (hr : some q ≠ r) : Box b q t C := by
  have := k.block q h.lt hq hr
  unfold Box at *
  rw [this]; exact h
theorem K2.own {base e k n : Nat} {v : Value} {xs : List Value} (h : K2 g r a b) (ho : a.ownsRow base e k v n xs) (hg : v.ownBlock ≠ some g) (hr : v.ownBlock = none ∨ v.ownBlock ≠ r) : b.ownsRow base e k v n xs := by
  refine ⟨ho.1, ?_⟩
  rcases ho.2 with hn | ⟨q, cap, cur, rfl, h1, h2, h3⟩
  · exact .inl hn
  · refine .inr ⟨q, cap, cur, rfl, h1, ?_, h3⟩
    rw [h.block q (Array.getElem?_eq_some_iff.1 h2).1 (fun e => hg (by rw [← e]; rfl)) (by
      rcases hr with e | e
      · simp [Value.ownBlock] at e
      · exact e)]
    exact h2
theorem K2.below {B : Nat} {w0 : World} (h : Below B w0 a) (k : K2 g r a b) (hg : B ≤ g) (hr : ∀ q, r = some q → B ≤ q) (hB : B ≤ a.heap.size) : Below B w0 b :=
  ⟨k.os.trans h.os, k.tape.trans h.tape, k.output.trans h.output, Nat.le_trans h.size k.size, fun i hi => (k.block i (by omega) (by omega) (fun e => by have := hr i e.symm; omega)).trans (h.block i hi)⟩
end

/-- What holds while a result's block q is written: until then nothing that was there turns; then it holds C. -/
structure ResS (wd : World) (q : Nat) (T : TypeId) (C : Array Value) (p : Nat) (wx : World) : Prop where
  ex : Ex q wd wx
  fresh : p = 0 → Below wd.heap.size wd wx
  done : p = 1 → Box wx q T C
theorem ResS.on {wd : World} {q : Nat} {T : TypeId} {C : Array Value} {p : Nat} {wa wb : World} (h : ResS wd q T C p wa) (hb : Below wa.heap.size wa wb) : ResS wd q T C p wb :=
  ⟨h.ex.trans (Ex.of hb), fun e => (h.fresh e).trans (hb.mono (h.fresh e).size), fun e => (h.done e).on hb⟩
theorem ResS.start (wd : World) (q : Nat) (T : TypeId) (C : Array Value) : ResS wd q T C 0 wd.drew :=
  ⟨Ex.of (Below.refl _ _).drew, fun _ => (Below.refl _ _).drew, fun h => absurd h (by decide)⟩
/-- A block that is made, and then written. -/
def NewB (B : Nat) (T : TypeId) (Z C : Array Value) (p : Nat) (v : Value) (w : World) : Prop :=
  ∃ g, v = .pointer (some ⟨g, 0, none⟩) ∧ B ≤ g ∧ (p = 0 → Box w g T Z) ∧ (p = 1 → Box w g T C)
theorem NewB.on {B : Nat} {T : TypeId} {Z C : Array Value} {p : Nat} {v : Value} {w w' : World} (h : NewB B T Z C p v w) (hb : Below w.heap.size w w') : NewB B T Z C p v w' := by
  obtain ⟨g, e, hg, h0, h1⟩ := h
  exact ⟨g, e, hg, fun q => (h0 q).on hb, fun q => (h1 q).on hb⟩

end Go.Proofs.Ytgpjbajfkagdbaa
