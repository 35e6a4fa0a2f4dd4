/- A loop over an iterator that may itself hold a loop over an iterator: what the iterator promises (Gives), and the statement's law. Nothing of the program. -/
import Derived.Test.YtgpjbajfkagdbaaInvIn
import Derived.RangeFuncNested
import Derived.RangeFuncBound
import Derived.RangeFuncCalls
set_option linter.unusedVariables false
set_option linter.unusedSimpArgs false
namespace Go.Proofs.Ytgpjbajfkagdbaa
open Go.RowKit

/-- From block B on all lies as it lay, but for rows of elements of type T. -/
structure KeepsNot (T : TypeId) (B : Nat) (W W' : World) : Prop where
  size : W.heap.size ≤ W'.heap.size
  same : ∀ (k : Nat) (o : Obj), B ≤ k → W.heap[k]? = some o → (∀ cs s, o ≠ .cells cs T s) → W'.heap[k]? = some o
theorem KeepsNot.refl (T : TypeId) (B : Nat) (W : World) : KeepsNot T B W W := ⟨Nat.le_refl _, fun _ _ _ h _ => h⟩
theorem KeepsNot.trans {T : TypeId} {B : Nat} {X Y Z : World} (h : KeepsNot T B X Y) (k : KeepsNot T B Y Z) : KeepsNot T B X Z := ⟨Nat.le_trans h.size k.size, fun i o hB hi ho => k.same i o hB (h.same i o hB hi ho) ho⟩
theorem KeepsNot.of_below {T : TypeId} {B n : Nat} {W W' : World} (h : Below n W W') (hn : W.heap.size ≤ n) : KeepsNot T B W W' :=
  ⟨h.size, fun k o _ hk _ => (h.block k (by have := (Array.getElem?_eq_some_iff.1 hk).1; omega)).trans hk⟩
/-- A step that turns one block: one below B, or a row of such elements. -/
theorem KeepsNot.of_grown {T : TypeId} {B : Nat} {W W' : World} {row : Option Nat} (hg : W.grownBy W' row) (hrow : ∀ j, row = some j → j < B ∨ ∃ cs s, W.heap[j]? = some (.cells cs T s)) : KeepsNot T B W W' :=
  ⟨hg.size, fun k o hB hk ho => (hg.block k (Array.getElem?_eq_some_iff.1 hk).1 (fun e => by
    rcases hrow k e.symm with h | ⟨cs, s, h⟩
    · omega
    · rw [hk] at h; exact ho cs s (Option.some.inj h))).trans hk⟩
theorem KeepsNot.less {T : TypeId} {B B' : Nat} {W W' : World} (h : KeepsNot T B W W') (hB : B ≤ B') : KeepsNot T B' W W' := ⟨h.size, fun k o hk => h.same k o (by omega)⟩

/-- How a round may be left. -/
def postO {α : Type} (T : TypeId) (B : Nat) (Kp : World → World → Prop) (I : List α → World → Prop) (Ix : Code → List α → World → Prop) (xs : List α) (W : World) : Exit → Act → World → Prop
  | .normal, _, W' => KeepsNot T B W W' ∧ Kp W W' ∧ I xs W'
  | .ret, _, W' => KeepsNot T B W W' ∧ Ix .ret xs W'
  | .exit _, _, _ => False
  | .goto _, _, _ => False
  | .panic _, _, _ => False
  | .outgrown, _, _ => False

/-- THE ITERATOR's WORD: all of xs come, one by one, or the first ones of them, the last of which a round did not go on behind. What the caller holds abides whatever the iterator does to blocks of its own; a round keeps what Kp says, and, from the iterator's own call on, whatever is no row of elements of type T. -/
def Gives {α : Type} (T : TypeId) (P : Program) (g : Nat) (lb : Array Value) (encs : α → Array Value) (Kp : World → World → Prop) (xs : List α) (w : World) : Prop :=
  ∀ (n l : Nat) (J Jx : List α → World → Prop) (W : World), Below w.heap.size w W → OwnFrom W.heap.size J → OwnFrom W.heap.size Jx →
    (∀ (m : Nat) (pre : List α) (x : α) (W1 : World), J pre W1 → (∃ r, xs = pre ++ x :: r) → YieldAt Fence.wide m P l (encs x) W1 fun e W' =>
      KeepsNot T W.heap.size W1 W' ∧ ((e = .returned (.bool true) ∧ J (pre ++ [x]) W' ∧ Kp W1 W') ∨ (e = .returned (.bool false) ∧ Jx (pre ++ [x]) W'))) →
    J [] W →
    CallsIn Fence.wide n P g (#[.func (.yield l) #[] #[]] ++ lb) W fun e W' => (∃ v, e = .returned v) ∧ (J xs W' ∨ ∃ pre, pre <+: xs ∧ Jx pre W')

/-- A loop's record. -/
def recOf (fn : FuncId) (a : Act) (ps : Array Tmp) (assign body : Code) (D : Nat) (st : LoopState) (pe : Option Code) : Loop :=
  { state := st, pending := pe, fn := fn, tmps := a.tmps, params := ps, assign := assign, body := body, defers := D }

section
variable {α : Type} {T : TypeId} {P : Program} {n : Nat}

theorem range_gives {g : Operand} {ps : Array Tmp} {assign body : Code} {Q : Exit → Act → World → Prop} {a : Act} {w : World} {gf : Nat} {lb : Array Value}
    (hg : a.eval g = .func (.func gf) #[] lb) (eg : ∀ args w, (callFunc gf args).run P w = .ok (.enter gf args) w)
    {encs : α → Array Value} {Kp : World → World → Prop} {xs : List α} {w0 : World} (hseq : Gives T P gf lb encs Kp xs w0)
    (hKt : ∀ {A B C : World}, Kp A B → Kp B C → Kp A C) (hKb : ∀ (W : World) (l : Nat) (o o' : Obj), w.heap.size ≤ l → W.heap[l]? = some o → o.isCells = false → Kp W (W.putObj l o')) (hb0 : Below w0.heap.size w0 w) (hps : ∀ x, (encs x).size = ps.size)
    (I : List α → World → Prop) (Ix : Code → List α → World → Prop) (hI : OwnFrom w.heap.size I) (hIx : ∀ c, OwnFrom w.heap.size (Ix c)) (h0 : I [] w) (Ax : α → Act → World → Prop) (hAx : ∀ x a', OwnFrom w.heap.size (fun (_ : Unit) W => Ax x a' W))
    (hassign : ∀ (l m : Nat) (pre : List α) (x : α) (W : World) (K : Act → World → Prop), w.heap.size ≤ W.heap.size → I pre W → (∃ r, xs = pre ++ x :: r) → (∀ a' W', KeepsNot T w.heap.size W W' → Kp W W' → I pre W' → Ax x a' W' → K a' W') →
      assign.wpIn (Fence.wide.inRound l) m P (Exit.then K (fun _ _ _ => False)) { tmps := (ps.zip (encs x)).foldl (fun t (p, v) => t.setIfInBounds p v) a.tmps, defers := [] } W)
    (hbody : ∀ (l m : Nat) (pre : List α) (x : α) (a' : Act) (W : World), w.heap.size ≤ W.heap.size → I pre W → Ax x a' W → (∃ r, xs = pre ++ x :: r) → body.wpIn (Fence.wide.inRound l) m P (postO T w.heap.size Kp I Ix (pre ++ [x]) W) a' W)
    (hdone : ∀ (D : Nat) (W : World), w.heap.size ≤ D → I xs W → W.heap[D]? = some (.deferred (some [])) → Q .normal { a with defers := { target := .collected D, args := #[] } :: a.defers } W)
    (hstop : ∀ (D : Nat) (c : Code) (pre : List α) (W : World), w.heap.size ≤ D → pre <+: xs → Ix c pre W → W.heap[D]? = some (.deferred (some [])) → c.wpIn Fence.wide n P Q { a with defers := { target := .collected D, args := #[] } :: a.defers } W) :
    (Code.rangeFunc g ps assign body).wpIn Fence.wide n P Q a w := by
  refine wpIn_rangeFunc fun fn hfn => ?_
  have hnn : ∀ k : Nat, Fence.wide.depth.isSome = true → 1 ≤ k := fun _ h => by cases h
  generalize hD : w.heap.size = D at hI hIx hAx hassign hbody hdone hstop
  generalize hR : recOf fn a ps assign body D = R
  have hst : ∀ st pe, (R st pe).state = st := fun st pe => by rw [← hR]; rfl
  have hpe : ∀ st pe, (R st pe).pending = pe := fun st pe => by rw [← hR]; rfl
  have hset : ∀ st st' pe pe', ({ R st pe with state := st', pending := pe' } : Loop) = R st' pe' := fun st st' pe pe' => by rw [← hR]; rfl
  generalize hW1 : (w.alloc (.deferred (some []))).alloc (.loop (R .ready none)) = W1
  have size1 : W1.heap.size = D + 2 := by rw [← hW1, ← hD]; simp
  have hK1 : W1.heap[D]? = some (.deferred (some [])) := by
    rw [← hW1, ← hD]; exact (Below.heap_alloc _ _ _ (by simp)).trans (World.alloc_heap_new w _)
  have hL1 : W1.heap[D + 1]? = some (.loop (R .ready none)) := by
    rw [← hW1, ← hD]; have := World.alloc_heap_new (w.alloc (.deferred (some []))) (.loop (R .ready none)); rwa [World.size_alloc] at this
  refine ⟨D + 1, [{ target := .collected D, args := #[] }], W1, { target := .fn (.func gf) lb, args := #[.func (.yield (D + 1)) #[] #[]] }, W1, gf,
    #[.func (.yield (D + 1)) #[] #[]] ++ lb, W1, ?_, ?_, fun _ _ => trivial, ?_, hnn _, ?_⟩
  · rw [← hW1, ← hR, ← hD]; exact run_enterLoop_outer _ _ _ _ _
  · simp only [resolve, hg]
    simp [go_sem]
  · simp [invoke, go_sem, eg]
  · -- what the caller holds, and where the two blocks of the loop stand
    have hb1 : Below w0.heap.size w0 W1 := by
      rw [← hW1]; exact hb0.trans ((((Below.refl _ w).alloc (Nat.le_refl _) _).alloc (by simp) _).mono hb0.size)
    have hI1 : I [] W1 := by rw [← hW1]; exact hI.alloc _ (hI.alloc _ h0)
    -- a turn of a block of the iterator's own is none of these two
    have two : ∀ {st : LoopState} {pe : Option Code} {A B : World} {row : Option Nat}, A.grownBy B row → (∀ r, row = some r → W1.heap.size ≤ r ∧ ∃ o : Obj, A.heap[r]? = some o ∧ o.isCells = false) →
        A.heap[D + 1]? = some (.loop (R st pe)) ∧ A.heap[D]? = some (.deferred (some [])) → B.heap[D + 1]? = some (.loop (R st pe)) ∧ B.heap[D]? = some (.deferred (some [])) := by
      intro st pe A B row hgr hr h
      have out : ∀ k : Nat, k < D + 2 → some k ≠ row := fun k hk e => by have := (hr k e.symm).1; omega
      exact ⟨(hgr.block _ (Array.getElem?_eq_some_iff.1 h.1).1 (out _ (by omega))).trans h.1, (hgr.block _ (Array.getElem?_eq_some_iff.1 h.2).1 (out _ (by omega))).trans h.2⟩
    have wide : ∀ {A : World} {row : Option Nat}, (∀ r, row = some r → W1.heap.size ≤ r ∧ ∃ o : Obj, A.heap[r]? = some o ∧ o.isCells = false) → ∀ r, row = some r → D ≤ r ∧ ∃ o : Obj, A.heap[r]? = some o ∧ o.isCells = false :=
      fun hr r e => ⟨by have := (hr r e).1; omega, (hr r e).2⟩
    refine (hseq (n - 1) (D + 1)
      (fun pre W => I pre W ∧ W.heap[D + 1]? = some (.loop (R .ready none)) ∧ W.heap[D]? = some (.deferred (some [])))
      (fun pre W => ∃ c, Ix c pre W ∧ W.heap[D + 1]? = some (.loop (R .done (some c))) ∧ W.heap[D]? = some (.deferred (some [])))
      W1 hb1 (fun s A B row hs hgr hr => ⟨hI s A B row hs.1 hgr (wide hr), two hgr hr hs.2⟩)
      (fun s A B row hs hgr hr => by
        obtain ⟨c, hc, hs⟩ := hs
        exact ⟨c, hIx c s A B row hc hgr (wide hr), two hgr hr hs⟩) ?_ ⟨hI1, hL1, hK1⟩).mono ?_
    · -- one round
      rintro m pre x W ⟨hi, hl, hk⟩ hpre
      have hlt : D + 1 < W.heap.size := (Array.getElem?_eq_some_iff.1 hl).1
      have hy := run_yield (P := P) (args := encs x) hl (by rw [← hR]; exact hps x)
      rw [← hR] at hy
      refine ⟨fn, _, assign, body, hy, roundIn_of_wpIn hfn (hassign _ m pre x W _ (by omega) hi hpre ?_)⟩
      clear hy
      intro a' Wa kfa bla hia hax
      have hla := kfa.same _ _ (by omega) hl (fun _ _ h => by cases h)
      have hka := kfa.same _ _ (Nat.le_refl _) hk (fun _ _ h => by cases h)
      have hlta : D + 1 < Wa.heap.size := (Array.getElem?_eq_some_iff.1 hla).1
      have hbr := run_beginRound (P := P) hla (hst _ _)
      rw [show ({ R .ready none with state := .busy } : Loop) = R .busy none from by rw [← hR]; rfl] at hbr
      refine ⟨_, hbr, ?_⟩
      clear hbr
      generalize hWb : Wa.putObj (D + 1) (.loop (R .busy none)) = Wb
      have hlb : Wb.heap[D + 1]? = some (.loop (R .busy none)) := by rw [← hWb]; exact World.putObj_heap_same hlta
      have hkb : Wb.heap[D]? = some (.deferred (some [])) := by rw [← hWb]; exact (World.putObj_heap_other (by omega)).trans hka
      have hib : I pre Wb := by rw [← hWb]; exact hI.putObj _ hia (by omega) hla rfl
      have hab : Ax x a' Wb := by rw [← hWb]; exact (hAx x a').putObj (s := ()) _ hax (by omega) hla rfl
      have hgb : Wa.grownBy Wb (some (D + 1)) := by rw [← hWb]; exact grownBy_putObj' _ _ _
      have blb : Kp W Wb := hKt bla (by rw [← hWb]; exact hKb _ _ _ _ (by omega) hla rfl)
      have kfb : KeepsNot T W1.heap.size W Wb := ⟨Nat.le_trans kfa.size hgb.size, fun k o hk0 hko hoc => (hgb.block k (by have := (Array.getElem?_eq_some_iff.1 (kfa.same k o (by omega) hko hoc)).1; exact this) (fun e => by cases e; omega)).trans (kfa.same k o (by omega) hko hoc)⟩
      clear hWb hgb
      refine wpIn_mono (hbody _ m pre x a' Wb (by have := (Array.getElem?_eq_some_iff.1 hlb).1; omega) hib hab hpre) ?_
      -- how the round may be left
      have fin : ∀ (jump : Option Code) (W3 : World), KeepsNot T D Wb W3 → ∃ W4, (Instr.endRound (D + 1) jump).run P W3 = .ok (.bool jump.isNone) W4 ∧ W3.grownBy W4 (some (D + 1)) ∧ W3.heap[D + 1]? = some (.loop (R .busy none)) ∧
          W4.heap[D + 1]? = some (.loop (R (if jump.isNone then .ready else .done) jump)) ∧ W4.heap[D]? = some (.deferred (some [])) ∧ W4 = W3.putObj (D + 1) (.loop (R (if jump.isNone then .ready else .done) jump)) := fun jump W3 hk3 => by
        have hl3 := hk3.same _ _ (by omega) hlb (fun _ _ h => by cases h)
        have hk4 := hk3.same _ _ (Nat.le_refl _) hkb (fun _ _ h => by cases h)
        have := run_endRound (P := P) jump hl3
        rw [hset] at this
        exact ⟨_, this, grownBy_putObj' _ _ _, hl3, World.putObj_heap_same (Array.getElem?_eq_some_iff.1 hl3).1, (World.putObj_heap_other (by omega)).trans hk4, rfl⟩
      have keep : ∀ {W3 W4 : World}, KeepsNot T D Wb W3 → W3.grownBy W4 (some (D + 1)) → KeepsNot T W1.heap.size W W4 := fun {W3 W4} k3 g4 =>
        kfb.trans ⟨Nat.le_trans k3.size g4.size, fun k o hk0 hko hoc => by
          have h3 := k3.same k o (by omega) hko hoc
          exact (g4.block k (Array.getElem?_eq_some_iff.1 h3).1 (fun e => by cases e; omega)).trans h3⟩
      rintro e a3 W3 hp
      have leave : ∀ c : Code, KeepsNot T D Wb W3 → Ix c (pre ++ [x]) W3 → ∃ v W4, (Instr.endRound (D + 1) (some c)).run P W3 = .ok v W4 ∧ (KeepsNot T W1.heap.size W W4 ∧ ((Ending.returned v = .returned (.bool true) ∧ (I (pre ++ [x]) W4 ∧ W4.heap[D + 1]? = some (.loop (R .ready none)) ∧ W4.heap[D]? = some (.deferred (some []))) ∧ Kp W W4) ∨
          (Ending.returned v = .returned (.bool false) ∧ ∃ c, Ix c (pre ++ [x]) W4 ∧ W4.heap[D + 1]? = some (.loop (R .done (some c))) ∧ W4.heap[D]? = some (.deferred (some []))))) := fun c k3 i3 => by
        obtain ⟨W4, hr, g4, hl3, hl4, hk4, e4⟩ := fin (some c) W3 k3
        exact ⟨_, W4, hr, keep k3 g4, .inr ⟨rfl, c, by rw [e4]; exact (hIx c).putObj _ i3 (by omega) hl3 rfl, hl4, hk4⟩⟩
      cases e with
      | normal =>
        obtain ⟨k3, b3, i3⟩ := hp
        obtain ⟨W4, hr, g4, hl3, hl4, hk4, e4⟩ := fin none W3 k3
        refine ⟨_, W4, hr, keep k3 g4, .inl ⟨rfl, ⟨by rw [e4]; exact hI.putObj _ i3 (by omega) hl3 rfl, hl4, hk4⟩, hKt blb (hKt b3 (by rw [e4]; exact hKb _ _ _ _ (by omega) hl3 rfl))⟩⟩
      | ret => exact leave .ret hp.1 hp.2
      | exit id => exact hp.elim
      | goto t => exact hp.elim
      | panic ch => exact hp.elim
      | outgrown => exact hp.elim
    · -- behind the iterator
      rintro e W2 ⟨⟨v, rfl⟩, (⟨hi, hl, hk⟩ | ⟨pre, hpre, c, hi, hl, hk⟩)⟩
      · have hr : (Instr.endLoop (D + 1)).run P W2 = .ok none (W2.putObj (D + 1) (.loop (R .exhausted none))) := by
          have := run_endLoop (P := P) hl (by rw [hst]; simp)
          rw [← hR] at this ⊢
          exact this
        exact ⟨none, _, hr, hdone D _ (Nat.le_refl _) (hI.putObj _ hi (by omega) hl rfl) ((World.putObj_heap_other (by omega)).trans hk)⟩
      · have hr : (Instr.endLoop (D + 1)).run P W2 = .ok (some c) (W2.putObj (D + 1) (.loop (R .exhausted (some c)))) := by
          have := run_endLoop (P := P) hl (by rw [hst]; simp)
          rw [← hR] at this ⊢
          exact this
        exact ⟨some c, _, hr, hstop D c pre _ (Nat.le_refl _) hpre ((hIx c).putObj _ hi (by omega) hl rfl) ((World.putObj_heap_other (by omega)).trans hk)⟩
end

end Go.Proofs.Ytgpjbajfkagdbaa
