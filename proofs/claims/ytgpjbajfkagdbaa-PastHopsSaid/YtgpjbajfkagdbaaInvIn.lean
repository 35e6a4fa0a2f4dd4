/- A region that draws its order, in a round of a loop over an iterator, under the wide fence: the plain laws serve there, too. Nothing of the program. -/
import Derived.Test.YtgpjbajfkagdbaaPhase
import Derived.OwnWalkIn
import Derived.RangeFuncLeaves
set_option linter.unusedVariables false
set_option linter.unusedSimpArgs false
namespace Go.Proofs.Ytgpjbajfkagdbaa

/-- No operation is a defer statement. -/
def noDefer (ops : Array Oper) : Bool := ops.all fun o => match o.op with | .defer _ => false | _ => true
theorem noDefer_at {ops : Array Oper} (h : noDefer ops = true) {i : Nat} {o : Oper} (hi : ops[i]? = some o) : ∀ c, o.op ≠ .defer c := by
  intro c hc
  obtain ⟨h1, rfl⟩ := Array.getElem?_eq_some_iff.1 hi
  have := Array.all_eq_true.1 h i h1
  rw [hc] at this
  cases this

theorem rows_wide {n : Nat} {P : Program} {row : String} {args : Array Value} {w : World} {R : Value → World → Prop} (h : Rows P row args w R) : RowsIn Fence.wide n P row args w R :=
  fun c cs _ => let ⟨v, w', r, s⟩ := h c cs; ⟨v, w', r, stepsIn_wide.2 s⟩

/-- A fence that is the wide one, but for the round. -/
def WideF (F : Fence) : Prop := F.fn = Fence.wide.fn ∧ F.depth = none ∧ ∀ P, Machine.fenced P F = Machine.fenced P Fence.wide
theorem wide_round (l : Nat) : WideF (Fence.wide.inRound l) := ⟨rfl, rfl, fun _ => rfl⟩
theorem wide_wide : WideF Fence.wide := ⟨rfl, rfl, fun _ => rfl⟩

section
variable {P : Program} {ops : Array Oper} {Q : Exit → Act → World → Prop} {md : Region.Mode} {F : Fence}

theorem oper_wide (hF : WideF F) {n : Nat} {o : Oper} {a : Act} {w : World} {K : Act → World → Prop} (hd : ∀ c, o.op ≠ .defer c) (h : o.wp P a w K Q) : o.wpIn F n P a w K Q := by
  obtain ⟨h1, h2, h3⟩ := hF
  have hc : ∀ {m : Nat} {f : FuncId} {args : Array Value} {w : World} {R : Ending → World → Prop}, Calls P f args w R → CallsIn F m P f args w R := fun {m f args w R} hh => by
    have := (callsIn_wide (n := m)).2 hh
    refine ⟨by rw [h1]; exact trivial, fun cs hr => ?_⟩
    obtain ⟨e, w', fr, r, s, x⟩ := this.2 cs (room_wide _)
    exact ⟨e, w', fr, r, by rw [h3]; exact s, x⟩
  unfold Oper.wpIn
  refine ⟨fun f _ => by rw [h1]; exact trivial, ?_⟩
  rw [Oper.semAt_plain F _ _ hd]
  unfold Oper.wp at h
  generalize (execOp a.eval o).run P w = r at *
  have hn : F.depth.isSome = true → 1 ≤ n := fun e => by rw [h2] at e; cases e
  cases r with
  | ok x w' =>
    cases x <;> simp only [Oper.upon, Oper.uponIn] at h ⊢ <;> first
      | exact h
      | exact ⟨hn, hc h⟩
      | exact ⟨hn, fun c cs _ => let ⟨v, w', r, s⟩ := h c cs; ⟨v, w', r, by rw [h3]; exact stepsIn_wide.2 s⟩⟩
  | halt x w' => cases x <;> simp only [Oper.upon, Oper.uponIn] at h ⊢ <;> exact h
theorem wpOp_wide (hF : WideF F) {n i : Nat} {a : Act} {w : World} {K : Act → World → Prop} (hno : ¬ LetsOut Q) (hd : ∀ (i : Nat) (o : Oper), ops[i]? = some o → ∀ c, o.op ≠ .defer c) (h : wpOp P ops Q i K a w) : wpOpIn F n P ops Q i K a w := by
  unfold wpOp at h
  unfold wpOpIn
  split at h
  · rename_i hi; simp only [hi]; exact h
  · rename_i o hi
    simp only [hi]
    split at h
    · rename_i hw
      simp only [hw, if_true]
      rcases h with h | h
      · exact oper_wide hF (hd i o hi) h
      · exact absurd h.2 hno
    · rename_i hw
      simp only [hw]
      exact ⟨fun f _ => by rw [hF.1]; exact trivial, h⟩

theorem wpAny_wide (hF : WideF F) {n : Nat} (hno : ¬ LetsOut Q) (hd : ∀ (i : Nat) (o : Oper), ops[i]? = some o → ∀ c, o.op ≠ .defer c) : ∀ (fuel : Nat) (listed : Array Bool) (a : Act) (w : World), wpAny P md ops Q fuel listed a w → wpAnyIn F n P md ops Q fuel listed a w := by
  intro fuel
  induction fuel with
  | zero => exact fun listed a w h => h
  | succ fuel ih =>
    intro listed a w h
    refine ⟨h.1, fun i hi => ?_⟩
    exact wpOp_wide hF hno hd (wpOp_mono (fun a w => ih _ a w) (h.2 i hi))

/-- THE REGION, by one condition a slot. -/
theorem wpIn_region_inv (hF : WideF F) {n id : Nat} {a0 : Act} {w0 : World} (hno : ¬ LetsOut Q) (hd : noDefer ops = true) (ds : List Nat) (hds : dsts ops = ds) (hm : P.follows .mixedOrders = true) (S : World → Prop) (R : World → World → Prop) (V : Nat → Value → World → Prop)
    (hok : (invB .any ops a0.tmps.size && backB .any ops) = true)
    (hRS : ∀ w w', R w w' → S w → S w') (hRV : ∀ t v w w', R w w' → V t v w → V t v w') (hS : S w0.drew)
    (step : ∀ (i : Nat) (o : Oper), ops[i]? = some o → ∀ a w, S w → Got ops V a0 a w o → wpOp P ops Q i (Made1 V R o a w) a w)
    (done : ∀ (f : Nat → Value) (w : World), S w → (∀ d ∈ ds, V d (f d) w) → Q .normal (puts a0 ds f) w) :
    (Code.region id ops true).wpIn F n P Q a0 w0 := by
  subst hds
  rw [Bool.and_eq_true] at hok
  refine wpIn_region_any hm (wpAny_wide hF hno (fun i o hi => noDefer_at hd hi) _ _ _ _ (wpAny_inv S R V hok.1 hRS hRV step done _ _ _ _ (by simp) ?_ (.inr trivial) ?_ (fun l hl hr => all_of_ready hok.2 hl hr)))
  · unfold left
    refine Nat.le_trans (List.length_filter_le _ _) (by simp)
  · have hf : ∀ i : Nat, (Array.replicate ops.size false).getD i false = false := fun i => by
      rcases Nat.lt_or_ge i ops.size with h | h <;> simp [h]
    exact ⟨hS, rfl, rfl, fun _ _ => rfl, fun i o d _ _ h => by rw [hf] at h; cases h⟩

/-- THE REGION, by phases. -/
theorem wpIn_region_phase (hF : WideF F) {n0 id : Nat} {a0 : Act} {w0 : World} (hno : ¬ LetsOut Q) (hd : noDefer ops = true) (f : Nat) (ds : List Nat) (hds : dsts ops = ds) (marks T : List Nat) (J : Act → World → Prop) (n : Nat) (hn : marks.length = n) (hm : P.follows .mixedOrders = true) (S : Nat → World → Prop) (R : World → World → Prop) (V : Nat → Nat → Value → World → Prop)
    (hok : (invB2 .any ops a0.tmps.size && (backB .any ops && chainB .any ops f marks)) = true)
    (hRS : ∀ p w w', R w w' → S p w → S p w') (hRV : ∀ p t v w w', R w w' → V p t v w → V p t v w')
    (hJ : ∀ a w a' w', (∀ t ∈ T, a'.tmps[t]? = a.tmps[t]?) → R w w' → J a w → J a' w') (hS : S 0 w0.drew) (hJ0 : J a0 w0.drew)
    (step : ∀ (p i : Nat) (o : Oper), ops[i]? = some o → p ≤ n → inPhase .any ops f marks p i = true → ∀ a w, S p w → J a w → Got2 .any ops (V p) a0 a w o → wpOp P ops Q i (Made2 ops marks T J S V R p i o a w) a w)
    (done : ∀ (g : Nat → Value) (w : World), S n w → J (puts a0 ds g) w → (∀ d ∈ ds, V n d (g d) w) → Q .normal (puts a0 ds g) w) :
    (Code.region id ops true).wpIn F n0 P Q a0 w0 := by
  subst hds
  subst hn
  rw [Bool.and_eq_true, Bool.and_eq_true] at hok
  have hf : ∀ i : Nat, (Array.replicate ops.size false).getD i false = false := fun i => by
    rcases Nat.lt_or_ge i ops.size with h | h <;> simp [h]
  refine wpIn_region_any hm (wpAny_wide hF hno (fun i o hi => noDefer_at hd hi) _ _ _ _ (wpAny_phase f marks T J S R V hok.1 hok.2.2 hJ hRS hRV step done _ 0 _ _ _ (by simp) ?_ ⟨Nat.zero_le _, fun k s _ => by rw [hf]; simp⟩ (fun i o _ h => by rw [hf] at h; cases h) hJ0 ?_ (fun l hl hr => all_of_ready hok.2.1 hl hr)))
  · unfold left
    refine Nat.le_trans (List.length_filter_le _ _) (by simp)
  · exact ⟨hS, rfl, rfl, fun _ _ => rfl, fun i o d _ _ h => by rw [hf] at h; cases h⟩
end

end Go.Proofs.Ytgpjbajfkagdbaa
