/- The last step of every law's row: the call returned true, and all that there was is as it was. -/
import Derived.Below
import Derived.ChangeSame
import Derived.Deep.Draws
import Derived.Carry
import Derived.OpenShut
import Derived.WideKeyArgs
set_option linter.unusedVariables false
set_option linter.unusedSimpArgs false
namespace Go.Proofs.Ytgpjbajfkagdbaa
open Go.RowKit Go.WideShapes Go.ChangeShapes

section
variable {H : Type} {enc : TypeId × Value → H} {P : Program}

/-- All that was read of the arguments reads behind the call as before it, where all that there was is as it was. -/
theorem trodAll_stays (hl : laidOutB P = true) {W W' : World} (hb : Below W.heap.size W W') {sp : Nat → Bool} : ∀ {ts : List TypeId} {vs : List Value} {ds : List (DataW H)} {ps : List MemPlace},
    ts.all (fun t => P.readableRec t && decide (t < P.types.size)) = true → DataW.TrodAll enc P W 0 (fun _ => true) true ts vs ds ps → (∀ x ∈ ps, x.block < W.heap.size) → (∀ x ∈ ps, sp x.block = true) →
    DataW.TrodAll enc P W' 0 sp true ts vs ds ps := by
  intro ts
  induction ts with
  | nil =>
    intro vs ds ps _ h _ _
    obtain ⟨rfl, rfl, rfl⟩ := trodAll_nil h
    exact trodAll_mk0
  | cons t ts ih =>
    intro vs ds ps hr h hlt hsp
    rw [List.all_cons, Bool.and_eq_true, Bool.and_eq_true, decide_eq_true_eq] at hr
    obtain ⟨v, vs', d, ds', p, q, rfl, rfl, rfl, h1, h2⟩ := trodAll_cons h
    refine trodAll_cons_mk ?_ (ih hr.2 h2 (fun x hx => hlt x (List.mem_append_right _ hx)) (fun x hx => hsp x (List.mem_append_right _ hx)))
    exact WideElems.Trod_stays hl hr.1.1 hr.1.2 h1 (fun x hx => hb.same (hlt x (List.mem_append_left _ hx))) (fun x hx => hsp x (List.mem_append_left _ hx))

/-- A law's end: it answered true; its specification hands the arguments back as they came and names no variable. -/
theorem law_end {f : Func} {s : ChangeSpec} {apart fresh handsOn again : Bool} {W W' : World} {args : Array Value} {ds : List (DataW H)} {p q : List MemPlace} {tb : TypeId}
    (hl : laidOutB P = true) (hr : f.params.toList.all (fun t => P.readableRec t && decide (t < P.types.size)) = true) (hbool : P.underlying tb = some .bool) (hrt : f.resultTypes = #[tb]) (hv : s.vars = [])
    (hs : (s.fn H (ds ++ [])).results = [.lit (.bool true)] ∧ (s.fn H (ds ++ [])).args = ds ∧ (s.fn H (ds ++ [])).vars = [])
    (hW : DataW.Whole enc P f.params.toList s.vars apart W args.toList ds [] (p ++ q)) (hA : DataW.TrodAll enc P W 0 (fun _ => true) true f.params.toList args.toList ds p) (hq : q = []) (hb : Below W.heap.size W W') :
    s.post enc P f apart fresh handsOn again W args (.bool true) W' := by
  subst hq
  have old : ∀ x ∈ p ++ [], x.block < W.heap.size := fun x hx => hW.lt x hx
  obtain ⟨notFrozen, noTwice⟩ : W.noneFrozen (p ++ []) ∧ (apart = true → (p ++ []).Nodup) := by
    obtain ⟨_, _, _, _, _, h⟩ := hW
    exact h
  have oldp : ∀ x ∈ p, x.block < W.heap.size := fun x hx => old x (by simpa using hx)
  have argsAt : ∀ sp : Nat → Bool, (∀ x ∈ p, sp x.block = true) → DataW.TrodAll enc P W' 0 sp true f.params.toList args.toList (s.fn H (ds ++ [])).args p := fun sp hsp => by
    rw [hs.2.1]; exact trodAll_stays hl hb hr hA oldp hsp
  have resAt : ∀ (b : Nat) (sp : Nat → Bool) (hd : Bool), DataW.TrodAll enc P W' b sp hd f.resultTypes.toList ((Value.bool true).resultList f.resultTypes.size) (s.fn H (ds ++ [])).results [] := fun b sp hd => by
    rw [hs.1, hrt]; exact trodAll_cons_mk (shut_bool hbool true) trodAll_mk0
  have varsAt : ∀ sp : Nat → Bool, DataW.TrodVars enc P W' sp s.vars (s.fn H (ds ++ [])).vars [] := fun sp => by
    rw [hs.2.2, hv]; exact rfl
  have okAt : ∀ (j : Nat) (t : TypeId) (r : Value), f.resultTypes[j]? = some t → ((Value.bool true).resultList f.resultTypes.size)[j]? = some r → Value.okWide P W' .any 0 t r :=
    ok_one hrt rfl (okWide_bool_mk hbool true)
  refine ⟨ds, [], p ++ [], [], p, [], hW, resAt _ _ _, argsAt _ (fun x hx => by simpa using oldp x hx), varsAt _, ?_, fun _ => ⟨okAt, _, _, (([] : List MemPlace) ++ p) ++ [], ⟨[] ++ p, [], trodAll_append (argsAt _ fun _ _ => rfl) (resAt _ _ _), varsAt _, rfl, ?_, ?_⟩, ?_⟩⟩
  · exact World.keptBut_mono (fun x hx => ⟨hx, Or.inr (by simpa using hx)⟩) (hb.frame (· ∈ p ++ []))
  · intro b off hx
    rw [hb.frozen (p := ⟨b, off, none⟩) (oldp (MemPlace.cell b off) (by simpa using hx))]
    exact notFrozen b off (by simpa using hx)
  · intro ha
    simpa using noTwice ha
  · intro x hx _
    simpa using hx
end

end Go.Proofs.Ytgpjbajfkagdbaa
