/- What the laws of pairs say: plain facts. -/
import Derived.Test.YtgpjbajfkagdbaaApp
set_option linter.unusedVariables false
set_option linter.unusedSimpArgs false
namespace Go.Proofs.Ytgpjbajfkagdbaa
open Go.RowKit

theorem apply_ok {l : List Pr} {ns : List Nt} (h : applyE l ns = 0) : wellL l = true ∧ ns.all rightN = true ∧ applyL l ns = foldOne l ns := by
  unfold applyE at h
  unfold applyL
  cases h1 : wellL l && ns.all rightN with
  | false => rw [h1] at h; cases h
  | true => rw [Bool.and_eq_true] at h1; exact ⟨h1.1, h1.2, rfl⟩
theorem apply_no {l : List Pr} {ns : List Nt} (h : applyE l ns ≠ 0) : applyE l ns = 1 ∧ applyL l ns = l ∧ (wellL l && ns.all rightN) = false := by
  unfold applyE at *
  unfold applyL
  cases h1 : wellL l && ns.all rightN with
  | false => exact ⟨rfl, rfl, rfl⟩
  | true => rw [h1] at h; exact absurd rfl h
theorem apply_yes {l : List Pr} {ns : List Nt} (h1 : wellL l = true) (h2 : ns.all rightN = true) : applyE l ns = 0 ∧ applyL l ns = foldOne l ns := by
  unfold applyE applyL
  rw [h1, h2]
  exact ⟨rfl, rfl⟩
theorem apply_two (l : List Pr) (ns : List Nt) : applyE l ns = 0 ∨ applyE l ns = 1 := by
  unfold applyE; split
  · exact .inl rfl
  · exact .inr rfl
theorem apply_well {l : List Pr} (ns : List Nt) (h : wellL l = true) : wellL (applyL l ns) = true := by
  by_cases h0 : applyE l ns = 0
  · obtain ⟨_, h2, h3⟩ := apply_ok h0
    rw [h3]; exact well_fold h (List.all_eq_true.1 h2)
  · rw [(apply_no h0).2.1]; exact h
theorem apply_len (l : List Pr) (ns : List Nt) : (applyL l ns).length ≤ l.length + ns.length := by
  by_cases h0 : applyE l ns = 0
  · rw [(apply_ok h0).2.2]; exact len_fold l ns
  · rw [(apply_no h0).2.1]; omega

/-! Done twice. -/
theorem steps_put {n : Nt} (h : n.kind = 1) (o : Option ByteArray) : stepsO o [n] = some n.value := by
  unfold stepsO
  rw [List.foldl_cons, List.foldl_nil, step1 _ _ h]; rfl
theorem steps_del {n : Nt} (h : n.kind = 2) (o : Option ByteArray) : stepsO o [n] = none := by
  unfold stepsO
  rw [List.foldl_cons, List.foldl_nil, step2 _ _ h]; rfl
theorem twice_same {l : List Pr} (hs : Sorted l) {n : Nt} (hk : n.kind = 1 ∨ n.kind = 2) : foldOne l [n, n] = foldOne l [n] := by
  refine sorted_ext (sorted_fold hs _) (sorted_fold hs _) fun k => ?_
  rw [getL_fold, getL_fold]
  by_cases h : n.key = k
  · simp only [List.filter_cons, List.filter_nil, decide_eq_true h, if_true]
    rw [stepsO_cons]
    rcases hk with hk | hk
    · rw [steps_put hk, steps_put hk]
    · rw [steps_del hk, steps_del hk]
  · simp only [List.filter_cons, List.filter_nil, decide_eq_false h]
    rfl
theorem twice_apply (l : List Pr) {n : Nt} (hk : n.kind = 1 ∨ n.kind = 2) : applyE l [n, n] = applyE l [n] ∧ applyL l [n, n] = applyL l [n] := by
  have e : [n, n].all rightN = [n].all rightN := by simp
  unfold applyE applyL
  rw [e]
  refine ⟨rfl, ?_⟩
  split
  · rename_i h
    rw [Bool.and_eq_true] at h
    exact twice_same (well_sorted h.1) hk
  · rfl
theorem del_back {l : List Pr} {n : Nt} (hn : getL l n.key = none) (he : applyE l [n] = 0) : applyE (applyL l [n]) [⟨2, n.key, noB, 0⟩] = 0 ∧ applyL (applyL l [n]) [⟨2, n.key, noB, 0⟩] = l := by
  obtain ⟨h1, h2, h3⟩ := apply_ok he
  have hw := apply_well [n] h1
  have hr : rightN n = true := by simpa using h2
  have hks : n.key.size ≤ 16 := by
    unfold rightN at hr
    rw [Bool.and_eq_true] at hr
    simpa using hr.1
  have hd : [(⟨2, n.key, noB, 0⟩ : Nt)].all rightN = true := by
    unfold rightN
    simp [hks]
  obtain ⟨e1, e2⟩ := apply_yes hw hd
  refine ⟨e1, ?_⟩
  rw [e2]
  refine sorted_ext (sorted_fold (well_sorted hw) _) (well_sorted h1) fun k => ?_
  rw [getL_fold, h3, getL_fold]
  by_cases h : n.key = k
  · simp only [List.filter_cons, List.filter_nil, decide_eq_true h, if_true]
    rw [steps_del rfl, ← h, hn]
  · simp only [List.filter_cons, List.filter_nil, decide_eq_false h]
    exact (stepsO_nil _).trans (stepsO_nil _)

/-! What stays. -/
theorem stays {l : List Pr} (hw : wellL l = true) (ns : List Nt) (key : ByteArray) (h : ∀ n ∈ ns, n.key ≠ key) : getA (applyL l ns) key = getA l key := by
  unfold getA
  rw [apply_well ns hw, hw]
  by_cases h0 : applyE l ns = 0
  · rw [(apply_ok h0).2.2, getL_fold]
    have e : (ns.filter fun n => decide (n.key = key)) = [] := by
      rw [List.filter_eq_nil_iff]
      intro n hn
      simpa using h n hn
    rw [e, stepsO_nil]
  · rw [(apply_no h0).2.1]

/-! In parts. -/
theorem parts_no {l : List Pr} {a b : List Nt} (h : applyE l (a ++ b) ≠ 0) : applyE l a ≠ 0 ∨ applyE (applyL l a) b ≠ 0 := by
  by_cases h1 : applyE l a = 0
  · right
    obtain ⟨h2, h3, h4⟩ := apply_ok h1
    intro h5
    obtain ⟨_, h6, _⟩ := apply_ok h5
    exact h (apply_yes h2 (by rw [List.all_append, h3, h6]; rfl)).1
  · exact .inl h1
theorem parts_yes {l : List Pr} {a b : List Nt} (h : applyE l (a ++ b) = 0) : applyE l a = 0 ∧ applyE (applyL l a) b = 0 ∧ applyL (applyL l a) b = applyL l (a ++ b) := by
  obtain ⟨h1, h2, h3⟩ := apply_ok h
  rw [List.all_append, Bool.and_eq_true] at h2
  obtain ⟨e1, e2⟩ := apply_yes h1 h2.1
  obtain ⟨e3, e4⟩ := apply_yes (apply_well a h1) h2.2
  exact ⟨e1, e3, by rw [e4, e2, h3, foldOne_append]⟩
theorem parts_swap {l : List Pr} {a b : List Nt} (h : applyE l (a ++ b) = 0) (hk : ∀ x ∈ a, ∀ y ∈ b, x.key ≠ y.key) : applyE l (b ++ a) = 0 ∧ applyL l (b ++ a) = applyL l (a ++ b) := by
  obtain ⟨h1, h2, h3⟩ := apply_ok h
  have h4 : (b ++ a).all rightN = true := by rw [List.all_append, Bool.and_comm, ← List.all_append]; exact h2
  obtain ⟨e1, e2⟩ := apply_yes h1 h4
  exact ⟨e1, by rw [e2, h3]; exact (fold_steq (well_sorted h1) (StEq.swap hk)).symm⟩

/-! Places. -/
theorem get_place {l : List Pr} (hw : wellL l = true) (i : Nat) (hi : i < l.length) : getA l l[i].k = (l[i].v, true) := by
  unfold getA
  rw [hw, if_pos rfl, getL_mem (well_sorted hw) i hi]
  rfl
theorem next_place {l : List Pr} (hw : wellL l = true) (i : Nat) (hi : i < l.length) : nextA l l[i].k = i := by
  unfold nextA
  rw [hw, if_pos rfl]
  exact less_place (well_sorted hw) i hi
theorem next_well {l : List Pr} (hw : wellL l = true) (k : ByteArray) : nextA l k = lessL l k := by
  unfold nextA
  rw [hw, if_pos rfl]
theorem has_place {l : List Pr} (hw : wellL l = true) (k : ByteArray) : (getA l k).2 = true ↔ ∃ h : lessL l k < l.length, l[lessL l k].k = k := by
  unfold getA
  rw [hw, if_pos rfl, ← less_at (well_sorted hw)]
  cases getL l k <;> simp [hasOf]

/-! Parts, together. -/
end Go.Proofs.Ytgpjbajfkagdbaa
