/- Items of unlike numbers, the last one first: plain facts. -/
import Derived.Test.YthoffknkpogfhaaCi
set_option linter.unusedVariables false
set_option linter.unusedSimpArgs false
namespace Go.Proofs.Ythoffknkpogfhaa

def stepU (s : List It) (y : It) : List It := if y.a ∈ s.map It.a then s else s ++ [y]
def uniq (ys : List It) : List It := ys.foldl stepU []
theorem uniq_snoc (ys : List It) (y : It) : uniq (ys ++ [y]) = stepU (uniq ys) y := by unfold uniq; rw [List.foldl_append]; rfl
theorem uniq_take {ys : List It} {k : Nat} (hk : k < ys.length) : uniq (ys.take (k + 1)) = stepU (uniq (ys.take k)) ys[k] := by rw [List.take_succ_eq_append_getElem hk, uniq_snoc]
theorem stepU_prefix (s : List It) (y : It) : s <+: stepU s y := by
  unfold stepU
  split
  · exact List.prefix_rfl
  · exact List.prefix_append _ _
theorem fold_prefix (s ys : List It) : s <+: ys.foldl stepU s := by
  induction ys generalizing s with
  | nil => exact List.prefix_rfl
  | cons y ys ih => exact (stepU_prefix s y).trans (ih _)
theorem uniq_prefix (ys : List It) (k : Nat) : uniq (ys.take k) <+: uniq ys := by
  have h : uniq ys = (ys.drop k).foldl stepU (uniq (ys.take k)) := by
    unfold uniq
    rw [← List.foldl_append, List.take_append_drop]
  rw [h]
  exact fold_prefix _ _
theorem mem_stepU {s : List It} {y : It} {a : Int} : a ∈ (stepU s y).map It.a ↔ a ∈ s.map It.a ∨ a = y.a := by
  unfold stepU
  split
  · rename_i h
    constructor
    · exact .inl
    · rintro (h1 | rfl)
      · exact h1
      · exact h
  · rw [List.map_append, List.mem_append]
    simp
theorem mem_uniq {ys : List It} {a : Int} : a ∈ (uniq ys).map It.a ↔ a ∈ ys.map It.a := by
  unfold uniq
  suffices H : ∀ s, a ∈ (ys.foldl stepU s).map It.a ↔ a ∈ s.map It.a ∨ a ∈ ys.map It.a by simpa using H []
  induction ys with
  | nil => intro s; simp
  | cons y ys ih =>
    intro s
    rw [List.foldl_cons, ih, mem_stepU, List.map_cons, List.mem_cons]
    constructor
    · rintro ((h | h) | h)
      · exact .inl h
      · exact .inr (.inl h)
      · exact .inr (.inr h)
    · rintro (h | h | h)
      · exact .inl (.inl h)
      · exact .inl (.inr h)
      · exact .inr h
theorem uniq_nodup (ys : List It) : ((uniq ys).map It.a).Nodup := by
  unfold uniq
  suffices H : ∀ s, (s.map It.a).Nodup → ((ys.foldl stepU s).map It.a).Nodup from H [] (by simp)
  induction ys with
  | nil => intro s h; exact h
  | cons y ys ih =>
    intro s h
    refine ih _ ?_
    unfold stepU
    split
    · exact h
    · rename_i hn
      rw [List.map_append, List.nodup_append]
      refine ⟨h, by simp, fun b hb c hc e => ?_⟩
      simp only [List.map_cons, List.map_nil, List.mem_singleton] at hc
      subst hc
      exact hn (by rw [← e]; exact hb)
theorem uniq_cons (x : It) (ys : List It) : uniq (x :: ys) = x :: (uniq ys).filter fun y => decide (y.a ≠ x.a) := by
  unfold uniq
  rw [List.foldl_cons]
  show ys.foldl stepU [x] = _
  suffices H : ∀ s : List It, ys.foldl stepU (x :: s.filter fun y => decide (y.a ≠ x.a)) = x :: (ys.foldl stepU s).filter fun y => decide (y.a ≠ x.a) from H []
  induction ys with
  | nil => intro s; rfl
  | cons y ys ih =>
    intro s
    rw [List.foldl_cons, List.foldl_cons, ← ih]
    congr 1
    by_cases h : y.a = x.a
    · have h1 : stepU (x :: s.filter fun y => decide (y.a ≠ x.a)) y = x :: s.filter fun y => decide (y.a ≠ x.a) := by
        unfold stepU
        rw [if_pos (by simp [h])]
      rw [h1]
      unfold stepU
      split
      · rfl
      · rw [List.filter_append]
        simp [h]
    · have h2 : (y.a ∈ (x :: s.filter fun y => decide (y.a ≠ x.a)).map It.a) ↔ y.a ∈ s.map It.a := by
        rw [List.map_cons, List.mem_cons, List.mem_map, List.mem_map]
        simp only [List.mem_filter, decide_eq_true_eq]
        constructor
        · rintro (h3 | ⟨z, ⟨hz, _⟩, e⟩)
          · exact absurd h3 h
          · exact ⟨z, hz, e⟩
        · rintro ⟨z, hz, e⟩
          exact .inr ⟨z, ⟨hz, by rw [e]; exact h⟩, e⟩
      unfold stepU
      by_cases hs : y.a ∈ s.map It.a
      · rw [if_pos (h2.2 hs), if_pos hs]
      · rw [if_neg (fun h3 => hs (h2.1 h3)), if_neg hs, List.filter_append]
        simp [h]
theorem take_filter (V : List It) (h : (V.map It.a).Nodup) (a : Int) (n : Nat) : (((V.take n).filter fun y => decide (y.a ≠ a)).take (n - 1)) = (V.filter fun y => decide (y.a ≠ a)).take (n - 1) := by
  induction V generalizing n with
  | nil => simp
  | cons y V ih =>
    rw [List.map_cons, List.nodup_cons] at h
    cases n with
    | zero => simp
    | succ k =>
      rw [List.take_succ_cons, List.filter_cons, List.filter_cons]
      by_cases hy : y.a = a
      · rw [if_neg (by simp [hy]), if_neg (by simp [hy])]
        have hf : ∀ W : List It, W ⊆ V → W.filter (fun y => decide (y.a ≠ a)) = W := fun W hW => by
          rw [List.filter_eq_self]
          intro z hz
          simp only [decide_eq_true_eq]
          intro e
          exact h.1 (List.mem_map.2 ⟨z, hW hz, by rw [e, hy]⟩)
        rw [hf _ (List.take_subset _ _), hf _ (List.Subset.refl _)]
        simp only [Nat.add_sub_cancel]
        rw [List.take_take, Nat.min_self]
      · rw [if_pos (by simp [hy]), if_pos (by simp [hy])]
        cases k with
        | zero => simp
        | succ j =>
          have := ih h.2 (j + 1)
          simp only [Nat.add_sub_cancel] at this ⊢
          rw [List.take_succ_cons, List.take_succ_cons, this]
/-- Behind any items a cache has the last ones of unlike numbers. -/
theorem use_take (V : List It) (h : (V.map It.a).Nodup) (n : Nat) (hn : 1 ≤ n) (x : It) : useL n (V.take n) x = (x :: V.filter fun y => decide (y.a ≠ x.a)).take n := by
  have h1 : ((V.take n).map It.a).Nodup := h.sublist ((List.take_sublist _ _).map _)
  unfold useL
  rw [cutL_take (by have := front_le (V.take n) x; rw [List.length_take] at this; omega)]
  unfold front
  rw [without_filter h1]
  obtain ⟨k, rfl⟩ : ∃ k, n = k + 1 := ⟨n - 1, by omega⟩
  rw [List.take_succ_cons, List.take_succ_cons]
  have := take_filter V h x.a (k + 1)
  simp only [Nat.add_sub_cancel] at this
  rw [this]
theorem put_uniq (n : Nat) (hn : 1 ≤ n) (xs : List It) : (putL n [] xs).1 = (uniq xs.reverse).take n := by
  generalize hr : xs.reverse = ys
  have e : xs = ys.reverse := by rw [← hr, List.reverse_reverse]
  subst e
  clear hr
  induction ys with
  | nil => simp [putL_nil, uniq]
  | cons y ys ih =>
    rw [List.reverse_cons, putL_snoc, uniq_cons]
    show useL n (putL n [] ys.reverse).1 y = _
    rw [ih, use_take _ (uniq_nodup _) n hn]
theorem right_uniq (n : Nat) (hn : 1 ≤ n) (hm : n ≤ 100) (ys : List It) : rightL n ((uniq ys).take n) = true := by
  rw [right_iff]
  refine ⟨by omega, by omega, by rw [List.length_take]; omega, (uniq_nodup ys).sublist ((List.take_sublist _ _).map _)⟩
theorem uniq_len (ys : List It) : (uniq ys).length ≤ ys.length := by
  unfold uniq
  suffices H : ∀ s, (ys.foldl stepU s).length ≤ s.length + ys.length by simpa using H []
  induction ys with
  | nil => intro s; simp
  | cons y ys ih =>
    intro s
    rw [List.foldl_cons]
    refine Nat.le_trans (ih _) ?_
    unfold stepU
    split <;> simp <;> omega

end Go.Proofs.Ythoffknkpogfhaa
