/- Pairs as of a Seq: plain facts. -/
import Derived.Test.YtgpjbajfkagdbaaBT
import Derived.Test.YtgpjbajfkagdbaaTl
set_option linter.unusedVariables false
set_option linter.unusedSimpArgs false
namespace Go.Proofs.Ytgpjbajfkagdbaa

/-- The changes above s, and the pairs with them undone. -/
def aboveS (t : List Ch) (s : Int) : List Ch := t.filter fun c => decide (s < c.seq)
def asU (l : List Pr) (t : List Ch) (s : Int) : Option (List Pr) := doL l (backL (aboveS t s))
def pastE (l : List Pr) (t : List Ch) (fl s : Int) : Int := if wellL l && trailB t then (if s < fl then 8 else if (asU l t s).isSome then 0 else 1) else 1
def pastL (l : List Pr) (t : List Ch) (fl s : Int) : List Pr := if pastE l t fl s = 0 then (asU l t s).getD [] else []
theorem pastE_yes {l : List Pr} {t : List Ch} {fl s : Int} (h : pastE l t fl s = 0) : wellL l = true ∧ trailB t = true ∧ fl ≤ s ∧ asU l t s = some (pastL l t fl s) := by
  have hL : pastL l t fl s = (asU l t s).getD [] := by unfold pastL; rw [if_pos h]
  unfold pastE at h
  split at h
  case isFalse => simp at h
  case isTrue hc =>
    rw [Bool.and_eq_true] at hc
    split at h
    · simp at h
    · rename_i hs
      split at h
      · rename_i ho
        refine ⟨hc.1, hc.2, by omega, ?_⟩
        rw [hL]
        cases e : asU l t s with
        | none => rw [e] at ho; cases ho
        | some q => rfl
      · simp at h
theorem pastE_is {l : List Pr} {t : List Ch} {fl s : Int} {q : List Pr} (hw : wellL l = true) (ht : trailB t = true) (hs : fl ≤ s) (h : asU l t s = some q) : pastE l t fl s = 0 ∧ pastL l t fl s = q := by
  have h1 : pastE l t fl s = 0 := by
    unfold pastE
    rw [hw, ht, h, if_pos (by decide), if_neg (by omega)]
    rfl
  exact ⟨h1, by unfold pastL; rw [if_pos h1, h]; rfl⟩
theorem past_no {l : List Pr} {t : List Ch} {fl s : Int} (h : pastE l t fl s ≠ 0) : pastL l t fl s = [] := by unfold pastL; rw [if_neg h]
theorem above_len (t : List Ch) (s : Int) : (aboveS t s).length ≤ t.length := List.length_filter_le _ _
theorem back_append (a b : List Ch) : backL (a ++ b) = backL b ++ backL a := by unfold backL; rw [List.map_append, List.reverse_append]
theorem past_well {l : List Pr} {t : List Ch} {fl s : Int} (h : pastE l t fl s = 0) : wellL (pastL l t fl s) = true := by
  obtain ⟨h1, _, _, h4⟩ := pastE_yes h
  exact doL_well h1 h4
theorem past_len (l : List Pr) (t : List Ch) (fl s : Int) : (pastL l t fl s).length ≤ l.length + t.length := by
  by_cases h : pastE l t fl s = 0
  · obtain ⟨_, _, _, h4⟩ := pastE_yes h
    have h5 := doL_len h4
    rw [back_len] at h5
    have := above_len t s
    omega
  · rw [past_no h]; simp

/-- Where the changes are cut at s, the pairs as of s are those that the first ones made. -/
theorem as_cut {l0 l p : List Pr} {t : List Ch} {m : Nat} {s : Int} (hw : wellL l0 = true) (hd : doL l0 t = some l) (hp : doL l0 (t.take m) = some p) (h1 : ∀ c ∈ t.take m, c.seq ≤ s) (h2 : ∀ c ∈ t.drop m, s < c.seq) : asU l t s = some p := by
  have hf : aboveS t s = t.drop m := by
    unfold aboveS
    conv => lhs; rw [← List.take_append_drop m t]
    rw [List.filter_append]
    have e1 : (t.take m).filter (fun c => decide (s < c.seq)) = [] := by
      rw [List.filter_eq_nil_iff]
      intro c hc
      have := h1 c hc
      simp; omega
    have e2 : (t.drop m).filter (fun c => decide (s < c.seq)) = t.drop m := by
      rw [List.filter_eq_self]
      intro c hc
      simpa using h2 c hc
    rw [e1, e2]; rfl
  unfold asU
  rw [hf]
  rw [← List.take_append_drop m t, doL_append, hp] at hd
  exact doL_back (doL_well hw hp) hd
/-- As of a greater Seq, and then of a lesser one. -/
theorem above_two {t : List Ch} (ht : trailB t = true) {lo hi : Int} (h : lo ≤ hi) : aboveS t lo = aboveS (t.filter fun c => decide (c.seq ≤ hi)) lo ++ aboveS t hi := by
  have hs := (trail_t.1 ht).2
  unfold aboveS
  rw [List.filter_filter]
  clear ht
  induction t with
  | nil => rfl
  | cons c t ih =>
    obtain ⟨h1, h2⟩ := List.pairwise_cons.1 hs
    have ih := ih h2
    by_cases hc : c.seq ≤ hi
    · by_cases hl : lo < c.seq
      · rw [List.filter_cons_of_pos (by simpa using hl), List.filter_cons_of_pos (by simp [hl, hc]), List.filter_cons_of_neg (by simp; omega), ih]
        rfl
      · rw [List.filter_cons_of_neg (by simpa using hl), List.filter_cons_of_neg (by simp; omega), List.filter_cons_of_neg (by simp; omega), ih]
    · have e1 : t.filter (fun a => decide (lo < a.seq) && decide (a.seq ≤ hi)) = [] := by
        rw [List.filter_eq_nil_iff]
        intro a ha
        have := h1 a ha
        simp; omega
      have e2 : ∀ x : Int, x ≤ hi → t.filter (fun a => decide (x < a.seq)) = t := fun x hx => by
        rw [List.filter_eq_self]
        intro a ha
        have := h1 a ha
        simp; omega
      rw [List.filter_cons_of_pos (by simp; omega), List.filter_cons_of_neg (by simp; omega), List.filter_cons_of_pos (by simp; omega), e1, e2 lo h, e2 hi (Int.le_refl _)]
      rfl
theorem as_hop {l p : List Pr} {t : List Ch} (ht : trailB t = true) {lo hi : Int} (h : lo ≤ hi) (hp : asU l t hi = some p) : asU p (t.filter fun c => decide (c.seq ≤ hi)) lo = asU l t lo := by
  unfold asU at *
  rw [above_two ht h, back_append, doL_append, hp]
  rfl
theorem some_trail {t : List Ch} (ht : trailB t = true) (hi : Int) : trailB (t.filter fun c => decide (c.seq ≤ hi)) = true := trail_t.2 ((trail_t.1 ht).sub List.filter_sublist)

theorem stepR_pre (r : Rs) (n : Nt) : ∃ D, (stepR r n).C = r.C ++ D := by
  unfold stepR
  split
  · exact ⟨_, rfl⟩
  · exact ⟨[], (List.append_nil _).symm⟩
theorem runR_pre (r : Rs) (ns : List Nt) : ∃ D, (runR r ns).C = r.C ++ D := by
  induction ns generalizing r with
  | nil => exact ⟨[], (List.append_nil _).symm⟩
  | cons n ns ih =>
    obtain ⟨D, hD⟩ := ih (stepR r n)
    obtain ⟨F, hF⟩ := stepR_pre r n
    exact ⟨F ++ D, by show (runR (stepR r n) ns).C = _; rw [hD, hF, List.append_assoc]⟩
theorem goR_pre (r : Rs) (bs : List (List Nt)) : ∃ D, (goR r bs).C = r.C ++ D := by
  induction bs generalizing r with
  | nil => exact ⟨[], (List.append_nil _).symm⟩
  | cons b bs ih =>
    obtain ⟨D, hD⟩ := ih (runR r b)
    obtain ⟨F, hF⟩ := runR_pre r b
    exact ⟨F ++ D, by show (goR (runR r b) bs).C = _; rw [hD, hF, List.append_assoc]⟩
theorem ends_at (r : Rs) (bs : List (List Nt)) (i : Nat) (h : i < (endsR r bs).length) : (endsR r bs)[i] = (goR r (bs.take (i + 1))).s := by
  induction bs generalizing r i with
  | nil => exact absurd h (by simp [endsR])
  | cons b bs ih =>
    cases i with
    | zero => rfl
    | succ i =>
      have h2 : i < (endsR (runR r b) bs).length := by simpa [endsR] using h
      exact ih (runR r b) i h2

/-- Behind batches: as of where each ended the pairs are those that were there. -/
theorem was_at {l0 : List Pr} {s0 : Int} {bs : List (List Nt)} (hw : wellL l0 = true) (h0 : 0 ≤ s0) (h1 : s0 ≤ 2147483647) (h : outE l0 s0 bs = 0) {i : Nat} (hi : i < bs.length) (hi2 : i < (outN l0 s0 bs).length) :
    outE l0 s0 (bs.take (i + 1)) = 0 ∧ asU (outP l0 s0 bs) (outC l0 s0 bs) (outN l0 s0 bs)[i] = some (outP l0 s0 (bs.take (i + 1))) := by
  have hst := RInv.start hw h0 h1
  have hE : allE (rs0 l0 s0) (bs.take (i + 1)) = 0 := by
    apply Classical.byContradiction
    intro e
    have := allE_take (k := i + 1) e
    have h' : allE (rs0 l0 s0) bs = 0 := h
    rw [h'] at this
    exact e this.symm
  refine ⟨hE, ?_⟩
  obtain ⟨a1, _⟩ := all_inv hst h
  obtain ⟨b1, _⟩ := all_inv hst hE
  obtain ⟨y1, y2, y3⟩ := out_yes h
  obtain ⟨z1, z2, z3⟩ := out_yes (l := l0) (s := s0) (bs := bs.take (i + 1)) hE
  have hpre : (goR (rs0 l0 s0) (bs.take (i + 1))).C = (goR (rs0 l0 s0) bs).C.take (goR (rs0 l0 s0) (bs.take (i + 1))).C.length := by
    obtain ⟨D, hD⟩ := goR_pre (goR (rs0 l0 s0) (bs.take (i + 1))) (bs.drop (i + 1))
    rw [← goR_append, List.take_append_drop] at hD
    rw [hD, List.take_append_of_le_length (Nat.le_refl _), List.take_length]
  have hend : (outN l0 s0 bs)[i] = (goR (rs0 l0 s0) (bs.take (i + 1))).s := by
    simp only [y3]
    exact ends_at _ _ i (by rw [endsR_len]; exact hi)
  rw [y1, y2, z2, hend]
  refine as_cut (m := (goR (rs0 l0 s0) (bs.take (i + 1))).C.length) hw a1.does (by rw [← hpre]; exact b1.does) ?_ ?_
  · intro c hc
    obtain ⟨j, hj, rfl⟩ := List.getElem_of_mem hc
    rw [List.getElem_take, a1.nums _ _, b1.seq]
    rw [List.length_take] at hj
    omega
  · intro c hc
    obtain ⟨j, hj, rfl⟩ := List.getElem_of_mem hc
    rw [List.getElem_drop, a1.nums _ _, b1.seq]
    omega

end Go.Proofs.Ytgpjbajfkagdbaa
