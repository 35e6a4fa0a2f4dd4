/- Plain facts of ChangeNotes: what a note is as a change, and the last two changes as one. -/
import Derived.Test.YthhbkgeoigdjaaaLJoins
import Derived.Test.YthhbkgeoigdjaaaOf
import Derived.Test.YthhbkgeoigdjaaaFct
set_option linter.unusedVariables false
set_option linter.unusedSimpArgs false
namespace Go.Proofs.Ythhbkgeoigdjaaa
open Go.RowKit

theorem apply_set {p : List Pr} {n : Nt} (hw : wellL p = true) (hr : rightN n = true) : applyE p [n] = 0 ∧ applyL p [n] = setL p n.key (stepsO (getL p n.key) [n]) := by
  obtain ⟨e1, e2⟩ := apply_yes (ns := [n]) hw (by simpa using hr)
  exact ⟨e1, by rw [e2]; rfl⟩
theorem of_ok {p : List Pr} {s : Int} {n : Nt} (h : ofE p s n ≠ 1) : ofOk p s n = true := by
  cases e : ofOk p s n with
  | true => rfl
  | false => exact absurd (of_no e).1 h
theorem ofOk_right {p : List Pr} {s : Int} {n : Nt} (h : ofOk p s n = true) : wellL p = true ∧ rightN n = true ∧ 1 ≤ s ∧ s ≤ 2147483647 := by
  unfold ofOk at h
  simp only [Bool.and_eq_true, decide_eq_true_eq] at h
  exact ⟨h.1.1.1, h.1.1.2, h.1.2, h.2⟩
theorem of_three (p : List Pr) (s : Int) (n : Nt) : ofE p s n = 0 ∨ ofE p s n = 1 ∨ ofE p s n = 3 := by
  unfold ofE
  split
  · split <;> simp
  · simp
theorem of_arg {p : List Pr} {s : Int} {n : Nt} (hw : wellL p = true) (h1 : 1 ≤ s) (h2 : s ≤ 2147483647) (h : ofE p s n = 1) : applyE p [n] = 1 := by
  have hr : rightN n = false := by
    cases hr : rightN n with
    | false => rfl
    | true =>
      have e : ofOk p s n = true := by unfold ofOk; rw [hw, hr]; simp [h1, h2]
      unfold ofE at h
      rw [if_pos e] at h
      split at h <;> simp at h
  unfold applyE
  rw [hw]
  simp [hr]
theorem has_none {o : Option ByteArray} (h : (hasOf o).2 = false) : o = none := by
  cases o with
  | none => rfl
  | some v => cases h
theorem of_none {p : List Pr} {s : Int} {n : Nt} (h : ofE p s n = 3) : applyE p [n] = 0 ∧ applyL p [n] = p := by
  have hok := of_ok (p := p) (s := s) (n := n) (by omega)
  obtain ⟨hw, hr, _, _⟩ := ofOk_right hok
  unfold ofE at h
  rw [if_pos hok] at h
  split at h
  case isFalse => simp at h
  case isTrue hc =>
    simp only [ofC, Bool.and_eq_true, Bool.not_eq_true'] at hc
    obtain ⟨e1, e2⟩ := apply_set hw hr
    refine ⟨e1, ?_⟩
    rw [e2, has_none hc.2]
    exact set_same (well_sorted hw) (has_none hc.1)
theorem opt_if (o : Option ByteArray) : (if (hasOf o).2 then some (hasOf o).1 else none) = o := opt_has o
theorem side_of {o : Option ByteArray} (h : ∀ v, o = some v → v.size ≤ 32) : sideB (hasOf o).2 (hasOf o).1 = true := by
  unfold sideB
  cases o with
  | none => simp [hasOf]
  | some v => exact decide_eq_true (h v rfl)
theorem of_change {p : List Pr} {s : Int} {n : Nt} (h : ofE p s n = 0) : applyE p [n] = 0 ∧ okC p (ofA p s n) = true ∧ doC p (ofA p s n) = applyL p [n] ∧ (ofA p s n).seq = s ∧ (ofA p s n).key.size ≤ maxLen := by
  have hok := of_ok (p := p) (s := s) (n := n) (by omega)
  obtain ⟨hw, hr, h1, h2⟩ := ofOk_right hok
  have ha : ofA p s n = ofC p s n := by unfold ofA; rw [if_pos h]
  rw [ha]
  obtain ⟨e1, e2⟩ := apply_set hw hr
  have hks : n.key.size ≤ 16 := by
    unfold rightN at hr
    rw [Bool.and_eq_true] at hr
    simpa using hr.1
  have hg : ∀ v, getL p n.key = some v → v.size ≤ 32 := fun v hv => getL_fits (well_fits hw) hv
  refine ⟨e1, ?_, ?_, rfl, ?_⟩
  · rw [okC_iff]
    constructor
    · unfold ofE at h
      rw [if_pos hok] at h
      split at h
      case isTrue => simp at h
      case isFalse hc =>
        simp only [ofC] at hc
        unfold mayC ofC
        have s1 := side_of hg
        have s2 := side_of (fits_step hr hg)
        simp only [s1, s2, h1, h2, hks, decide_true, Bool.true_and, Bool.and_true]
        cases c1 : (hasOf (getL p n.key)).2
        · cases c2 : (hasOf (stepsO (getL p n.key) [n])).2
          · rw [c1, c2] at hc; exact absurd rfl hc
          · rfl
        · rfl
    · exact (opt_if _).symm
  · rw [e2]
    unfold doC behindO ofC
    simp only
    rw [opt_if]
  · show n.key.size ≤ maxLen
    unfold maxLen; omega
theorem of_do {p : List Pr} {s : Int} {n : Nt} (hw : wellL p = true) (h : ofE p s n = 0) : walkE p [ofA p s n] = 0 ∧ walkA p [ofA p s n] = applyL p [n] := by
  obtain ⟨_, h2, h3, _⟩ := of_change h
  refine walk_yes hw ?_
  unfold doL
  rw [if_pos h2, h3]; rfl
theorem of_snoc {l p : List Pr} {C : List Ch} {s : Int} {n : Nt} (hd : doL l C = some p) (h : ofE p s n = 0) : doL l (C ++ [ofA p s n]) = some (applyL p [n]) := by
  obtain ⟨_, h2, h3, _⟩ := of_change h
  rw [doL_snoc, hd]
  show (if _ then _ else _) = _
  rw [if_pos h2, h3]

/-- Changes whose numbers rise, up to k. -/
def SeqUp (k : Nat) (C : List Ch) : Prop := (∀ c ∈ C, c.seq ≤ (k : Int) ∧ c.key.size ≤ maxLen) ∧ C.Pairwise fun a b => a.seq < b.seq
theorem SeqUp.nil (k : Nat) : SeqUp k [] := ⟨fun _ h => (by cases h), List.Pairwise.nil⟩
theorem SeqUp.up {k : Nat} {C : List Ch} (h : SeqUp k C) : SeqUp (k + 1) C := ⟨fun c hc => by have := h.1 c hc; exact ⟨by omega, this.2⟩, h.2⟩
theorem SeqUp.push {k : Nat} {C : List Ch} (h : SeqUp k C) {c : Ch} (hc : c.seq = (k : Int) + 1) (hk : c.key.size ≤ maxLen) : SeqUp (k + 1) (C ++ [c]) := by
  refine ⟨fun d hd => ?_, ?_⟩
  · rcases List.mem_append.1 hd with hd | hd
    · exact h.up.1 d hd
    · rw [List.mem_singleton.1 hd]
      exact ⟨by omega, hk⟩
  · rw [List.pairwise_append]
    refine ⟨h.2, List.pairwise_singleton _ _, fun a ha b hb => ?_⟩
    rw [List.mem_singleton.1 hb]
    have := (h.1 a ha).1
    omega
theorem SeqUp.last {k : Nat} {C : List Ch} {x y : Ch} (h : SeqUp k (C ++ [x, y])) : x.seq < y.seq := by
  have := (List.pairwise_append.1 h.2).2.1
  rw [List.pairwise_cons] at this
  exact this.1 y (by simp)

theorem last_two {l p : List Pr} (hw : wellL l = true) {C : List Ch} {x y : Ch} (h : doL l (C ++ [x, y]) = some p) (hk : x.key = y.key) (hs : x.seq < y.seq) :
    (joinE x y = 3 ∧ walkA l C = p) ∨ (joinE x y = 0 ∧ walkE l (C ++ [joinA x y]) = 0 ∧ walkA l (C ++ [joinA x y]) = p) := by
  rw [doL_append] at h
  cases hq : doL l C with
  | none => rw [hq] at h; cases h
  | some q =>
    rw [hq] at h
    have h : doL q [x, y] = some p := h
    have hqw := doL_well hw hq
    obtain ⟨hE, hA⟩ := walk_yes hqw h
    have h0 := h
    unfold doL at h0
    by_cases e1 : okC q x = true
    · rw [if_pos e1] at h0
      unfold doL at h0
      by_cases e2 : okC (doC q x) y = true
      · rw [if_pos e2] at h0
        have h0 : some (doC (doC q x) y) = some p := h0
        injection h0 with h0
        obtain ⟨m1, g1⟩ := okC_iff.1 e1
        obtain ⟨m2, g2⟩ := okC_iff.1 e2
        have hb : behindO x = aheadO y := by
          rw [← g2]
          unfold doC
          rw [getL_set, if_pos hk]
        have hv : x.has = y.had ∧ x.after = y.before := by
          have a1 := (may_sides m1).2
          have a2 := (may_sides m2).1
          rw [hb, a2] at a1
          injection a1 with a3 a4
          exact ⟨a4.symm, a3.symm⟩
        have hj : joinOk x y = true := by
          unfold joinOk
          simp [m1, m2, hk, hs, hv]
        by_cases hc : (!x.had && !y.has) = true
        · left
          refine ⟨by unfold joinE; rw [if_pos hj, if_pos hc], ?_⟩
          rw [(walk_yes hw hq).2, ← h0]
          unfold doC
          rw [← hk, set_set (well_sorted hqw)]
          rw [Bool.and_eq_true] at hc
          have c1 : x.had = false := by simpa using hc.1
          have c2 : y.has = false := by simpa using hc.2
          refine (set_same (well_sorted hqw) ?_).symm
          rw [g1]
          unfold aheadO behindO
          rw [c1, c2]; rfl
        · right
          have hj0 : joinE x y = 0 := by unfold joinE; rw [if_pos hj, if_neg hc]
          refine ⟨hj0, ?_⟩
          rw [(join_ok hj0).1]
          obtain ⟨f1, f2⟩ := join_do hqw hj0 hE
          have f3 := (walk_ok f1).2
          rw [f2, hA] at f3
          refine walk_yes hw ?_
          rw [doL_append, hq]
          exact f3
      · rw [if_neg e2] at h0; cases h0
    · rw [if_neg e1] at h0; cases h0

end Go.Proofs.Ythhbkgeoigdjaaa
