/- What a note is as a change: plain facts. -/
import Derived.Test.YtgpjbajfkagdbaaCD
import Derived.Test.YtgpjbajfkagdbaaOf
import Derived.Test.YtgpjbajfkagdbaaFct
set_option linter.unusedVariables false
set_option linter.unusedSimpArgs false
namespace Go.Proofs.Ytgpjbajfkagdbaa
open Go.RowKit

theorem apply_set {p : List Pr} {n : Nt} (hw : wellL p = true) (hr : rightN n = true) : applyE p [n] = 0 ∧ applyL p [n] = setL p n.key (stepsO (getL p n.key) [n]) := by
  obtain ⟨e1, e2⟩ := apply_yes (ns := [n]) hw (by simpa using hr)
  exact ⟨e1, by rw [e2]; rfl⟩
theorem of_ok {p : List Pr} {s : Int} {n : Nt} (h : ofE p s n ≠ 1) : ofOk p s n = true := by
  cases e : ofOk p s n with
  | true => rfl
  | false => exact absurd (of_no e).1 h
theorem ofOk_right {p : List Pr} {s : Int} {n : Nt} (h : ofOk p s n = true) : wellL p = true ∧ rightN n = true ∧ 1 ≤ s ∧ s ≤ 2147483647 := by
  unfold ofOk at h
  simp only [Bool.and_eq_true, decide_eq_true_eq] at h
  exact ⟨h.1.1.1, h.1.1.2, h.1.2, h.2⟩
theorem of_three (p : List Pr) (s : Int) (n : Nt) : ofE p s n = 0 ∨ ofE p s n = 1 ∨ ofE p s n = 3 := by
  unfold ofE
  split
  · split <;> simp
  · simp
theorem of_arg {p : List Pr} {s : Int} {n : Nt} (hw : wellL p = true) (h1 : 1 ≤ s) (h2 : s ≤ 2147483647) (h : ofE p s n = 1) : applyE p [n] = 1 := by
  have hr : rightN n = false := by
    cases hr : rightN n with
    | false => rfl
    | true =>
      have e : ofOk p s n = true := by unfold ofOk; rw [hw, hr]; simp [h1, h2]
      unfold ofE at h
      rw [if_pos e] at h
      split at h <;> simp at h
  unfold applyE
  rw [hw]
  simp [hr]
theorem has_none {o : Option ByteArray} (h : (hasOf o).2 = false) : o = none := by
  cases o with
  | none => rfl
  | some v => cases h
theorem of_none {p : List Pr} {s : Int} {n : Nt} (h : ofE p s n = 3) : applyE p [n] = 0 ∧ applyL p [n] = p := by
  have hok := of_ok (p := p) (s := s) (n := n) (by omega)
  obtain ⟨hw, hr, _, _⟩ := ofOk_right hok
  unfold ofE at h
  rw [if_pos hok] at h
  split at h
  case isFalse => simp at h
  case isTrue hc =>
    simp only [ofC, Bool.and_eq_true, Bool.not_eq_true'] at hc
    obtain ⟨e1, e2⟩ := apply_set hw hr
    refine ⟨e1, ?_⟩
    rw [e2, has_none hc.2]
    exact set_same (well_sorted hw) (has_none hc.1)
theorem opt_if (o : Option ByteArray) : (if (hasOf o).2 then some (hasOf o).1 else none) = o := opt_has o
theorem side_of {o : Option ByteArray} (h : ∀ v, o = some v → v.size ≤ 32) : sideB (hasOf o).2 (hasOf o).1 = true := by
  unfold sideB
  cases o with
  | none => simp [hasOf]
  | some v => exact decide_eq_true (h v rfl)
theorem of_change {p : List Pr} {s : Int} {n : Nt} (h : ofE p s n = 0) : applyE p [n] = 0 ∧ okC p (ofA p s n) = true ∧ doC p (ofA p s n) = applyL p [n] ∧ (ofA p s n).seq = s ∧ (ofA p s n).key.size ≤ maxLen := by
  have hok := of_ok (p := p) (s := s) (n := n) (by omega)
  obtain ⟨hw, hr, h1, h2⟩ := ofOk_right hok
  have ha : ofA p s n = ofC p s n := by unfold ofA; rw [if_pos h]
  rw [ha]
  obtain ⟨e1, e2⟩ := apply_set hw hr
  have hks : n.key.size ≤ 16 := by
    unfold rightN at hr
    rw [Bool.and_eq_true] at hr
    simpa using hr.1
  have hg : ∀ v, getL p n.key = some v → v.size ≤ 32 := fun v hv => getL_fits (well_fits hw) hv
  refine ⟨e1, ?_, ?_, rfl, ?_⟩
  · rw [okC_iff]
    constructor
    · unfold ofE at h
      rw [if_pos hok] at h
      split at h
      case isTrue => simp at h
      case isFalse hc =>
        simp only [ofC] at hc
        unfold mayC ofC
        have s1 := side_of hg
        have s2 := side_of (fits_step hr hg)
        simp only [s1, s2, h1, h2, hks, decide_true, Bool.true_and, Bool.and_true]
        cases c1 : (hasOf (getL p n.key)).2
        · cases c2 : (hasOf (stepsO (getL p n.key) [n])).2
          · rw [c1, c2] at hc; exact absurd rfl hc
          · rfl
        · rfl
    · exact (opt_if _).symm
  · rw [e2]
    unfold doC behindO ofC
    simp only
    rw [opt_if]
  · show n.key.size ≤ maxLen
    unfold maxLen; omega
theorem of_do {p : List Pr} {s : Int} {n : Nt} (hw : wellL p = true) (h : ofE p s n = 0) : walkE p [ofA p s n] = 0 ∧ walkA p [ofA p s n] = applyL p [n] := by
  obtain ⟨_, h2, h3, _⟩ := of_change h
  refine walk_yes hw ?_
  unfold doL
  rw [if_pos h2, h3]; rfl
theorem of_snoc {l p : List Pr} {C : List Ch} {s : Int} {n : Nt} (hd : doL l C = some p) (h : ofE p s n = 0) : doL l (C ++ [ofA p s n]) = some (applyL p [n]) := by
  obtain ⟨_, h2, h3, _⟩ := of_change h
  rw [doL_snoc, hd]
  show (if _ then _ else _) = _
  rw [if_pos h2, h3]

end Go.Proofs.Ytgpjbajfkagdbaa

namespace Go.Proofs.Ytgpjbajfkagdbaa

/-- What a run has made: the pairs, the changes, the last Seq. -/
structure Rs where
  p : List Pr
  C : List Ch
  s : Int

def stepR (r : Rs) (n : Nt) : Rs := if ofE r.p (r.s + 1) n = 0 then ⟨applyL r.p [n], r.C ++ [ofA r.p (r.s + 1) n], r.s + 1⟩ else r
def runR (r : Rs) (ns : List Nt) : Rs := ns.foldl stepR r
def batchB (ns : List Nt) : Bool := decide (ns.length ≤ 8) && ns.all rightN
def runE (p : List Pr) (s : Int) (ns : List Nt) : Int :=
  if wellL p && batchB ns && decide (0 ≤ s) && decide (s ≤ 2147483647) then (if 2147483647 < s + ns.length then 5 else 0) else 1
def allE : Rs → List (List Nt) → Int
  | _, [] => 0
  | r, b :: bs => if runE r.p r.s b = 0 then allE (runR r b) bs else runE r.p r.s b
def goR (r : Rs) (bs : List (List Nt)) : Rs := bs.foldl runR r
def endsR : Rs → List (List Nt) → List Int
  | _, [] => []
  | r, b :: bs => (runR r b).s :: endsR (runR r b) bs
def rs0 (l : List Pr) (s : Int) : Rs := ⟨l, [], s⟩

/-! The answers. -/
def outE (l : List Pr) (s : Int) (bs : List (List Nt)) : Int := allE (rs0 l s) bs
def outC (l : List Pr) (s : Int) (bs : List (List Nt)) : List Ch := if outE l s bs = 0 then (goR (rs0 l s) bs).C else []
def outP (l : List Pr) (s : Int) (bs : List (List Nt)) : List Pr := if outE l s bs = 0 then (goR (rs0 l s) bs).p else l
def outN (l : List Pr) (s : Int) (bs : List (List Nt)) : List Int := if outE l s bs = 0 then endsR (rs0 l s) bs else []

theorem batchB_iff {ns : List Nt} : batchB ns = true ↔ ns.length ≤ 8 ∧ ns.all rightN = true := by unfold batchB; simp
theorem runE_ok {p : List Pr} {s : Int} {ns : List Nt} (h : runE p s ns = 0) : wellL p = true ∧ ns.length ≤ 8 ∧ ns.all rightN = true ∧ 0 ≤ s ∧ s + ns.length ≤ 2147483647 := by
  unfold runE at h
  split at h
  case isFalse => simp at h
  case isTrue hc =>
    simp only [Bool.and_eq_true, decide_eq_true_eq] at hc
    obtain ⟨⟨⟨h1, h2⟩, h3⟩, h4⟩ := hc
    split at h
    · simp at h
    · exact ⟨h1, (batchB_iff.1 h2).1, (batchB_iff.1 h2).2, h3, by omega⟩
theorem runE_is {p : List Pr} {s : Int} (hp : wellL p = true) (h0 : 0 ≤ s) (h1 : s ≤ 2147483647) (ns : List Nt) : runE p s ns = if batchB ns then (if 2147483647 < s + ns.length then 5 else 0) else 1 := by
  unfold runE
  rw [hp, decide_eq_true h0, decide_eq_true h1]
  simp
theorem runE_arg {p : List Pr} {s : Int} (h : (wellL p && decide (0 ≤ s) && decide (s ≤ 2147483647)) = false) (ns : List Nt) : runE p s ns = 1 := by
  unfold runE
  rw [if_neg]
  intro e
  simp only [Bool.and_eq_true] at e
  obtain ⟨⟨⟨h1, h2⟩, h3⟩, h4⟩ := e
  rw [h1, h3, h4] at h
  cases h
theorem runE_five {p : List Pr} {s : Int} {ns : List Nt} : runE p s ns = 0 ∨ runE p s ns = 1 ∨ runE p s ns = 5 := by
  unfold runE
  split
  · split <;> simp
  · simp

theorem allE_snoc (r : Rs) (bs : List (List Nt)) (b : List Nt) : allE r (bs ++ [b]) = if allE r bs = 0 then runE (goR r bs).p (goR r bs).s b else allE r bs := by
  induction bs generalizing r with
  | nil =>
    show (if runE r.p r.s b = 0 then allE (runR r b) [] else runE r.p r.s b) = if (0 : Int) = 0 then runE r.p r.s b else 0
    rw [if_pos rfl]
    by_cases h : runE r.p r.s b = 0
    · rw [if_pos h, h]; rfl
    · rw [if_neg h]
  | cons c bs ih =>
    show (if runE r.p r.s c = 0 then allE (runR r c) (bs ++ [b]) else runE r.p r.s c) = if (if runE r.p r.s c = 0 then allE (runR r c) bs else runE r.p r.s c) = 0 then runE (goR (runR r c) bs).p (goR (runR r c) bs).s b else (if runE r.p r.s c = 0 then allE (runR r c) bs else runE r.p r.s c)
    by_cases h : runE r.p r.s c = 0
    · rw [if_pos h, if_pos h, ih]
    · rw [if_neg h, if_neg h, if_neg h]
theorem allE_append (r : Rs) (a b : List (List Nt)) : allE r (a ++ b) = if allE r a = 0 then allE (goR r a) b else allE r a := by
  induction a generalizing r with
  | nil => show allE r b = if (0 : Int) = 0 then allE r b else 0; rw [if_pos rfl]
  | cons c a ih =>
    show (if runE r.p r.s c = 0 then allE (runR r c) (a ++ b) else runE r.p r.s c) = if (if runE r.p r.s c = 0 then allE (runR r c) a else runE r.p r.s c) = 0 then allE (goR (runR r c) a) b else (if runE r.p r.s c = 0 then allE (runR r c) a else runE r.p r.s c)
    by_cases h : runE r.p r.s c = 0
    · rw [if_pos h, if_pos h, ih]
    · rw [if_neg h, if_neg h, if_neg h]
theorem goR_append (r : Rs) (a b : List (List Nt)) : goR r (a ++ b) = goR (goR r a) b := List.foldl_append
theorem goR_snoc (r : Rs) (a : List (List Nt)) (b : List Nt) : goR r (a ++ [b]) = runR (goR r a) b := goR_append r a [b]
theorem runR_append (r : Rs) (a b : List Nt) : runR r (a ++ b) = runR (runR r a) b := List.foldl_append
theorem runR_snoc (r : Rs) (a : List Nt) (b : Nt) : runR r (a ++ [b]) = stepR (runR r a) b := runR_append r a [b]
theorem endsR_append (r : Rs) (a b : List (List Nt)) : endsR r (a ++ b) = endsR r a ++ endsR (goR r a) b := by
  induction a generalizing r with
  | nil => rfl
  | cons c a ih => show _ :: endsR (runR r c) (a ++ b) = _ :: (endsR (runR r c) a ++ _); rw [ih]; rfl
theorem endsR_snoc (r : Rs) (a : List (List Nt)) (b : List Nt) : endsR r (a ++ [b]) = endsR r a ++ [(goR r (a ++ [b])).s] := by rw [endsR_append, goR_snoc]; rfl
theorem endsR_len (r : Rs) (a : List (List Nt)) : (endsR r a).length = a.length := by
  induction a generalizing r with
  | nil => rfl
  | cons c a ih => show (endsR (runR r c) a).length + 1 = _; rw [ih, List.length_cons]
theorem takeS {α : Type} {l : List α} {k : Nat} (h : k < l.length) : l.take (k + 1) = l.take k ++ [l[k]] := List.take_succ_eq_append_getElem h
/-- What fails ahead fails. -/
theorem allE_take {r : Rs} {bs : List (List Nt)} {k : Nat} (h : allE r (bs.take k) ≠ 0) : allE r bs = allE r (bs.take k) := by
  conv => lhs; rw [← List.take_append_drop k bs]
  rw [allE_append, if_neg h]
theorem allE_at {r : Rs} {bs : List (List Nt)} {k : Nat} (hk : k < bs.length) (h : allE r (bs.take k) = 0) : allE r (bs.take (k + 1)) = runE (goR r (bs.take k)).p (goR r (bs.take k)).s bs[k] := by
  rw [takeS hk, allE_snoc, if_pos h]

/-! What holds of a run. -/
structure RInv (l : List Pr) (s0 : Int) (r : Rs) : Prop where
  well : wellL l = true
  does : doL l r.C = some r.p
  seq : r.s = s0 + r.C.length
  low : 0 ≤ s0
  top : r.s ≤ 2147483647
  nums : ∀ i (h : i < r.C.length), r.C[i].seq = s0 + i + 1
theorem RInv.start {l : List Pr} {s : Int} (hw : wellL l = true) (h0 : 0 ≤ s) (h1 : s ≤ 2147483647) : RInv l s (rs0 l s) :=
  ⟨hw, rfl, by show s = s + ((0 : Nat) : Int); omega, h0, h1, fun i h => absurd h (by simp [rs0])⟩
theorem RInv.pwell {l : List Pr} {s : Int} {r : Rs} (h : RInv l s r) : wellL r.p = true := doL_well h.well h.does
theorem RInv.pos {l : List Pr} {s : Int} {r : Rs} (h : RInv l s r) : 0 ≤ r.s := by have := h.seq; have := h.low; omega
theorem of_two {p : List Pr} {s : Int} {n : Nt} (hw : wellL p = true) (hr : rightN n = true) (h1 : 1 ≤ s) (h2 : s ≤ 2147483647) : ofE p s n = 0 ∨ ofE p s n = 3 := by
  rcases of_three p s n with h | h | h
  · exact .inl h
  · exfalso
    have := of_arg hw h1 h2 h
    unfold applyE at this
    rw [hw] at this
    simp [hr] at this
  · exact .inr h
theorem step_p {l : List Pr} {s : Int} {r : Rs} (h : RInv l s r) {n : Nt} (hr : rightN n = true) (ht : r.s + 1 ≤ 2147483647) : (stepR r n).p = applyL r.p [n] ∧ applyE r.p [n] = 0 := by
  have h0 := h.pos
  unfold stepR
  rcases of_two (p := r.p) (s := r.s + 1) (n := n) h.pwell hr (by omega) ht with e | e
  · rw [if_pos e]; exact ⟨rfl, (of_change e).1⟩
  · rw [if_neg (by omega)]; exact ⟨(of_none e).2.symm, (of_none e).1⟩
theorem step_inv {l : List Pr} {s : Int} {r : Rs} (h : RInv l s r) {n : Nt} (ht : r.s + 1 ≤ 2147483647) : RInv l s (stepR r n) ∧ r.s ≤ (stepR r n).s ∧ (stepR r n).s ≤ r.s + 1 := by
  unfold stepR
  by_cases e : ofE r.p (r.s + 1) n = 0
  · rw [if_pos e]
    refine ⟨⟨h.well, of_snoc h.does e, ?_, h.low, ht, ?_⟩, by show r.s ≤ r.s + 1; omega, Int.le_refl _⟩
    · show r.s + 1 = s + ((r.C ++ [_]).length : Nat)
      have := h.seq
      rw [List.length_append, List.length_singleton]
      omega
    · intro i hi
      show (r.C ++ [ofA r.p (r.s + 1) n])[i].seq = _
      by_cases hlt : i < r.C.length
      · rw [List.getElem_append_left hlt]; exact h.nums i hlt
      · have hi2 : i = r.C.length := by
          have : i < (r.C ++ [ofA r.p (r.s + 1) n]).length := hi
          rw [List.length_append, List.length_singleton] at this; omega
        subst hi2
        rw [List.getElem_append_right (Nat.le_refl _)]
        simp only [Nat.sub_self, List.getElem_cons_zero]
        rw [(of_change e).2.2.2.1, h.seq]
  · rw [if_neg e]; exact ⟨h, by omega, by omega⟩
theorem run_inv {l : List Pr} {s : Int} {r : Rs} (h : RInv l s r) {ns : List Nt} (hr : ns.all rightN = true) (ht : r.s + ns.length ≤ 2147483647) :
    RInv l s (runR r ns) ∧ r.s ≤ (runR r ns).s ∧ (runR r ns).s ≤ r.s + ns.length ∧ (runR r ns).p = foldOne r.p ns ∧ (runR r ns).C.length ≤ r.C.length + ns.length := by
  induction ns generalizing r with
  | nil => exact ⟨h, Int.le_refl _, by simp [runR], rfl, by simp [runR]⟩
  | cons n ns ih =>
    rw [List.all_cons, Bool.and_eq_true] at hr
    rw [List.length_cons] at ht
    obtain ⟨g1, g2, g3⟩ := step_inv h (n := n) (by omega)
    obtain ⟨g4, g5⟩ := step_p h hr.1 (by omega)
    obtain ⟨k1, k2, k3, k4, k5⟩ := ih g1 hr.2 (by omega)
    refine ⟨k1, ?_, ?_, ?_, ?_⟩
    · show r.s ≤ (runR (stepR r n) ns).s; omega
    · show (runR (stepR r n) ns).s ≤ _; rw [List.length_cons]; omega
    · show (runR (stepR r n) ns).p = _
      rw [k4, g4, foldOne_cons]
      obtain ⟨_, e2⟩ := apply_yes (ns := [n]) h.pwell (by simpa using hr.1)
      rw [e2]; rfl
    · show (runR (stepR r n) ns).C.length ≤ _
      have : (stepR r n).C.length ≤ r.C.length + 1 := by
        unfold stepR
        split
        · show (r.C ++ [_]).length ≤ _; rw [List.length_append, List.length_singleton]; omega
        · omega
      rw [List.length_cons]; omega
theorem run_take {l : List Pr} {s : Int} {r : Rs} (h : RInv l s r) {ns : List Nt} (hr : ns.all rightN = true) (ht : r.s + ns.length ≤ 2147483647) (k : Nat) (hk : k < ns.length) :
    RInv l s (runR r (ns.take k)) ∧ (runR r (ns.take k)).s + 1 ≤ 2147483647 ∧ rightN ns[k] = true ∧ runR r (ns.take (k + 1)) = stepR (runR r (ns.take k)) ns[k] := by
  have hr2 := List.all_eq_true.1 hr
  obtain ⟨g1, _, g3, _⟩ := run_inv h (ns := ns.take k) (by rw [List.all_eq_true]; exact fun x hx => hr2 x (List.mem_of_mem_take hx)) (by rw [List.length_take]; omega)
  rw [List.length_take] at g3
  exact ⟨g1, by omega, hr2 _ (List.getElem_mem hk), by rw [takeS hk, runR_snoc]⟩
theorem all_inv {l : List Pr} {s : Int} {r : Rs} (h : RInv l s r) {bs : List (List Nt)} (he : allE r bs = 0) :
    RInv l s (goR r bs) ∧ (goR r bs).p = foldOne r.p bs.flatten ∧ bs.flatten.all rightN = true ∧ (goR r bs).C.length ≤ r.C.length + 8 * bs.length := by
  induction bs generalizing r with
  | nil => exact ⟨h, rfl, rfl, by simp [goR]⟩
  | cons b bs ih =>
    have he : (if runE r.p r.s b = 0 then allE (runR r b) bs else runE r.p r.s b) = 0 := he
    by_cases e : runE r.p r.s b = 0
    · rw [if_pos e] at he
      obtain ⟨_, h2, h3, _, h5⟩ := runE_ok e
      obtain ⟨g1, _, _, g4, g5⟩ := run_inv h h3 h5
      obtain ⟨k1, k2, k3, k4⟩ := ih g1 he
      refine ⟨k1, ?_, ?_, ?_⟩
      · show (goR (runR r b) bs).p = _
        rw [k2, g4, List.flatten_cons, foldOne_append]
      · rw [List.flatten_cons, List.all_append, h3, k3]; rfl
      · show (goR (runR r b) bs).C.length ≤ _
        rw [List.length_cons]; omega
    · rw [if_neg e] at he; exact absurd he e

/-! From the answers. -/
theorem out_start {l : List Pr} {s : Int} {bs : List (List Nt)} (hb : bs ≠ []) (h : outE l s bs = 0) : RInv l s (rs0 l s) := by
  cases bs with
  | nil => exact absurd rfl hb
  | cons b bs =>
    unfold outE at h
    have h : (if runE l s b = 0 then allE (runR (rs0 l s) b) bs else runE l s b) = 0 := h
    by_cases e : runE l s b = 0
    · obtain ⟨h1, _, _, h4, h5⟩ := runE_ok e
      exact RInv.start h1 h4 (by omega)
    · rw [if_neg e] at h; exact absurd h e
theorem out_nil (l : List Pr) (s : Int) : outE l s [] = 0 ∧ outC l s [] = [] ∧ outP l s [] = l ∧ outN l s [] = [] := ⟨rfl, rfl, rfl, rfl⟩
theorem out_yes {l : List Pr} {s : Int} {bs : List (List Nt)} (h : outE l s bs = 0) : outC l s bs = (goR (rs0 l s) bs).C ∧ outP l s bs = (goR (rs0 l s) bs).p ∧ outN l s bs = endsR (rs0 l s) bs := by
  unfold outC outP outN
  rw [if_pos h, if_pos h, if_pos h]
  exact ⟨rfl, rfl, rfl⟩
theorem out_no {l : List Pr} {s : Int} {bs : List (List Nt)} (h : outE l s bs ≠ 0) : outC l s bs = [] ∧ outP l s bs = l ∧ outN l s bs = [] := by
  unfold outC outP outN
  rw [if_neg h, if_neg h, if_neg h]
  exact ⟨rfl, rfl, rfl⟩
theorem out_inv {l : List Pr} {s : Int} {bs : List (List Nt)} (hb : bs ≠ []) (h : outE l s bs = 0) : RInv l s (goR (rs0 l s) bs) ∧ outP l s bs = foldOne l bs.flatten ∧ bs.flatten.all rightN = true ∧ (outC l s bs).length ≤ 8 * bs.length := by
  obtain ⟨h1, h2, h3, h4⟩ := all_inv (out_start hb h) h
  rw [(out_yes h).1, (out_yes h).2.1]
  exact ⟨h1, h2, h3, by simpa [rs0] using h4⟩
theorem out_len (l : List Pr) (s : Int) (bs : List (List Nt)) : (outC l s bs).length ≤ 8 * bs.length ∧ (outP l s bs).length ≤ l.length + 8 * bs.length ∧ (outN l s bs).length ≤ bs.length := by
  by_cases h : outE l s bs = 0
  · by_cases hb : bs = []
    · subst hb; exact ⟨Nat.le_refl _, by rw [(out_nil l s).2.2.1]; omega, Nat.le_refl _⟩
    · obtain ⟨h1, _, _, h4⟩ := out_inv hb h
      refine ⟨h4, ?_, ?_⟩
      · have := doL_len h1.does
        rw [(out_yes h).1] at h4
        rw [(out_yes h).2.1]; omega
      · rw [(out_yes h).2.2, endsR_len]; exact Nat.le_refl _
  · obtain ⟨h1, h2, h3⟩ := out_no h
    rw [h1, h2, h3]
    exact ⟨Nat.zero_le _, by omega, Nat.zero_le _⟩
theorem out_keys {l : List Pr} {s : Int} {bs : List (List Nt)} : ∀ c ∈ outC l s bs, c.key.size ≤ 16 := by
  intro c hc
  by_cases h : outE l s bs = 0
  · by_cases hb : bs = []
    · subst hb; cases hc
    · obtain ⟨h1, _⟩ := out_inv hb h
      rw [(out_yes h).1] at hc
      exact (may_of (doL_rights h1.does c hc)).2.2.1
  · rw [(out_no h).1] at hc; cases hc

/-! Of one key's pairs alone. -/
def ofK (p : List Pr) (k : ByteArray) : List Pr := pairOf k (getL p k)
theorem ofK_get (p : List Pr) (k : ByteArray) : getL (ofK p k) k = getL p k := by unfold ofK; rw [getL_pair, if_pos rfl]
theorem ofK_well {p : List Pr} (hw : wellL p = true) {k : ByteArray} (hk : k.size ≤ 16) : wellL (ofK p k) = true := by
  unfold ofK
  cases h : getL p k with
  | none => exact well_of List.Pairwise.nil (fun _ h => (by cases h))
  | some v => exact well_of (List.pairwise_singleton _ _) (fun q hq => by
      rw [List.mem_singleton.1 hq]
      exact (fitsP_iff _).2 ⟨hk, getL_fits (well_fits hw) h⟩)
theorem ofK_len (p : List Pr) (k : ByteArray) : (ofK p k).length ≤ 1 := by unfold ofK; cases getL p k <;> simp [pairOf]
theorem ofK_of {p : List Pr} (hw : wellL p = true) {n : Nt} (hr : rightN n = true) (s : Int) : ofE (ofK p n.key) s n = ofE p s n ∧ ofA (ofK p n.key) s n = ofA p s n := by
  have hk : n.key.size ≤ 16 := (rightN_iff _).1 hr |>.1
  have e1 : ofOk (ofK p n.key) s n = ofOk p s n := by unfold ofOk; rw [ofK_well hw hk, hw]
  have e2 : ofC (ofK p n.key) s n = ofC p s n := by unfold ofC; rw [ofK_get]
  have e3 : ofE (ofK p n.key) s n = ofE p s n := by unfold ofE; rw [e1, e2]
  refine ⟨e3, ?_⟩
  unfold ofA
  rw [e3, e2]
theorem ofK_do {p : List Pr} (hw : wellL p = true) {n : Nt} (hr : rightN n = true) {s : Int} (h : ofE p s n = 0) :
    walkE (ofK p n.key) [ofA p s n] = 0 ∧ walkA (ofK p n.key) [ofA p s n] = ofK (applyL p [n]) n.key ∧ ∀ k, k ≠ n.key → ofK (applyL p [n]) k = ofK p k := by
  have hk : n.key.size ≤ 16 := (rightN_iff _).1 hr |>.1
  have hw2 := ofK_well hw hk
  obtain ⟨e1, e2⟩ := ofK_of hw hr s
  rw [← e1] at h
  obtain ⟨d1, d2⟩ := of_do hw2 h
  rw [← e2]
  obtain ⟨a1, a2⟩ := apply_set hw hr
  obtain ⟨b1, b2⟩ := apply_set hw2 hr
  refine ⟨d1, ?_, fun k hne => ?_⟩
  · rw [d2, b2, a2, ofK_get]
    unfold ofK
    rw [getL_set, if_pos rfl]
    have : setL (pairOf n.key (getL p n.key)) n.key (stepsO (getL p n.key) [n]) = pairOf n.key (stepsO (getL p n.key) [n]) := by
      unfold setL
      have h1 : ((pairOf n.key (getL p n.key)).filter fun q => decide (q.k < n.key)) = [] := by
        cases getL p n.key with
        | none => rfl
        | some v =>
          have : ¬ n.key < n.key := by grind
          simp [pairOf, this]
      have h2 : ((pairOf n.key (getL p n.key)).filter fun q => decide (n.key < q.k)) = [] := by
        cases getL p n.key with
        | none => rfl
        | some v =>
          have : ¬ n.key < n.key := by grind
          simp [pairOf, this]
      rw [h1, h2]; simp
    exact this
  · unfold ofK
    rw [a2, getL_set, if_neg (fun e => hne e.symm)]
/-- .. where they stand. -/
theorem ofK_at {p : List Pr} (hw : wellL p = true) (k : ByteArray) : (∃ h : lessL p k < p.length, p[lessL p k].k = k) → ∃ h : lessL p k < p.length, ofK p k = [p[lessL p k]] := by
  rintro ⟨h, e⟩
  refine ⟨h, ?_⟩
  have := getL_mem (well_sorted hw) _ h
  rw [e] at this
  unfold ofK
  rw [this]
  show [(⟨k, _⟩ : Pr)] = _
  rw [show p[lessL p k] = ⟨p[lessL p k].k, p[lessL p k].v⟩ from rfl, e]
theorem ofK_no {p : List Pr} (hw : wellL p = true) (k : ByteArray) (h : ¬ ∃ h : lessL p k < p.length, p[lessL p k].k = k) : ofK p k = [] := by
  unfold ofK
  cases e : getL p k with
  | none => rfl
  | some v => exact absurd ((less_at (well_sorted hw) k).1 (by rw [e]; rfl)) h

end Go.Proofs.Ytgpjbajfkagdbaa
