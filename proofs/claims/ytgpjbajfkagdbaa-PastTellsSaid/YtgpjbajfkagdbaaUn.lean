/- Undone change by change: plain facts. -/
import Derived.Test.YtgpjbajfkagdbaaPa
set_option linter.unusedVariables false
set_option linter.unusedSimpArgs false
namespace Go.Proofs.Ytgpjbajfkagdbaa

/-- Those from place j on are above s, and undone. -/
def Undone (l : List Pr) (t : List Ch) (s : Int) (j : Nat) (q : List Pr) : Prop := doL l (backL (t.drop j)) = some q ∧ ∀ c ∈ t.drop j, s < c.seq
theorem Undone.start (l : List Pr) (t : List Ch) (s : Int) : Undone l t s t.length l := by
  unfold Undone
  rw [List.drop_length]
  exact ⟨rfl, fun c h => by cases h⟩
theorem Undone.len {l q : List Pr} {t : List Ch} {s : Int} {j : Nat} (h : Undone l t s j q) : q.length ≤ l.length + t.length := by
  have := doL_len h.1
  rw [back_len, List.length_drop] at this
  omega
theorem Undone.above {l q : List Pr} {t : List Ch} {s : Int} {j : Nat} (h : Undone l t s j q) : aboveS t s = aboveS (t.take j) s ++ t.drop j := by
  unfold aboveS
  conv => lhs; rw [← List.take_append_drop j t]
  rw [List.filter_append]
  congr 1
  rw [List.filter_eq_self]
  intro c hc
  simpa using h.2 c hc
theorem Undone.next {l q : List Pr} {t : List Ch} {s : Int} {i : Nat} (h : Undone l t s (i + 1) q) (hw : wellL l = true) (hi : i < t.length) (hs : s < t[i].seq) :
    (walkE q (backL [t[i]]) = 0 → Undone l t s i (walkA q (backL [t[i]]))) ∧ (walkE q (backL [t[i]]) ≠ 0 → asU l t s = none) := by
  have hq : wellL q = true := doL_well hw h.1
  have e : t.drop i = [t[i]] ++ t.drop (i + 1) := by rw [List.singleton_append]; exact List.drop_eq_getElem_cons hi
  have hd : doL l (backL (t.drop i)) = doL q (backL [t[i]]) := by
    rw [e, back_append, doL_append, h.1]
    rfl
  have ha : ∀ c ∈ t.drop i, s < c.seq := by
    intro c hc
    rw [e, List.mem_append] at hc
    rcases hc with hc | hc
    · rw [List.mem_singleton.1 hc]; exact hs
    · exact h.2 c hc
  constructor
  · intro h0
    refine ⟨?_, ha⟩
    rw [hd]
    unfold walkE at h0
    unfold walkA
    rw [hq] at h0 ⊢
    cases ho : doL q (backL [t[i]]) with
    | none => rw [ho] at h0; simp at h0
    | some p => rfl
  · intro h0
    have hno : doL q (backL [t[i]]) = none := by
      unfold walkE at h0
      rw [hq] at h0
      cases ho : doL q (backL [t[i]]) with
      | none => rfl
      | some p => rw [ho] at h0; simp at h0
    unfold asU aboveS
    conv => lhs; rw [← List.take_append_drop i t]
    rw [List.filter_append, show (t.drop i).filter (fun c => decide (s < c.seq)) = t.drop i from List.filter_eq_self.2 (fun c hc => by simpa using ha c hc), back_append, doL_append, hd, hno]
    rfl
theorem Undone.stop {l q : List Pr} {t : List Ch} {s : Int} {i : Nat} (h : Undone l t s (i + 1) q) (ht : trailB t = true) (hi : i < t.length) (hs : t[i].seq ≤ s) : asU l t s = some q := by
  unfold asU
  rw [h.above]
  have : aboveS (t.take (i + 1)) s = [] := by
    unfold aboveS
    rw [List.filter_eq_nil_iff]
    intro c hc
    obtain ⟨k, hk, rfl⟩ := List.getElem_of_mem hc
    rw [List.length_take] at hk
    rw [List.getElem_take]
    have h2 := (trail_t.1 ht).2
    by_cases e : k = i
    · subst e; simp; omega
    · have := List.pairwise_iff_getElem.1 h2 k i (by omega) hi (by omega)
      simp; omega
  rw [this]
  exact h.1
theorem Undone.done {l q : List Pr} {t : List Ch} {s : Int} (h : Undone l t s 0 q) : asU l t s = some q := by
  unfold asU
  rw [h.above, List.take_zero]
  exact h.1
theorem past_none {l : List Pr} {t : List Ch} {fl s : Int} (h1 : wellL l = true) (h2 : trailB t = true) (h3 : fl ≤ s) (h : asU l t s = none) : pastE l t fl s = 1 ∧ pastL l t fl s = [] := by
  have e : pastE l t fl s = 1 := by
    unfold pastE
    rw [h1, h2, h, if_pos (by rfl), if_neg (by omega)]
    rfl
  exact ⟨e, past_no (by rw [e]; decide)⟩

end Go.Proofs.Ytgpjbajfkagdbaa
