/- Pages of pairs: each from behind the last key of the one ahead on: plain facts. -/
import Derived.Test.YtgpjbajfkagdbaaLf
import Derived.Test.YtgpjbajfkagdbaaRng
set_option linter.unusedVariables false
set_option linter.unusedSimpArgs false
namespace Go.Proofs.Ytgpjbajfkagdbaa

def pickS (r : Rng) (P : List Pr) : List Pr := P.filter fun p => inB r p.k
theorem sorted_next {L : List Pr} (h : Sorted L) {k : Nat} (hk : k < L.length) : (L.filter fun p => decide ((L[k]).k < p.k)) = L.drop (k + 1) := by
  have e : L = L.take (k + 1) ++ L.drop (k + 1) := (List.take_append_drop _ _).symm
  have h1 : ∀ p ∈ L.take (k + 1), ¬ (L[k]).k < p.k := by
    intro p hp
    obtain ⟨i, hi, rfl⟩ := List.getElem_of_mem hp
    rw [List.length_take] at hi
    rw [List.getElem_take]
    by_cases e : i = k
    · subst e; grind
    · have := List.pairwise_iff_getElem.1 h i k (by omega) hk (by omega)
      grind
  have h2 : ∀ p ∈ L.drop (k + 1), (L[k]).k < p.k := by
    intro p hp
    obtain ⟨i, hi, rfl⟩ := List.getElem_of_mem hp
    rw [List.length_drop] at hi
    rw [List.getElem_drop]
    exact List.pairwise_iff_getElem.1 h k (k + 1 + i) hk (by omega) (by omega)
  generalize (L[k]).k = x at *
  conv => lhs; rw [e]
  rw [List.filter_append, List.filter_eq_nil_iff.2 (fun c hc => by have := h1 c hc; simpa using this), List.nil_append, List.filter_eq_self.2 (fun c hc => by have := h2 c hc; simpa using this)]
/-- From behind the key of one of those in a range on: the ones behind it. -/
theorem pick_behind {P : List Pr} (hs : Sorted P) (r : Rng) {k : Nat} (hk : k < (pickS r P).length) : pickS ⟨nextS ((pickS r P)[k]).k, r.hi, r.op⟩ P = (pickS r P).drop (k + 1) := by
  have hK : Sorted (pickS r P) := hs.sublist List.filter_sublist
  rw [← sorted_next hK hk]
  have hin : inB r ((pickS r P)[k]).k = true := by
    have := (List.mem_filter.1 (List.getElem_mem hk)).2
    exact this
  generalize ((pickS r P)[k]).k = a at *
  unfold pickS
  rw [List.filter_filter]
  apply List.filter_congr
  intro p _
  unfold inB at hin ⊢
  rw [Bool.and_eq_true] at hin
  have h1 := hin.1
  simp only [leS_eq] at h1 ⊢
  have h1 : r.lo ≤ a := by simpa using h1
  rw [Bool.eq_iff_iff, Bool.and_eq_true, Bool.and_eq_true, Bool.and_eq_true, decide_eq_true_iff, decide_eq_true_iff, decide_eq_true_iff, next_le]
  constructor
  · rintro ⟨h2, h3⟩
    exact ⟨h2, by grind, h3⟩
  · rintro ⟨h2, _, h3⟩
    exact ⟨h2, h3⟩

end Go.Proofs.Ytgpjbajfkagdbaa
