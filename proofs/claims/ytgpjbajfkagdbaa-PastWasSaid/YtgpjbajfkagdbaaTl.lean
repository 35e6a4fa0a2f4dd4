/- Trails: plain facts on lists of changes. -/
import Derived.Test.YtgpjbajfkagdbaaCD
set_option linter.unusedVariables false
set_option linter.unusedSimpArgs false
namespace Go.Proofs.Ytgpjbajfkagdbaa

def Trail (l : List Ch) : Prop := (∀ c ∈ l, mayC c = true) ∧ l.Pairwise fun a b => a.seq < b.seq
/-- What a walk looks at. -/
def okAt (l : List Ch) (i : Nat) (h : i < l.length) : Prop := mayC l[i] = true ∧ (0 < i → (l[i - 1]'(by omega)).seq < l[i].seq)
theorem trail_iff (l : List Ch) : Trail l ↔ ∀ i (h : i < l.length), okAt l i h := by
  constructor
  · rintro ⟨h1, h2⟩ i h
    exact ⟨h1 _ (List.getElem_mem h), fun h0 => List.pairwise_iff_getElem.1 h2 (i - 1) i (by omega) h (by omega)⟩
  · intro h
    refine ⟨fun c hc => ?_, List.pairwise_iff_getElem.2 ?_⟩
    · obtain ⟨i, hi, rfl⟩ := List.getElem_of_mem hc
      exact (h i hi).1
    · have key : ∀ d i (hi : i + d + 1 < l.length), (l[i]'(by omega)).seq < l[i + d + 1].seq := by
        intro d
        induction d with
        | zero => intro i hi; have := (h (i + 1) hi).2 (by omega); simpa using this
        | succ d ih =>
          intro i hi
          have h1 := ih i (by omega)
          have h2 := (h (i + (d + 1) + 1) hi).2 (by omega)
          have h3 : i + (d + 1) + 1 - 1 = i + d + 1 := by omega
          simp only [h3] at h2
          omega
      intro i j hi hj hij
      have := key (j - i - 1) i (by omega)
      have e : i + (j - i - 1) + 1 = j := by omega
      simp only [e] at this
      exact this
instance (l : List Ch) : Decidable (Trail l) := inferInstanceAs (Decidable (_ ∧ _))
def trailB (l : List Ch) : Bool := decide (Trail l)
theorem trail_t {l : List Ch} : trailB l = true ↔ Trail l := by unfold trailB; simp
theorem trail_f {l : List Ch} {i : Nat} {h : i < l.length} (hn : ¬ okAt l i h) : trailB l = false := by
  unfold trailB
  rw [decide_eq_false_iff_not, trail_iff]
  exact fun g => hn (g i h)
theorem trail_all {l : List Ch} (h : ∀ i (h : i < l.length), okAt l i h) : trailB l = true := trail_t.2 ((trail_iff l).2 h)
theorem Trail.sub {l m : List Ch} (h : Trail l) (hs : m.Sublist l) : Trail m := ⟨fun c hc => h.1 c (hs.subset hc), h.2.sublist hs⟩
theorem Trail.seq {l : List Ch} (h : Trail l) {c : Ch} (hc : c ∈ l) : 1 ≤ c.seq ∧ c.seq ≤ 2147483647 := by
  have := may_of (h.1 c hc)
  exact ⟨this.1, this.2.1⟩
theorem Trail.key {l : List Ch} (h : Trail l) {c : Ch} (hc : c ∈ l) : c.key.size ≤ 16 := (may_of (h.1 c hc)).2.2.1

end Go.Proofs.Ytgpjbajfkagdbaa
