/- An argument that is a slice of slices of notes: opened, as a value. -/
import Derived.Test.YtgpjbajfkagdbaaOP
import Derived.Test.YtgpjbajfkagdbaaAL
set_option linter.unusedVariables false
set_option linter.unusedSimpArgs false
namespace Go.Proofs.Ytgpjbajfkagdbaa
open Go.ChangeShapes Go.WideShapes Go.ChangeAt Go.RowKit

section
variable {H : Type} {enc : TypeId × Value → H} {W : World}

set_option maxRecDepth 100000 in
theorem nv_trod {n : Nat} {x : Value} {y : DataW H × List MemPlace} (hf : DataW.trod enc Try.prog W 0 (fun _ => true) true n 45 [x] = some y) : ∃ l : List Nt, NV W x l ∧ l.length ≤ maxLen := by
  have hc : Try.prog.cellsOf 48 = 4 := by kernel_rfl
  rcases Deep.open_slice Try.underlying45 hf with ⟨hcs, _⟩ | ⟨a, len', cap', m, k, D, Pl, hcs, _, hl, hm, hmm, _, hi⟩
  · simp at hcs
    exact ⟨[], ⟨none, 0, hcs, Lies.nil, Nat.le_refl _, fun _ => rfl⟩, by simp⟩
  · simp at hcs
    subst hcs
    simp only [if_true] at hmm
    subst hmm
    have hall : ∀ i, i < len' → ∃ x : Nt, ∀ (j : Nat) (u : Value), (x.cells)[j]? = some u → W.cell? ((a.add (i * 4)).add j) = some u := by
      intro i hlt
      obtain ⟨xs, hx, htr⟩ := hi i (by omega)
      rw [hc] at hx
      obtain ⟨_, hlen, hat⟩ := World.cells?_some hx
      obtain ⟨x, rfl, _⟩ := note_trod hlen htr
      refine ⟨x, fun j u hu => ?_⟩
      rw [hat j (by rw [← hlen]; exact (List.getElem?_eq_some_iff.1 hu).1)]
      exact hu
    obtain ⟨l, hll, hq⟩ := list_of len' hall
    refine ⟨l, ⟨some a, m, by rw [hll], ?_, by omega, fun h => by cases h⟩, by omega⟩
    intro hpos
    obtain ⟨xs, hx, _⟩ := hi 0 (by omega)
    rw [hc] at hx
    obtain ⟨_, hlen, hat⟩ := World.cells?_some hx
    have h0 := hat 0 (by decide)
    rw [List.getElem?_eq_getElem (by omega : 0 < xs.length)] at h0
    have hlt := lt_of_cell h0
    rw [block_of_add, block_of_add] at hlt
    exact ⟨a, rfl, hlt, fun i h j u hu => hq i h j u hu⟩
theorem parts_of {w : World} : ∀ (vs : List Value), (∀ x ∈ vs, ∃ l : List Nt, NV w x l ∧ l.length ≤ maxLen) → ∃ ps : List (List Nt), vs.length = ps.length ∧ (∀ l ∈ ps, l.length ≤ maxLen) ∧ ∀ i (h : i < ps.length), ∃ u, vs[i]? = some u ∧ NV w u ps[i]
  | [], _ => ⟨[], rfl, by simp, fun i h => absurd h (by simp)⟩
  | v :: vs, h => by
    obtain ⟨ps, h1, h2, h3⟩ := parts_of vs fun x hx => h x (List.mem_cons_of_mem _ hx)
    obtain ⟨l, h4, h5⟩ := h v List.mem_cons_self
    refine ⟨l :: ps, by simp [h1], fun q hq => ?_, fun i hi => ?_⟩
    · rcases List.mem_cons.1 hq with rfl | hq
      · exact h5
      · exact h2 q hq
    · cases i with
      | zero => exact ⟨v, rfl, h4⟩
      | succ i =>
        obtain ⟨u, h6, h7⟩ := h3 i (by simpa using hi)
        exact ⟨u, by simpa using h6, by simpa using h7⟩
set_option maxRecDepth 100000 in
theorem nvv_open {r : Reach} {b0 : Nat} {v : Value} {d : DataW H} {p : List MemPlace} (hv : Value.okWide Try.prog W r b0 44 v) (h : DataW.Trod enc Try.prog W 0 (fun _ => true) true 44 v d p) :
    ∃ ps : List (List Nt), NVV W v ps ∧ ps.length ≤ maxLen ∧ ∀ l ∈ ps, l.length ≤ maxLen := by
  obtain ⟨A, c, vs, rfl, h1, h2, h3, h4⟩ := lies_open (k := 1) (cs := fun u : Value => [u]) W (fun u : Value => ∃ l : List Nt, NV W u l ∧ l.length ≤ maxLen) Try.underlying44 (by kernel_rfl) (by decide) (fun _ xs _ hl ht => by
    match xs, hl with
    | [x], _ => exact ⟨x, rfl, nv_trod ht⟩) hv h
  have hcap := slice_cap Try.underlying44 h
  obtain ⟨ps, h5, h6, h7⟩ := parts_of vs h3
  exact ⟨ps, ⟨A, c, vs, by rw [h5], h5, h1, h7, by omega, h4⟩, by omega, h6⟩
end

end Go.Proofs.Ytgpjbajfkagdbaa
