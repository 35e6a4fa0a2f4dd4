/- Arguments that are slices of pairs, and of notes: opened, as values. -/
import Derived.Test.YthhbkgeoigdjaaaOpenN
import Derived.Test.YthhbkgeoigdjaaaApp
set_option linter.unusedVariables false
set_option linter.unusedSimpArgs false
namespace Go.Proofs.Ythhbkgeoigdjaaa
open Go.ChangeShapes Go.WideShapes Go.ChangeAt Go.RowKit

section
variable {H : Type} {enc : TypeId × Value → H} {W : World}

set_option maxRecDepth 100000 in
theorem pair_trod {n : Nat} {xs : List Value} {y : DataW H × List MemPlace} (hl : xs.length = 2) (h : DataW.trod enc Try.prog W 0 (fun _ => true) true n 54 xs = some y) : ∃ r : Pr, xs = r.cells ∧ True := by
  obtain ⟨y0, y1, m, _, _, h0, h1⟩ := trod_struct2 Try.underlying54 h
  match xs, hl with
  | [a, b], _ =>
    have k9 : Try.prog.cellsOf 9 = 1 := by kernel_rfl
    simp only [k9] at h0 h1
    obtain ⟨s0, e0, _, _⟩ := DataW.trod_string Try.underlying9 h0
    obtain ⟨s1, e1, _, _⟩ := DataW.trod_string Try.underlying9 h1
    simp at e0 e1
    subst e0 e1
    exact ⟨⟨s0, s1⟩, rfl, trivial⟩
set_option maxRecDepth 100000 in
theorem pv_open {r : Reach} {b0 : Nat} {v : Value} {d : DataW H} {p : List MemPlace} (hv : Value.okWide Try.prog W r b0 22 v) (h : DataW.Trod enc Try.prog W 0 (fun _ => true) true 22 v d p) :
    ∃ l : List Pr, PV W v l ∧ l.length ≤ maxLen := by
  obtain ⟨A, c, l, rfl, h1, h2, _, h4⟩ := lies_open W (fun _ : Pr => True) Try.underlying22 (by kernel_rfl) (by decide) (fun _ _ _ hl ht => pair_trod hl ht) hv h
  exact ⟨l, ⟨A, c, rfl, h1, slice_cap Try.underlying22 h, h4⟩, h2⟩
set_option maxRecDepth 100000 in
theorem nv_open {r : Reach} {b0 : Nat} {v : Value} {d : DataW H} {p : List MemPlace} (hv : Value.okWide Try.prog W r b0 46 v) (h : DataW.Trod enc Try.prog W 0 (fun _ => true) true 46 v d p) :
    ∃ l : List Nt, NV W v l ∧ l.length ≤ maxLen := by
  obtain ⟨A, c, l, rfl, h1, h2, _, h4⟩ := notes_open hv h
  exact ⟨l, ⟨A, c, rfl, h1, notes_cap h, h4⟩, h2⟩
end

end Go.Proofs.Ythhbkgeoigdjaaa
