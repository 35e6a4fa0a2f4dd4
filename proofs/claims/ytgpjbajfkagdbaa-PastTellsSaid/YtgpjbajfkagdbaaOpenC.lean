/- Arguments that are slices of notes, pairs and changes, and changes: opened, as values. -/
import Derived.Test.YtgpjbajfkagdbaaOP
import Derived.Test.YtgpjbajfkagdbaaSml
import Derived.Lib.SmallJoins
set_option linter.unusedVariables false
set_option linter.unusedSimpArgs false
namespace Go.Proofs.Ytgpjbajfkagdbaa
open Go.ChangeShapes Go.WideShapes Go.ChangeAt Go.RowKit

section
variable {H : Type} {enc : TypeId × Value → H} {W : World}

/-- Six fields of a struct that was read. -/
theorem six_fields {P : Program} {w : World} {t : TypeId} {f0 f1 f2 f3 f4 f5 : Field} {fuel : Nat} {cs : List Value} {x : DataW H × List MemPlace} (ht : P.underlying t = some (.struct #[f0, f1, f2, f3, f4, f5])) (h : DataW.trod enc P w 0 (fun _ => true) true fuel t cs = some x) :
    ∃ (y0 y1 y2 y3 y4 y5 : DataW H × List MemPlace) (n : Nat), DataW.trod enc P w 0 (fun _ => true) true n f0.type ((cs.drop f0.offset).take (P.cellsOf f0.type)) = some y0 ∧ DataW.trod enc P w 0 (fun _ => true) true n f1.type ((cs.drop f1.offset).take (P.cellsOf f1.type)) = some y1 ∧ DataW.trod enc P w 0 (fun _ => true) true n f2.type ((cs.drop f2.offset).take (P.cellsOf f2.type)) = some y2 ∧ DataW.trod enc P w 0 (fun _ => true) true n f3.type ((cs.drop f3.offset).take (P.cellsOf f3.type)) = some y3 ∧ DataW.trod enc P w 0 (fun _ => true) true n f4.type ((cs.drop f4.offset).take (P.cellsOf f4.type)) = some y4 ∧ DataW.trod enc P w 0 (fun _ => true) true n f5.type ((cs.drop f5.offset).take (P.cellsOf f5.type)) = some y5 := by
  obtain ⟨ys, n, _, _, _, hlen, hf⟩ := DataW.trod_struct ht h
  match ys, hlen with
  | [y0, y1, y2, y3, y4, y5], _ => exact ⟨y0, y1, y2, y3, y4, y5, n, hf 0 f0 rfl, hf 1 f1 rfl, hf 2 f2 rfl, hf 3 f3 rfl, hf 4 f4 rfl, hf 5 f5 rfl⟩
set_option maxRecDepth 100000 in
theorem change_trod {n : Nat} {xs : List Value} {y : DataW H × List MemPlace} (hl : xs.length = 6) (h : DataW.trod enc Try.prog W 0 (fun _ => true) true n 55 xs = some y) : ∃ r : Ch, xs = r.cells ∧ True := by
  obtain ⟨y0, y1, y2, y3, y4, y5, m, h0, h1, h2, h3, h4, h5⟩ := six_fields Try.underlying55 h
  match xs, hl with
  | [a, b, c, d, e, f], _ =>
    have k9 : Try.prog.cellsOf 9 = 1 := by kernel_rfl
    have k3 : Try.prog.cellsOf 3 = 1 := by kernel_rfl
    have k4 : Try.prog.cellsOf 4 = 1 := by kernel_rfl
    simp only [k9, k3, k4] at h0 h1 h2 h3 h4 h5
    obtain ⟨s0, e0, _⟩ := DataW.trod_int Try.underlying3 h0
    obtain ⟨s1, e1, _, _⟩ := DataW.trod_string Try.underlying9 h1
    obtain ⟨s2, e2, _⟩ := DataW.trod_bool Try.underlying4 h2
    obtain ⟨s3, e3, _, _⟩ := DataW.trod_string Try.underlying9 h3
    obtain ⟨s4, e4, _⟩ := DataW.trod_bool Try.underlying4 h4
    obtain ⟨s5, e5, _, _⟩ := DataW.trod_string Try.underlying9 h5
    simp at e0 e1 e2 e3 e4 e5
    subst e0 e1 e2 e3 e4 e5
    exact ⟨⟨s0, s1, s2, s3, s4, s5⟩, rfl, trivial⟩
set_option maxRecDepth 100000 in
theorem cv_open {r : Reach} {b0 : Nat} {v : Value} {d : DataW H} {p : List MemPlace} (hv : Value.okWide Try.prog W r b0 23 v) (h : DataW.Trod enc Try.prog W 0 (fun _ => true) true 23 v d p) :
    ∃ l : List Ch, CV W v l ∧ l.length ≤ maxLen := by
  obtain ⟨A, c, l, rfl, h1, h2, _, h4⟩ := lies_open W (fun _ : Ch => True) Try.underlying23 (by kernel_rfl) (by decide) (fun _ _ _ hl ht => change_trod hl ht) hv h
  exact ⟨l, ⟨A, c, rfl, h1, slice_cap Try.underlying23 h, h4⟩, h2⟩

set_option maxRecDepth 100000 in
theorem change_open {r : Reach} {b0 : Nat} {v : Value} {d : DataW H} {p : List MemPlace} (hv : Value.okWide Try.prog W r b0 55 v) (h : DataW.Trod enc Try.prog W 0 (fun _ => true) true 55 v d p) : ∃ x : Ch, v = x.v := by
  obtain ⟨cs, rfl, hsz⟩ := okWide_struct Try.underlying55 hv
  have k6 : Try.prog.cellsOf 55 = 6 := by kernel_rfl
  obtain ⟨fuel, hf⟩ := h
  obtain ⟨q, e, _⟩ := change_trod (by simpa [Value.cells] using hsz.trans k6) hf
  obtain ⟨l⟩ := cs
  have e' : l = q.cells := by simpa [Value.cells] using e
  subst e'
  exact ⟨q, rfl⟩
end

end Go.Proofs.Ytgpjbajfkagdbaa
