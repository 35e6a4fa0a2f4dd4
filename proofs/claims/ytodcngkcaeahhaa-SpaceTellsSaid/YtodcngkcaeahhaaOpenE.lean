/- An argument that is a slice of extents, opened. -/
import Derived.Test.YtodcngkcaeahhaaExs
import Derived.ChangeSame
namespace Go.Proofs.Ytodcngkcaeahhaa
open Go.ChangeShapes Go.WideShapes Go.ChangeAt Go.RowKit

section
variable {H : Type} {enc : TypeId × Value → H} {W : World}

theorem ex_trod {n : Nat} {xs : List Value} {y : DataW H × List MemPlace} (hl : xs.length = 2) (h : DataW.trod enc Try.prog W 0 (fun _ => true) true n 27 xs = some y) :
    ∃ r : Ex, xs = r.cells ∧ True := by
  obtain ⟨y0, y1, m, _, _, h0, h1⟩ := trod_struct2 Try.underlying27 h
  match xs, hl with
  | [a, b], _ =>
    have k9 : Try.prog.cellsOf 3 = 1 := by kernel_rfl
    simp only [k9] at h0 h1
    obtain ⟨s0, e0, _⟩ := DataW.trod_int Try.underlying3 h0
    obtain ⟨s1, e1, _⟩ := DataW.trod_int Try.underlying3 h1
    simp at e0 e1
    subst e0 e1
    exact ⟨⟨s0, s1⟩, rfl, trivial⟩

theorem exs_open {r : Reach} {b0 : Nat} {v : Value} {d : DataW H} {p : List MemPlace} (hv : Value.okWide Try.prog W r b0 22 v) (h : DataW.Trod enc Try.prog W 0 (fun _ => true) true 22 v d p) :
    ∃ (A : Option Addr) (c : Nat) (l : List Ex), v = .slice A l.length c ∧ Exs W W.heap.size A l ∧ l.length ≤ maxLen ∧ (∀ x ∈ l, True) ∧ (A = none → c = 0) :=
  lies_open W (fun _ : Ex => True) Try.underlying22 (by kernel_rfl) (by decide) (fun _ _ _ hl ht => ex_trod hl ht) hv h
end

end Go.Proofs.Ytodcngkcaeahhaa
