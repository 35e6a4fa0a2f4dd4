/- An argument that is a slice of pairs, opened. -/
import Derived.Test.YtmbcmacegncnmaaWPick
import Derived.ChangeSame
namespace Go.Proofs.Ytmbcmacegncnmaa
open Go.ChangeShapes Go.WideShapes Go.ChangeAt Go.RowKit

section
variable {H : Type} {enc : TypeId × Value → H} {W : World}

theorem pair_trod {n : Nat} {xs : List Value} {y : DataW H × List MemPlace} (hl : xs.length = 2) (h : DataW.trod enc Try.prog W 0 (fun _ => true) true n 42 xs = some y) :
    ∃ r : Pr, xs = r.cells ∧ r.k.size ≤ maxLen ∧ r.v.size ≤ maxLen := by
  obtain ⟨y0, y1, m, _, _, h0, h1⟩ := trod_struct2 Try.underlying42 h
  match xs, hl with
  | [a, b], _ =>
    have k9 : Try.prog.cellsOf 9 = 1 := by kernel_rfl
    simp only [k9] at h0 h1
    obtain ⟨s0, e0, _, z0⟩ := DataW.trod_string Try.underlying9 h0
    obtain ⟨s1, e1, _, z1⟩ := DataW.trod_string Try.underlying9 h1
    simp at e0 e1
    subst e0 e1
    exact ⟨⟨s0, s1⟩, rfl, z0, z1⟩

theorem pairs_open {r : Reach} {b0 : Nat} {v : Value} {d : DataW H} {p : List MemPlace} (hv : Value.okWide Try.prog W r b0 34 v) (h : DataW.Trod enc Try.prog W 0 (fun _ => true) true 34 v d p) :
    ∃ (A : Option Addr) (c : Nat) (l : List Pr), v = .slice A l.length c ∧ Prs W W.heap.size A l ∧ l.length ≤ maxLen ∧ (∀ x ∈ l, x.k.size ≤ maxLen ∧ x.v.size ≤ maxLen) ∧ (A = none → c = 0) :=
  lies_open W (fun x : Pr => x.k.size ≤ maxLen ∧ x.v.size ≤ maxLen) Try.underlying34 (by kernel_rfl) (by decide) (fun _ _ _ hl ht => pair_trod hl ht) hv h
end

end Go.Proofs.Ytmbcmacegncnmaa
