/- An argument that is a range: opened. -/
import Derived.Test.YtgpjbajfkagdbaaRg
import Derived.Lib.SmallJoins
set_option linter.unusedVariables false
set_option linter.unusedSimpArgs false
namespace Go.Proofs.Ytgpjbajfkagdbaa
open Go.ChangeShapes Go.WideShapes Go.ChangeAt Go.RowKit

section
variable {H : Type} {enc : TypeId × Value → H} {W : World}

set_option maxRecDepth 100000 in
theorem rng_trod {n : Nat} {xs : List Value} {y : DataW H × List MemPlace} (hl : xs.length = 3) (h : DataW.trod enc Try.prog W 0 (fun _ => true) true n 25 xs = some y) :
    ∃ r : Rng, xs = r.cells ∧ r.lo.size ≤ maxLen ∧ r.hi.size ≤ maxLen := by
  obtain ⟨y0, y1, y2, m, _, _, h0, h1, h2⟩ := Deep.trod_struct3 Try.underlying25 h
  match xs, hl with
  | [a, b, c], _ =>
    have k9 : Try.prog.cellsOf 9 = 1 := by kernel_rfl
    have k4 : Try.prog.cellsOf 4 = 1 := by kernel_rfl
    simp only [k9, k4] at h0 h1 h2
    obtain ⟨s0, e0, _, z0⟩ := DataW.trod_string Try.underlying9 h0
    obtain ⟨s1, e1, _, z1⟩ := DataW.trod_string Try.underlying9 h1
    obtain ⟨b2, e2, _⟩ := DataW.trod_bool Try.underlying4 h2
    simp at e0 e1 e2
    subst e0 e1 e2
    exact ⟨⟨s0, s1, b2⟩, rfl, z0, z1⟩

set_option maxRecDepth 100000 in
theorem rng_open {r : Reach} {b0 : Nat} {v : Value} {d : DataW H} {p : List MemPlace} (hv : Value.okWide Try.prog W r b0 25 v) (h : DataW.Trod enc Try.prog W 0 (fun _ => true) true 25 v d p) :
    ∃ (lo hi : ByteArray) (op : Bool), v = .agg #[.string lo, .string hi, .bool op] ∧ lo.size ≤ maxLen ∧ hi.size ≤ maxLen := by
  obtain ⟨cs, rfl, hsz⟩ := okWide_struct Try.underlying25 hv
  have k3 : Try.prog.cellsOf 25 = 3 := by kernel_rfl
  obtain ⟨fuel, hf⟩ := h
  obtain ⟨q, e, z0, z1⟩ := rng_trod (by simpa [Value.cells] using hsz.trans k3) hf
  obtain ⟨l⟩ := cs
  have e' : l = q.cells := by simpa [Value.cells] using e
  subst e'
  exact ⟨q.lo, q.hi, q.op, rfl, z0, z1⟩
end

end Go.Proofs.Ytgpjbajfkagdbaa
