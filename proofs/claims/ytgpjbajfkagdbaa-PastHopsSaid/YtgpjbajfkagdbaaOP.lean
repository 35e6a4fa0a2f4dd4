/- Arguments that are notes and slices of notes: opened. -/
import Derived.Test.YtgpjbajfkagdbaaNts
import Derived.ChangeSame
import Derived.Lib.SmallJoins
import Derived.Test.YtgpjbajfkagdbaaApp
set_option linter.unusedVariables false
set_option linter.unusedSimpArgs false
namespace Go.Proofs.Ytgpjbajfkagdbaa
open Go.ChangeShapes Go.WideShapes Go.ChangeAt Go.RowKit

section
variable {H : Type} {enc : TypeId × Value → H} {W : World}

theorem u64_cell {a : Int} (hw : (Lit.int .u64 a).wf = true) : ∃ n : UInt64, a = (n.toNat : Int) := by
  have hb := bounds_u64 hw
  obtain ⟨k, rfl⟩ := Int.eq_ofNat_of_zero_le hb.1
  have hk : k < 18446744073709551616 := by omega
  exact ⟨UInt64.ofNat k, by rw [UInt64.toNat_ofNat_of_lt' hk]⟩

set_option maxRecDepth 100000 in
theorem note_trod {n : Nat} {xs : List Value} {y : DataW H × List MemPlace} (hl : xs.length = 4) (h : DataW.trod enc Try.prog W 0 (fun _ => true) true n 48 xs = some y) :
    ∃ r : Nt, xs = r.cells ∧ r.key.size ≤ maxLen ∧ r.value.size ≤ maxLen := by
  obtain ⟨y0, y1, y2, y3, m, _, _, h0, h1, h2, h3⟩ := Joins.trod_struct4 Try.underlying48 h
  match xs, hl with
  | [a, b, c, d], _ =>
    have k9 : Try.prog.cellsOf 9 = 1 := by kernel_rfl
    have k3 : Try.prog.cellsOf 3 = 1 := by kernel_rfl
    have k6 : Try.prog.cellsOf 46 = 1 := by kernel_rfl
    simp only [k9, k3, k6] at h0 h1 h2 h3
    obtain ⟨s0, e0, _⟩ := DataW.trod_int Try.underlying3 h0
    obtain ⟨s1, e1, _, z1⟩ := DataW.trod_string Try.underlying9 h1
    obtain ⟨s2, e2, _, z2⟩ := DataW.trod_string Try.underlying9 h2
    obtain ⟨s3, e3, _, hw⟩ := DataW.trod_int Try.underlying46 h3
    obtain ⟨u, rfl⟩ := u64_cell hw
    simp at e0 e1 e2 e3
    subst e0 e1 e2 e3
    exact ⟨⟨s0, s1, s2, u⟩, rfl, z1, z2⟩

set_option maxRecDepth 100000 in
theorem note_open {r : Reach} {b0 : Nat} {v : Value} {d : DataW H} {p : List MemPlace} (hv : Value.okWide Try.prog W r b0 48 v) (h : DataW.Trod enc Try.prog W 0 (fun _ => true) true 48 v d p) :
    ∃ x : Nt, v = x.v ∧ x.key.size ≤ maxLen ∧ x.value.size ≤ maxLen := by
  obtain ⟨cs, rfl, hsz⟩ := okWide_struct Try.underlying48 hv
  have k4 : Try.prog.cellsOf 48 = 4 := by kernel_rfl
  obtain ⟨fuel, hf⟩ := h
  obtain ⟨q, e, z0, z1⟩ := note_trod (by simpa [Value.cells] using hsz.trans k4) hf
  obtain ⟨l⟩ := cs
  have e' : l = q.cells := by simpa [Value.cells] using e
  subst e'
  exact ⟨q, rfl, z0, z1⟩

set_option maxRecDepth 100000 in
theorem notes_open {r : Reach} {b0 : Nat} {v : Value} {d : DataW H} {p : List MemPlace} (hv : Value.okWide Try.prog W r b0 45 v) (h : DataW.Trod enc Try.prog W 0 (fun _ => true) true 45 v d p) :
    ∃ (A : Option Addr) (c : Nat) (l : List Nt), v = .slice A l.length c ∧ Nts W W.heap.size A l ∧ l.length ≤ maxLen ∧ (∀ x ∈ l, x.key.size ≤ maxLen ∧ x.value.size ≤ maxLen) ∧ (A = none → c = 0) :=
  lies_open W (fun x : Nt => x.key.size ≤ maxLen ∧ x.value.size ≤ maxLen) Try.underlying45 (by kernel_rfl) (by decide) (fun _ _ _ hl ht => note_trod hl ht) hv h

/-- A slice is no longer than its room. -/
theorem slice_cap {P : Program} {t e : TypeId} {A : Option Addr} {n c : Nat} {d : DataW H} {p : List MemPlace} (ht : P.underlying t = some (.slice e)) (h : DataW.Trod enc P W 0 (fun _ => true) true t (.slice A n c) d p) : n ≤ c := by
  obtain ⟨fuel, hf⟩ := h
  rcases Deep.open_slice ht hf with ⟨hcs, _⟩ | ⟨a, len', cap', m, k, D, Pl, hcs, _, hl, hm, hmm, _, hi⟩
  · simp [Value.cells] at hcs
    omega
  · simp [Value.cells] at hcs
    omega
set_option maxRecDepth 100000 in
theorem notes_cap {A : Option Addr} {n c : Nat} {d : DataW H} {p : List MemPlace} (h : DataW.Trod enc Try.prog W 0 (fun _ => true) true 45 (.slice A n c) d p) : n ≤ c := slice_cap Try.underlying45 h

end

end Go.Proofs.Ytgpjbajfkagdbaa

namespace Go.Proofs.Ytgpjbajfkagdbaa
open Go.ChangeShapes Go.WideShapes Go.ChangeAt Go.RowKit

section
variable {H : Type} {enc : TypeId × Value → H} {W : World}

set_option maxRecDepth 100000 in
theorem pair_trod {n : Nat} {xs : List Value} {y : DataW H × List MemPlace} (hl : xs.length = 2) (h : DataW.trod enc Try.prog W 0 (fun _ => true) true n 41 xs = some y) : ∃ r : Pr, xs = r.cells ∧ True := by
  obtain ⟨y0, y1, m, _, _, h0, h1⟩ := trod_struct2 Try.underlying41 h
  match xs, hl with
  | [a, b], _ =>
    have k9 : Try.prog.cellsOf 9 = 1 := by kernel_rfl
    simp only [k9] at h0 h1
    obtain ⟨s0, e0, _, _⟩ := DataW.trod_string Try.underlying9 h0
    obtain ⟨s1, e1, _, _⟩ := DataW.trod_string Try.underlying9 h1
    simp at e0 e1
    subst e0 e1
    exact ⟨⟨s0, s1⟩, rfl, trivial⟩
set_option maxRecDepth 100000 in
theorem pv_open {r : Reach} {b0 : Nat} {v : Value} {d : DataW H} {p : List MemPlace} (hv : Value.okWide Try.prog W r b0 22 v) (h : DataW.Trod enc Try.prog W 0 (fun _ => true) true 22 v d p) :
    ∃ l : List Pr, PV W v l ∧ l.length ≤ maxLen := by
  obtain ⟨A, c, l, rfl, h1, h2, _, h4⟩ := lies_open W (fun _ : Pr => True) Try.underlying22 (by kernel_rfl) (by decide) (fun _ _ _ hl ht => pair_trod hl ht) hv h
  exact ⟨l, ⟨A, c, rfl, h1, slice_cap Try.underlying22 h, h4⟩, h2⟩
set_option maxRecDepth 100000 in
theorem nv_open {r : Reach} {b0 : Nat} {v : Value} {d : DataW H} {p : List MemPlace} (hv : Value.okWide Try.prog W r b0 45 v) (h : DataW.Trod enc Try.prog W 0 (fun _ => true) true 45 v d p) :
    ∃ l : List Nt, NV W v l ∧ l.length ≤ maxLen := by
  obtain ⟨A, c, l, rfl, h1, h2, _, h4⟩ := notes_open hv h
  exact ⟨l, ⟨A, c, rfl, h1, notes_cap h, h4⟩, h2⟩
end

end Go.Proofs.Ytgpjbajfkagdbaa
