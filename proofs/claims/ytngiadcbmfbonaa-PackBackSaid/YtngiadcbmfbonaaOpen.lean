/- An argument that is a slice of strings, opened: nil, empty or not, it holds a list of strings. -/
import Derived.Test.YtngiadcbmfbonaaWSame
import Derived.ProofKit
import Derived.SliceStrings
namespace Go.Proofs.Ytngiadcbmfbonaa
open Go.ChangeShapes Go.WideShapes Go.ChangeAt Go.RowKit

theorem lt_of_cell {w : World} {p : Addr} {v : Value} (h : w.cell? p = some v) : p.block < w.heap.size := by
  rcases Nat.lt_or_ge p.block w.heap.size with h1 | h1
  · exact h1
  · unfold World.cell? at h
    rw [Array.getElem?_eq_none h1] at h
    simp at h

theorem strs_open {H : Type} {enc : TypeId × Value → H} {P : Program} {t e : TypeId} {r : Reach} {b0 : Nat} {v : Value} {d : DataW H} {p : List MemPlace} (W : World) (ht : P.underlying t = some (.slice e)) (he : P.underlying e = some .string) (hc : P.cellsOf e = 1)
    (hv : Value.okWide P W r b0 t v) (h : DataW.Trod enc P W 0 (fun _ => true) true t v d p) :
    ∃ (A : Option Addr) (c : Nat) (ss : List ByteArray), v = .slice A ss.length c ∧ Strs W W.heap.size A ss ∧ ss.length ≤ maxLen ∧ (∀ x ∈ ss, x.size ≤ maxLen) ∧ (A = none → c = 0) := by
  obtain ⟨a0, len, cap, rfl⟩ := okWide_slice ht hv
  obtain ⟨fuel, hf⟩ := h
  rcases open_strings ht he hc hf with ⟨hcs, _⟩ | ⟨a, len', cap', ss, hcs, _, hl, hm, hz, _, hcell, hws⟩
  · simp [Value.cells] at hcs
    obtain ⟨rfl, rfl, rfl⟩ := hcs
    exact ⟨none, 0, [], rfl, Strs.nil _ _ _, by simp, by simp, fun _ => rfl⟩
  · simp [Value.cells] at hcs
    obtain ⟨rfl, rfl, rfl⟩ := hcs
    simp only [if_true] at hz
    refine ⟨some a, cap, ss.take len, by simp [hz, Nat.min_eq_left hl], ?_, by rw [List.length_take]; omega, fun x hx => hws x (List.mem_of_mem_take hx), fun h => by cases h⟩
    intro hpos
    rw [List.length_take] at hpos
    have h0 := hcell 0 (by omega)
    have hb := lt_of_cell h0
    rw [block_of_add] at hb
    refine ⟨a, rfl, hb, fun i hi => ?_⟩
    rw [List.length_take] at hi
    rw [hcell i (by omega)]
    have hi2 : i < ss.length := by omega
    simp [List.getD, List.getElem?_eq_getElem hi2]

end Go.Proofs.Ytngiadcbmfbonaa
