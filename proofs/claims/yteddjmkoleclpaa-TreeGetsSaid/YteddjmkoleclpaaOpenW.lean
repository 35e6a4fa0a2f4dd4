/- A second argument that is a slice of strings: opened, with what its reach tells of how long each is. -/
import Derived.Test.YteddjmkoleclpaaBB
import Derived.SizedLaws
import Derived.ChangeSame
set_option linter.unusedVariables false
set_option linter.unusedSimpArgs false
namespace Go.Proofs.Yteddjmkoleclpaa
open Go.ChangeShapes Go.WideShapes Go.ChangeAt Go.RowKit

section
variable {H : Type} {enc : TypeId × Value → H} {W : World}

theorem weights_second {P : Program} {t0 t : TypeId} {ts : List TypeId} {d0 d : DataW H} {ds gs : List (DataW H)} (h : (DataW.weightsEach P (t0 :: t :: ts) (d0 :: d :: ds ++ gs)).all (· ≤ reachBytes) = true) : ∀ z ∈ d.weights P t, z ≤ reachBytes := by
  intro z hz
  have h1 := List.all_eq_true.1 h z (by
    show z ∈ DataW.weightsEach P (t0 :: t :: ts) (d0 :: d :: (ds ++ gs))
    simp only [DataW.weightsEach, List.mem_append]
    exact .inr (.inl hz))
  simpa using h1
theorem weights_strs (P : Program) (e : TypeId) (l : List ByteArray) (k : ByteArray) (hk : k ∈ l) : k.data.toList.length ∈ DataW.weightsAll P e (strs (H := H) l) := by
  induction l with
  | nil => cases hk
  | cons x r ih =>
    unfold strs at ih ⊢
    rw [List.map_cons]
    simp only [DataW.weightsAll, List.mem_append]
    rcases List.mem_cons.1 hk with rfl | h
    · left; simp [DataW.weights]
    · exact .inr (ih h)
theorem wstrs_open {P : Program} {t e : TypeId} {r : Reach} {b0 : Nat} {v : Value} {d : DataW H} {p : List MemPlace} (W : World) (ht : P.underlying t = some (.slice e)) (he : P.underlying e = some .string) (hc : P.cellsOf e = 1)
    (hv : Value.okWide P W r b0 t v) (h : DataW.Trod enc P W 0 (fun _ => true) true t v d p) (hz : ∀ z ∈ d.weights P t, z ≤ reachBytes) :
    ∃ (A : Option Addr) (c : Nat) (ss : List ByteArray), v = .slice A ss.length c ∧ Strs W W.heap.size A ss ∧ ss.length ≤ maxLen ∧ ∀ x ∈ ss, x.size ≤ 140737488351232 := by
  obtain ⟨a0, len, cap, rfl⟩ := okWide_slice ht hv
  obtain ⟨fuel, hf⟩ := h
  rcases open_strings ht he hc hf with ⟨hcs, _⟩ | ⟨a, len', cap', ss, hcs, _, hl, hm, hzz, hd, hcell, _⟩
  · simp [Value.cells] at hcs
    obtain ⟨rfl, rfl, rfl⟩ := hcs
    exact ⟨none, 0, [], rfl, Strs.nil _ _ _, by simp, by simp⟩
  · simp [Value.cells] at hcs
    obtain ⟨rfl, rfl, rfl⟩ := hcs
    simp only [if_true] at hzz
    refine ⟨some a, cap, ss.take len, by simp [hzz, Nat.min_eq_left hl], ?_, by rw [List.length_take]; omega, fun x hx => ?_⟩
    · intro hpos
      rw [List.length_take] at hpos
      have h0 := hcell 0 (by omega)
      have hb := lt_of_cell h0
      rw [block_of_add] at hb
      refine ⟨a, rfl, hb, fun i hi => ?_⟩
      rw [List.length_take] at hi
      rw [hcell i (by omega)]
      have hi2 : i < ss.length := by omega
      simp [List.getD, List.getElem?_eq_getElem hi2]
    · have hd1 : d = .slice (strs (ss.take len)) (strs (ss.drop len)) := by injection hd
      have h1 := hz x.data.toList.length (by
        rw [hd1]
        simp only [DataW.weights, ht]
        exact List.mem_cons_of_mem _ (List.mem_append_left _ (weights_strs P e _ x hx)))
      exact h1
end

end Go.Proofs.Yteddjmkoleclpaa
