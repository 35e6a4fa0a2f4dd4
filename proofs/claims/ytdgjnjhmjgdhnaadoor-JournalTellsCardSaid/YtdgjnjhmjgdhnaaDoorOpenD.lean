/- Arguments that are disks, slices of strings and of bools: opened, with what their reach tells of how long they are. -/
import Derived.Test.YtdgjnjhmjgdhnaaDoorDv
import Derived.Test.YtdgjnjhmjgdhnaaDoorRows
import Derived.SizedLaws
import Derived.ChangeSame
namespace Go.Proofs.YtdgjnjhmjgdhnaaDoor
open Go.ChangeShapes Go.WideShapes Go.ChangeAt Go.RowKit

section
variable {H : Type} {enc : TypeId × Value → H} {W : World}

set_option maxRecDepth 100000 in
theorem strs_trod {P : Program} {t e : TypeId} {fuel : Nat} {x : Value} {y : DataW H × List MemPlace} (ht : P.underlying t = some (.slice e)) (he : P.underlying e = some .string) (hc : P.cellsOf e = 1)
    (hf : DataW.trod enc P W 0 (fun _ => true) true fuel t [x] = some y) :
    ∃ (A : Option Addr) (c : Nat) (ss : List ByteArray), x = .slice A ss.length c ∧ Strs W W.heap.size A ss ∧ ss.length ≤ maxLen ∧ (A = none → c = 0) := by
  rcases open_strings ht he hc hf with ⟨hcs, _⟩ | ⟨a, len', cap', ss, hcs, _, hl, hm, hz, _, hcell, hws⟩
  · simp at hcs
    exact ⟨none, 0, [], hcs, Strs.nil _ _ _, by simp, fun _ => rfl⟩
  · simp at hcs
    subst hcs
    simp only [if_true] at hz
    refine ⟨some a, cap', ss.take len', by simp [hz, Nat.min_eq_left hl], ?_, by rw [List.length_take]; omega, fun h => by cases h⟩
    intro hpos
    rw [List.length_take] at hpos
    have h0 := hcell 0 (by omega)
    have hb := lt_of_cell h0
    rw [block_of_add] at hb
    refine ⟨a, rfl, hb, fun i hi => ?_⟩
    rw [List.length_take] at hi
    rw [hcell i (by omega)]
    have hi2 : i < ss.length := by omega
    simp [List.getD, List.getElem?_eq_getElem hi2]

set_option maxRecDepth 100000 in
theorem lies_trod {α : Type} {cs : α → List Value} {k : Nat} {P : Program} {t e : TypeId} {fuel : Nat} {x : Value} {y : DataW H × List MemPlace} (ht : P.underlying t = some (.slice e)) (hc : P.cellsOf e = k) (hk0 : 0 < k)
    (hel : ∀ (n : Nat) (xs : List Value) (y : DataW H × List MemPlace), xs.length = k → DataW.trod enc P W 0 (fun _ => true) true n e xs = some y → ∃ a, xs = cs a)
    (hf : DataW.trod enc P W 0 (fun _ => true) true fuel t [x] = some y) :
    ∃ (A : Option Addr) (c : Nat) (l : List α), x = .slice A l.length c ∧ Lies cs k W W.heap.size A l ∧ l.length ≤ maxLen ∧ ∀ N, (∀ z ∈ y.1.weights P t, z ≤ N) → l.length * P.bytesOf e ≤ N := by
  rcases Deep.open_slice ht hf with ⟨hcs, hy⟩ | ⟨a, len', cap', m, n, D, Pl, hcs, _, hl, hm, hmm, hy, hi⟩
  · simp at hcs
    exact ⟨none, 0, [], hcs, Lies.nil, by simp, fun N _ => by simp⟩
  · simp at hcs
    subst hcs
    simp only [if_true] at hmm
    subst hmm
    have hall : ∀ i, i < len' → ∃ x : α, ∀ (j : Nat) (u : Value), (cs x)[j]? = some u → W.cell? ((a.add (i * k)).add j) = some u := by
      intro i hlt
      obtain ⟨xs, hx, htr⟩ := hi i (by omega)
      rw [hc] at hx
      obtain ⟨_, hlen, hat⟩ := World.cells?_some hx
      obtain ⟨x, rfl⟩ := hel _ _ _ hlen htr
      refine ⟨x, fun j u hu => ?_⟩
      rw [hat j (by rw [← hlen]; exact (List.getElem?_eq_some_iff.1 hu).1)]
      exact hu
    obtain ⟨l, hll, hq⟩ := list_of len' hall
    refine ⟨some a, m, l, by rw [hll], ?_, by omega, fun N hN => ?_⟩
    · intro hpos
      obtain ⟨xs, hx, _⟩ := hi 0 (by omega)
      rw [hc] at hx
      obtain ⟨_, hlen, hat⟩ := World.cells?_some hx
      have h0 := hat 0 hk0
      rw [List.getElem?_eq_getElem (by omega : 0 < xs.length)] at h0
      have hlt := lt_of_cell h0
      rw [block_of_add, block_of_add] at hlt
      exact ⟨a, rfl, hlt, fun i h j u hu => hq i h j u hu⟩
    · have h1 := hN ((((List.range len').map D).length + ((List.range (m - len')).map fun j => D (len' + j)).length) * P.bytesOf e) (by
        rw [hy]
        simp [DataW.weights, ht])
      rw [List.length_map, List.length_map, List.length_range, List.length_range] at h1
      rw [hll]
      exact Nat.le_trans (Nat.mul_le_mul_right _ (by omega)) h1

set_option maxRecDepth 100000 in
theorem wr_trod {n : Nat} {xs : List Value} {y : DataW H × List MemPlace} (hl : xs.length = 2) (h : DataW.trod enc Tryd.prog W 0 (fun _ => true) true n 83 xs = some y) : ∃ r : Wr, xs = r.cells := by
  obtain ⟨y0, y1, m, _, _, h0, h1⟩ := trod_struct2 Tryd.underlying83 h
  match xs, hl with
  | [a, b], _ =>
    have k9 : Tryd.prog.cellsOf 9 = 1 := by kernel_rfl
    have k3 : Tryd.prog.cellsOf 3 = 1 := by kernel_rfl
    simp only [k9, k3] at h0 h1
    obtain ⟨s1, e1, _, z1⟩ := DataW.trod_string Tryd.underlying9 h1
    obtain ⟨n0, e0, _⟩ := DataW.trod_int Tryd.underlying3 h0
    simp at e0 e1
    subst e0 e1
    exact ⟨⟨n0, s1⟩, rfl⟩

set_option maxRecDepth 100000 in
theorem disk_open {r : Reach} {b0 : Nat} {v : Value} {d : DataW H} {p : List MemPlace} (hv : Value.okWide Tryd.prog W r b0 36 v) (h : DataW.Trod enc Tryd.prog W 0 (fun _ => true) true 36 v d p) (hz : ∀ z ∈ d.weights Tryd.prog 36, z ≤ reachBytes) :
    ∃ (S : List ByteArray) (V : List Wr), DV W v S V ∧ S.length ≤ maxLen ∧ V.length ≤ maxLen ∧ V.length * 24 ≤ 140737488355328 := by
  obtain ⟨cs, rfl, hsz⟩ := okWide_struct Tryd.underlying36 hv
  have k2 : Tryd.prog.cellsOf 36 = 2 := by kernel_rfl
  obtain ⟨fuel, hf⟩ := h
  obtain ⟨y0, y1, m, hy, _, h0, h1⟩ := trod_struct2 Tryd.underlying36 hf
  obtain ⟨l⟩ := cs
  match l, hsz.trans k2 with
  | [a, b], _ =>
    have k1 : Tryd.prog.cellsOf 22 = 1 := by kernel_rfl
    have k3 : Tryd.prog.cellsOf 34 = 1 := by kernel_rfl
    have kb : Tryd.prog.bytesOf 83 = 24 := by kernel_rfl
    simp only [k1, k3, Value.cells] at h0 h1
    obtain ⟨A, c, S, e0, hS, hn, _⟩ := strs_trod Tryd.underlying22 Tryd.underlying9 (by kernel_rfl) (show DataW.trod enc Tryd.prog W 0 (fun _ => true) true m 22 [a] = some y0 from h0)
    obtain ⟨B, d', V, e1, hV, hm, hw⟩ := lies_trod (cs := Wr.cells) Tryd.underlying34 (by kernel_rfl) (by decide : 0 < 2) (fun _ _ _ hl ht => wr_trod hl ht) (show DataW.trod enc Tryd.prog W 0 (fun _ => true) true m 34 [b] = some y1 from h1)
    subst e0 e1
    refine ⟨S, V, ⟨A, c, B, d', rfl, hS, hV⟩, hn, hm, ?_⟩
    have h2 := hw reachBytes (fun z hz1 => hz z (by
      have hd : d = .agg [y0.1, y1.1] := by injection hy
      rw [hd]
      simp only [DataW.weights, Tryd.underlying36, DataW.weightsEach, List.map, List.mem_append]
      exact .inr (.inl hz1)))
    rw [kb] at h2
    exact Nat.le_trans h2 (by decide)

set_option maxRecDepth 100000 in
theorem sv_open {r : Reach} {b0 : Nat} {v : Value} {d : DataW H} {p : List MemPlace} (hv : Value.okWide Tryd.prog W r b0 22 v) (h : DataW.Trod enc Tryd.prog W 0 (fun _ => true) true 22 v d p) :
    ∃ l : List ByteArray, SV W v l ∧ l.length ≤ maxLen ∧ ∀ n c, v = .slice none n c → c = 0 := by
  obtain ⟨a0, len, cap, rfl⟩ := okWide_slice Tryd.underlying22 hv
  obtain ⟨fuel, hf⟩ := h
  obtain ⟨A, c, l, e, hS, hn, hc⟩ := strs_trod Tryd.underlying22 Tryd.underlying9 (by kernel_rfl) hf
  refine ⟨l, ⟨A, c, e, hS⟩, hn, fun n' c' h => ?_⟩
  rw [e] at h
  injection h with h1 _ h3
  rw [← h3]
  exact hc h1

set_option maxRecDepth 100000 in
/-- The first argument's weights are among all of them. -/
theorem weights_first {P : Program} {t : TypeId} {ts : List TypeId} {d : DataW H} {ds gs : List (DataW H)} (h : (DataW.weightsEach P (t :: ts) (d :: ds ++ gs)).all (· ≤ reachBytes) = true) : ∀ z ∈ d.weights P t, z ≤ reachBytes := by
  intro z hz
  have h1 := List.all_eq_true.1 h z (by
    show z ∈ DataW.weightsEach P (t :: ts) (d :: (ds ++ gs))
    simp only [DataW.weightsEach, List.mem_append]
    exact .inl hz)
  simpa using h1
set_option maxRecDepth 100000 in
theorem bool_trod {n : Nat} {xs : List Value} {y : DataW H × List MemPlace} (hl : xs.length = 1) (h : DataW.trod enc Tryd.prog W 0 (fun _ => true) true n 4 xs = some y) : ∃ b : Bool, xs = boolC b := by
  obtain ⟨b, e, _⟩ := DataW.trod_bool Tryd.underlying4 h
  exact ⟨b, e⟩
set_option maxRecDepth 100000 in
theorem bv_open {r : Reach} {b0 : Nat} {v : Value} {d : DataW H} {p : List MemPlace} (hv : Value.okWide Tryd.prog W r b0 56 v) (h : DataW.Trod enc Tryd.prog W 0 (fun _ => true) true 56 v d p) :
    ∃ l : List Bool, BV W v l ∧ l.length ≤ maxLen := by
  obtain ⟨a0, len, cap, rfl⟩ := okWide_slice Tryd.underlying56 hv
  obtain ⟨fuel, hf⟩ := h
  obtain ⟨A, c, l, e, hS, hn, _⟩ := lies_trod (cs := boolC) Tryd.underlying56 (by kernel_rfl) (by decide : 0 < 1) (fun _ _ _ hl ht => bool_trod hl ht) hf
  exact ⟨l, ⟨A, c, e, hS⟩, hn⟩

end

end Go.Proofs.YtdgjnjhmjgdhnaaDoor
