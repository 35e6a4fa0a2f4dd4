/- Arguments that are items, caches, slices of items, slices of ints: opened. -/
import Derived.Test.YthoffknkpogfhaaIts
import Derived.Test.YthoffknkpogfhaaRows
import Derived.Test.YthoffknkpogfhaaChecked
import Derived.ChangeSame
import Derived.Deep.Slices
import Derived.Lib.SmallJoins
set_option linter.unusedVariables false
set_option linter.unusedSimpArgs false
namespace Go.Proofs.Ythoffknkpogfhaa
open Go.ChangeShapes Go.WideShapes Go.ChangeAt Go.RowKit

section
variable {H : Type} {enc : TypeId × Value → H} {W : World}

set_option maxRecDepth 100000 in
theorem item_trod {n : Nat} {xs : List Value} {y : DataW H × List MemPlace} (hl : xs.length = 3) (h : DataW.trod enc Try.prog W 0 (fun _ => true) true n 27 xs = some y) : ∃ r : It, xs = r.cells ∧ True := by
  obtain ⟨y0, y1, y2, m, _, _, h0, h1, h2⟩ := Deep.trod_struct3 Try.underlying27 h
  match xs, hl with
  | [a, b, c], _ =>
    have k9 : Try.prog.cellsOf 9 = 1 := by kernel_rfl
    have k3 : Try.prog.cellsOf 3 = 1 := by kernel_rfl
    have k4 : Try.prog.cellsOf 4 = 1 := by kernel_rfl
    simp only [k9, k3, k4] at h0 h1 h2
    obtain ⟨s0, e0, _⟩ := DataW.trod_int Try.underlying3 h0
    obtain ⟨s1, e1, _, _⟩ := DataW.trod_string Try.underlying9 h1
    obtain ⟨s2, e2, _⟩ := DataW.trod_bool Try.underlying4 h2
    simp at e0 e1 e2
    subst e0 e1 e2
    exact ⟨⟨s0, s1, s2⟩, rfl, trivial⟩
/-- A slice is no longer than its room. -/
theorem slice_cap {P : Program} {t e : TypeId} {A : Option Addr} {n c : Nat} {d : DataW H} {p : List MemPlace} (ht : P.underlying t = some (.slice e)) (h : DataW.Trod enc P W 0 (fun _ => true) true t (.slice A n c) d p) : n ≤ c := by
  obtain ⟨fuel, hf⟩ := h
  rcases Deep.open_slice ht hf with ⟨hcs, _⟩ | ⟨a, len', cap', m, k, D, Pl, hcs, _, hl, hm, hmm, _, hi⟩
  · simp [Value.cells] at hcs
    omega
  · simp [Value.cells] at hcs
    omega
set_option maxRecDepth 100000 in
theorem iv_open {r : Reach} {b0 : Nat} {v : Value} {d : DataW H} {p : List MemPlace} (hv : Value.okWide Try.prog W r b0 22 v) (h : DataW.Trod enc Try.prog W 0 (fun _ => true) true 22 v d p) :
    ∃ l : List It, IV W v l ∧ l.length ≤ maxLen := by
  obtain ⟨A, c, l, rfl, h1, h2, _, h4⟩ := lies_open W (fun _ : It => True) Try.underlying22 (by kernel_rfl) (by decide) (fun _ _ _ hl ht => item_trod hl ht) hv h
  exact ⟨l, ⟨A, c, rfl, h1, slice_cap Try.underlying22 h, h4⟩, h2⟩
theorem lies_trod {α : Type} {cs : α → List Value} {k : Nat} {P : Program} {t e : TypeId} {fuel : Nat} {x : Value} {y : DataW H × List MemPlace} (ht : P.underlying t = some (.slice e)) (hc : P.cellsOf e = k) (hk0 : 0 < k)
    (hel : ∀ (n : Nat) (xs : List Value) (y : DataW H × List MemPlace), xs.length = k → DataW.trod enc P W 0 (fun _ => true) true n e xs = some y → ∃ a, xs = cs a ∧ True)
    (hf : DataW.trod enc P W 0 (fun _ => true) true fuel t [x] = some y) :
    ∃ (A : Option Addr) (c : Nat) (l : List α), x = .slice A l.length c ∧ Lies cs k W W.heap.size A l ∧ l.length ≤ maxLen ∧ l.length ≤ c ∧ (A = none → c = 0) := by
  rcases Deep.open_slice ht hf with ⟨hcs, hy⟩ | ⟨a, len', cap', m, n, D, Pl, hcs, _, hl, hm, hmm, hy, hi⟩
  · simp at hcs
    exact ⟨none, 0, [], hcs, Lies.nil, by simp, by simp, fun _ => rfl⟩
  · simp at hcs
    subst hcs
    simp only [if_true] at hmm
    subst hmm
    have hall : ∀ i, i < len' → ∃ x : α, ∀ (j : Nat) (u : Value), (cs x)[j]? = some u → W.cell? ((a.add (i * k)).add j) = some u := by
      intro i hlt
      obtain ⟨xs, hx, htr⟩ := hi i (by omega)
      rw [hc] at hx
      obtain ⟨_, hlen, hat⟩ := World.cells?_some hx
      obtain ⟨x, rfl, _⟩ := hel _ _ _ hlen htr
      refine ⟨x, fun j u hu => ?_⟩
      rw [hat j (by rw [← hlen]; exact (List.getElem?_eq_some_iff.1 hu).1)]
      exact hu
    obtain ⟨l, hll, hq⟩ := list_of len' hall
    refine ⟨some a, m, l, by rw [hll], ?_, by omega, by omega, fun h => by cases h⟩
    intro hpos
    obtain ⟨xs, hx, _⟩ := hi 0 (by omega)
    rw [hc] at hx
    obtain ⟨_, hlen, hat⟩ := World.cells?_some hx
    have h0 := hat 0 hk0
    rw [List.getElem?_eq_getElem (by omega : 0 < xs.length)] at h0
    have hlt := lt_of_cell h0
    rw [block_of_add, block_of_add] at hlt
    exact ⟨a, rfl, hlt, fun i h j u hu => hq i h j u hu⟩
set_option maxRecDepth 100000 in
theorem cache_open {r : Reach} {b0 : Nat} {v : Value} {d : DataW H} {p : List MemPlace} (hv : Value.okWide Try.prog W r b0 24 v) (h : DataW.Trod enc Try.prog W 0 (fun _ => true) true 24 v d p) :
    ∃ (m : Int) (s : Value) (l : List It), v = .agg #[.int .i64 m, s] ∧ IV W s l ∧ l.length ≤ maxLen := by
  obtain ⟨cs, rfl, hsz⟩ := okWide_struct Try.underlying24 hv
  have k2 : Try.prog.cellsOf 24 = 2 := by kernel_rfl
  obtain ⟨fuel, hf⟩ := h
  obtain ⟨y0, y1, m, hy, _, h0, h1⟩ := trod_struct2 Try.underlying24 hf
  obtain ⟨l⟩ := cs
  match l, hsz.trans k2 with
  | [a, b], _ =>
    have k3 : Try.prog.cellsOf 3 = 1 := by kernel_rfl
    have k1 : Try.prog.cellsOf 22 = 1 := by kernel_rfl
    simp only [k1, k3, Value.cells] at h0 h1
    obtain ⟨s0, e0, _⟩ := DataW.trod_int Try.underlying3 (show DataW.trod enc Try.prog W 0 (fun _ => true) true m 3 [a] = some y0 from h0)
    obtain ⟨A, c, L, e1, hL, hn, hc, h4⟩ := lies_trod (cs := It.cells) Try.underlying22 (by kernel_rfl) (by decide : 0 < 3) (fun _ _ _ hl ht => item_trod hl ht) (show DataW.trod enc Try.prog W 0 (fun _ => true) true m 22 [b] = some y1 from h1)
    simp at e0
    subst e0 e1
    exact ⟨s0, _, L, rfl, ⟨A, c, rfl, hL, hc, h4⟩, hn⟩
set_option maxRecDepth 100000 in
theorem item_open {r : Reach} {b0 : Nat} {v : Value} {d : DataW H} {p : List MemPlace} (hv : Value.okWide Try.prog W r b0 27 v) (h : DataW.Trod enc Try.prog W 0 (fun _ => true) true 27 v d p) :
    ∃ x : It, v = x.v := by
  obtain ⟨cs, rfl, hsz⟩ := okWide_struct Try.underlying27 hv
  have k3 : Try.prog.cellsOf 27 = 3 := by kernel_rfl
  obtain ⟨fuel, hf⟩ := h
  obtain ⟨q, e, _⟩ := item_trod (by simpa [Value.cells] using hsz.trans k3) hf
  obtain ⟨l⟩ := cs
  have e' : l = q.cells := by simpa [Value.cells] using e
  subst e'
  exact ⟨q, rfl⟩
def intC (x : Int) : List Value := [.int .i64 x]
set_option maxRecDepth 100000 in
theorem int_trod {n : Nat} {xs : List Value} {y : DataW H × List MemPlace} (hl : xs.length = 1) (h : DataW.trod enc Try.prog W 0 (fun _ => true) true n 3 xs = some y) : ∃ b : Int, xs = intC b ∧ True := by
  obtain ⟨b, e, _, hw⟩ := DataW.trod_int Try.underlying3 h
  exact ⟨b, e, trivial⟩
/-- A value that is a slice of these ints. -/
def NVi (w : World) (v : Value) (l : List Int) : Prop := ∃ A c, v = .slice A l.length c ∧ Lies intC 1 w w.heap.size A l ∧ l.length ≤ c ∧ (A = none → c = 0)
theorem Lies.seeJ {w : World} {B : Nat} {A : Option Addr} {l : List Int} (h : Lies intC 1 w B A l) (hl : 0 < l.length) : ∃ ad, A = some ad ∧ ad.block < B ∧ ∀ (i : Nat) (h : i < l.length), w.cell? (ad.add i) = some (.int .i64 l[i]) := by
  obtain ⟨ad, e, hB, hc⟩ := h hl
  refine ⟨ad, e, hB, fun i hi => ?_⟩
  have := hc i hi 0 _ rfl
  rwa [Addr.add_zero', Nat.mul_one] at this
set_option maxRecDepth 100000 in
theorem ints_open {r : Reach} {b0 : Nat} {v : Value} {d : DataW H} {p : List MemPlace} (hv : Value.okWide Try.prog W r b0 55 v) (h : DataW.Trod enc Try.prog W 0 (fun _ => true) true 55 v d p) :
    ∃ l : List Int, NVi W v l ∧ l.length ≤ maxLen := by
  obtain ⟨A, c, l, rfl, h1, h2, _, h4⟩ := lies_open W (fun _ : Int => True) Try.underlying55 (by kernel_rfl) (by decide) (fun _ _ _ hl ht => int_trod hl ht) hv h
  exact ⟨l, ⟨A, c, rfl, h1, slice_cap Try.underlying55 h, h4⟩, h2⟩
end

end Go.Proofs.Ythoffknkpogfhaa
