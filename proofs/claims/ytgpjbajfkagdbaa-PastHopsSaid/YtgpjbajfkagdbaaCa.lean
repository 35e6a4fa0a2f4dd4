/- Slices of changes: append onto a row of the call's own; literals. -/
import Derived.Test.YtgpjbajfkagdbaaCv
import Derived.Test.YtgpjbajfkagdbaaPh
import Derived.Maps.AppendAt
import Derived.Laws.AppendOwnNone
set_option linter.unusedVariables false
set_option linter.unusedSimpArgs false
namespace Go.Proofs.Ytgpjbajfkagdbaa
open Go.RowKit

/-- A row of the call's own that holds these changes. -/
structure RowC (B : Nat) (w : World) (v : Value) (C : List Ch) : Prop where
  own : w.ownsRow B 55 6 v C.length (C.flatMap Ch.cells)
theorem RowC.on {B : Nat} {w w' : World} {v : Value} {C : List Ch} (h : RowC B w v C) (hb : Below w.heap.size w w') : RowC B w' v C := ⟨own_on h.own hb⟩
theorem RowC.cv {B : Nat} {w : World} {v : Value} {C : List Ch} (h : RowC B w v C) : CV w v C := CV.own h.own rfl
theorem CV.take {w : World} {A : Option Addr} {n c i : Nat} {C : List Ch} (h : CV w (.slice A n c) C) (hi : i ≤ C.length) : CV w (.slice A i c) (C.take i) := by
  obtain ⟨A', c', e, h1, h2, h3⟩ := h
  injection e with e1 e2 e3
  subst e1 e3
  have hl : (C.take i).length = i := by rw [List.length_take]; omega
  refine ⟨A, c, by rw [hl], ?_, by omega, h3⟩
  intro h0
  obtain ⟨ad, e4, h4, h5⟩ := h1 (by omega)
  refine ⟨ad, e4, h4, fun j hj k u hu => ?_⟩
  have hj2 : j < C.length := by omega
  refine h5 j hj2 k u ?_
  rw [← hu, List.getElem_take]
theorem append_change (w : World) {ops : Array Oper} {rest : List Oper} {o : Oper} {a : Act} {Q : Exit → Act → World → Prop} (hgd : o.guard = none) (s x : Operand)
    (ho : o.op = .call { callee := .builtin .append, args := #[s, x], argTypes := #[23, 23] })
    (base : Nat) (v : Value) (n : Nat) (xs : List Value) (hs : a.eval s = v) (hown : w.ownsRow base 55 6 v n xs)
    (B g : Nat) (y : Ch) (hx : a.eval x = .slice (some ⟨g, 0, none⟩) 1 1) (hr : Chs w B (some ⟨g, 0, none⟩) [y]) (hn : n ≤ 100000) (hbase : base ≤ w.heap.size)
    (h : ∀ v' w', w'.ownsRow base 55 6 v' (n + 1) (xs ++ y.cells) → w.grownBy w' v.ownBlock → (v'.ownBlock = v.ownBlock ∨ v'.ownBlock = some w.heap.size) → wpList Try.prog ops Q rest (a.put o.dst v') w') : wpList Try.prog ops Q (o :: rest) a w := by
  obtain ⟨i0, hi0, hz0, hz1, hz2⟩ := info_parts change_info
  exact wpList_append_own_at w hgd s x 23 ho base 55 i0 (.agg #[.int .i64 0, .string ⟨#[]⟩, .bool false, .string ⟨#[]⟩, .bool false, .string ⟨#[]⟩]) 6 72 Try.underlying23 hi0 hz0 hz1 hz2 rfl (by decide) v n xs hs hown ⟨g, 0, none⟩ 1 1 y.cells hx rfl
    (fun j u hu => chs_cells hr j u (by simpa using hu)) (fun u hu => chs_plain [y] u (by simpa using hu)) (by unfold maxLen; omega) (by omega) hbase (fun v' w' h1 h2 _ h4 => h v' w' h1 h2 h4)

theorem own_zero {w : World} {base g h : Nat} {T U : TypeId} {xs : List Value} {C : Array Value} (ho : w.ownsRow base T 6 (.slice (some ⟨g, 0, none⟩) 0 0) 0 xs) (hb : Box w h U C) (hC : 0 < C.size) : some h ≠ (Value.slice (some ⟨g, 0, none⟩) 0 0).ownBlock := by
  rcases ho.2 with ⟨e, _⟩ | ⟨q, cap, cur, e, _, h1, _, _, h2, _⟩
  · cases e
  · injection e with e1 e2 e3
    subst e3
    intro e4
    simp only [Value.ownBlock, Option.some.injEq] at e4
    injection e1 with e1
    injection e1 with e1 _ _
    subst e1 e4
    rw [show w.heap[h]? = some (.cells C U (0, 0)) from hb] at h1
    injection h1 with h1
    injection h1 with h1 _ _
    rw [h1] at hC
    omega
theorem cv_box {w : World} {h : Nat} {x : Ch} {C : Array Value} (hb : Box w h 55 C) (hC : C.toList = x.cells) : CV w (.slice (some ⟨h, 0, none⟩) 1 1) [x] := by
  refine ⟨some ⟨h, 0, none⟩, 1, rfl, ?_, Nat.le_refl _, fun e => by cases e⟩
  intro _
  refine ⟨⟨h, 0, none⟩, rfl, hb.lt, fun i hi j u hu => ?_⟩
  have hi0 : i = 0 := by simpa using hi
  subst hi0
  have hu : x.cells[j]? = some u := hu
  rw [← hC, Array.getElem?_toList] at hu
  have := Box.cell hb j hu
  by_cases hj : j = 0
  · subst hj; simpa [Addr.add] using this
  · simpa [Addr.add, hj] using this
theorem run_app_cv (w : World) (base : Nat) (v : Value) (n : Nat) (xs : List Value) (hown : w.ownsRow base 55 6 v n xs) {u : Value} {l : List Ch} (hv : CV w u l) (hn : n + l.length ≤ 100000) (hbase : base ≤ w.heap.size) :
    ∃ v' w', (∀ ty, (Builtin.append_ #[23, 23] ty #[v, u]).run Try.prog w = .ok v' w') ∧ w'.ownsRow base 55 6 v' (n + l.length) (xs ++ l.flatMap Ch.cells) ∧ w.grownBy w' v.ownBlock ∧ (v'.ownBlock = v.ownBlock ∨ v'.ownBlock = some w.heap.size) := by
  obtain ⟨i0, hi0, hz0, hz1, hz2⟩ := info_parts change_info
  obtain ⟨A, c, rfl, hA, hc, h0⟩ := hv
  cases A with
  | none =>
    have hl : l = [] := by
      cases l with
      | nil => rfl
      | cons x l => obtain ⟨ad, e, _⟩ := hA (by simp); cases e
    subst hl
    have : c = 0 := h0 rfl
    subst this
    exact ⟨v, w, fun ty => run_append_owned_none w base 23 ty 55 i0 6 Try.underlying23 hi0 v n xs hown, by simpa using hown, ⟨rfl, rfl, rfl, Nat.le_refl _, fun _ _ _ => rfl⟩, .inl rfl⟩
  | some ad =>
    obtain ⟨v', w', h1, h2, h3, _, h5⟩ := run_append_own_at (P := Try.prog) w base 23 0 55 i0 (.agg #[.int .i64 0, .string ⟨#[]⟩, .bool false, .string ⟨#[]⟩, .bool false, .string ⟨#[]⟩]) 6 72 Try.underlying23 hi0 hz0 hz1 hz2 rfl (by decide) v n xs hown ad l.length c (l.flatMap Ch.cells) (chs_len l)
      (chs_cells hA) (chs_plain l) (by unfold maxLen; omega) (by omega) hbase
    exact ⟨v', w', fun ty => h1, h2, h3, h5⟩


end Go.Proofs.Ytgpjbajfkagdbaa
