/- Slices of changes that read as lists; values that are such; append onto a row of the call's own. -/
import Derived.Test.YtidigbjlglomhaaCh
set_option linter.unusedVariables false
set_option linter.unusedSimpArgs false
namespace Go.Proofs.Ytidigbjlglomhaa
open Go.RowKit

def Ch.cells (x : Ch) : List Value := [.int .i64 x.seq, .string x.key, .bool x.had, .string x.before, .bool x.has, .string x.after]
theorem Ch.cells6 (x : Ch) : x.cells.length = 6 := rfl
abbrev Chs (w : World) (B : Nat) (A : Option Addr) (l : List Ch) : Prop := Lies Ch.cells 6 w B A l
theorem Lies.seeC {w : World} {B : Nat} {A : Option Addr} {l : List Ch} (h : Chs w B A l) (hl : 0 < l.length) : ∃ ad, A = some ad ∧ ad.block < B ∧ ∀ (i : Nat) (h : i < l.length),
    w.cell? (ad.add (i * 6)) = some (.int .i64 l[i].seq) ∧ w.cell? ⟨(ad.add (i * 6)).block, (ad.add (i * 6)).off + 1, none⟩ = some (.string l[i].key) ∧ w.cell? ⟨(ad.add (i * 6)).block, (ad.add (i * 6)).off + 2, none⟩ = some (.bool l[i].had) ∧ w.cell? ⟨(ad.add (i * 6)).block, (ad.add (i * 6)).off + 3, none⟩ = some (.string l[i].before)
     ∧ w.cell? ⟨(ad.add (i * 6)).block, (ad.add (i * 6)).off + 4, none⟩ = some (.bool l[i].has) ∧ w.cell? ⟨(ad.add (i * 6)).block, (ad.add (i * 6)).off + 5, none⟩ = some (.string l[i].after) := by
  obtain ⟨ad, e, hB, hc⟩ := h hl
  refine ⟨ad, e, hB, fun i hi => ⟨?_, ?_, ?_, ?_, ?_, ?_⟩⟩
  · have := hc i hi 0 _ rfl; rwa [Addr.add_zero'] at this
  · have := hc i hi 1 _ rfl; rwa [Addr.add_succ'] at this
  · have := hc i hi 2 _ rfl; rwa [Addr.add_succ'] at this
  · have := hc i hi 3 _ rfl; rwa [Addr.add_succ'] at this
  · have := hc i hi 4 _ rfl; rwa [Addr.add_succ'] at this
  · have := hc i hi 5 _ rfl; rwa [Addr.add_succ'] at this

theorem change_info : (Try.prog.info? 30).map (fun i => (i.zero, i.size, i.bytes)) = some (some (.agg #[.int .i64 0, .string ⟨#[]⟩, .bool false, .string ⟨#[]⟩, .bool false, .string ⟨#[]⟩]), 6, 72) := by kernel_rfl
theorem chs_len (l : List Ch) : (l.flatMap Ch.cells).length = l.length * 6 := by
  induction l with
  | nil => rfl
  | cons x l ih => rw [List.flatMap_cons, List.length_append, ih, Ch.cells6, List.length_cons]; omega
theorem chs_cells {w : World} {B : Nat} {ad : Addr} {l : List Ch} (h : Chs w B (some ad) l) : ∀ j u, (l.flatMap Ch.cells)[j]? = some u → w.cell? (ad.add j) = some u := by
  intro j u hu
  have hj : j < l.length * 6 := by rw [← chs_len]; exact (List.getElem?_eq_some_iff.1 hu).1
  obtain ⟨ad', e, _, hc⟩ := h (by omega)
  injection e with e
  subst e
  have h1 := flat_get Ch.cells6 l (j / 6) (by omega) (j % 6) (by omega)
  rw [show j / 6 * 6 + j % 6 = j by omega, hu] at h1
  have h2 := hc (j / 6) (by omega) (j % 6) u h1.symm
  rwa [Go.Addr.add_add, show j / 6 * 6 + j % 6 = j by omega] at h2
theorem chs_plain (l : List Ch) : ∀ u ∈ l.flatMap Ch.cells, u.oneCell' = true := by
  intro u hu
  obtain ⟨x, _, hx⟩ := List.mem_flatMap.1 hu
  unfold Ch.cells at hx
  simp at hx
  rcases hx with rfl | rfl | rfl | rfl | rfl | rfl <;> rfl

/-- A value that is a slice of these changes. -/
def CV (w : World) (v : Value) (l : List Ch) : Prop := ∃ A c, v = .slice A l.length c ∧ Chs w w.heap.size A l ∧ l.length ≤ c ∧ (A = none → c = 0)
theorem CV.on {w w' : World} {v : Value} {l : List Ch} (h : CV w v l) (hb : Below w.heap.size w w') : CV w' v l := by
  obtain ⟨A, c, e, hp, h2⟩ := h
  exact ⟨A, c, e, hp.on hb, h2⟩
theorem CV.push {w : World} {v : Value} {l : List Ch} (h : CV w v l) (o : Obj) : CV (w.alloc o) v l := h.on ((Below.refl _ w).alloc (Nat.le_refl _) o)
theorem CV.nil (w : World) : CV w (.slice none 0 0) [] := ⟨none, 0, rfl, Lies.nil, Nat.le_refl _, fun _ => rfl⟩
theorem CV.own {w : World} {base n : Nat} {v : Value} {l : List Ch} (h : w.ownsRow base 30 6 v n (l.flatMap Ch.cells)) (hn : n = l.length) : CV w v l := by
  subst hn
  obtain ⟨A, c, rfl⟩ := own_shape h
  have h1 := row_cap h
  exact ⟨A, c, rfl, Lies.own Ch.cells6 h, h1.1, h1.2⟩
theorem CV.lit {w : World} {C : Array Value} {l : List Ch} {g n : Nat} (hg : g = w.heap.size) (h : C.toList = l.flatMap Ch.cells) (hn : n = l.length) : CV (w.alloc (.cells C 30)) (.slice (some ⟨g, 0, none⟩) n n) l := by
  subst hg hn
  exact ⟨_, _, rfl, (Lies.lit Ch.cells6 h).more (by simp), Nat.le_refl _, fun h => by cases h⟩

theorem own_on {w w' : World} {base e k n : Nat} {v : Value} {xs : List Value} (h : w.ownsRow base e k v n xs) (hb : Below w.heap.size w w') : w'.ownsRow base e k v n xs := own_below h hb
theorem own_more {w : World} {base base' e k n : Nat} {v : Value} {xs : List Value} (h : w.ownsRow base e k v n xs) (hb : base' ≤ base) : w.ownsRow base' e k v n xs := by
  refine ⟨h.1, ?_⟩
  rcases h.2 with hn | ⟨g, cap, cur, e1, h1, h2⟩
  · exact .inl hn
  · exact .inr ⟨g, cap, cur, e1, by omega, h2⟩
/-- A row of the call's own that holds these changes. -/
structure RowC (B : Nat) (w : World) (v : Value) (C : List Ch) : Prop where
  own : w.ownsRow B 30 6 v C.length (C.flatMap Ch.cells)
theorem RowC.on {B : Nat} {w w' : World} {v : Value} {C : List Ch} (h : RowC B w v C) (hb : Below w.heap.size w w') : RowC B w' v C := ⟨own_on h.own hb⟩
theorem RowC.cv {B : Nat} {w : World} {v : Value} {C : List Ch} (h : RowC B w v C) : CV w v C := CV.own h.own rfl
theorem CV.take {w : World} {A : Option Addr} {n c i : Nat} {C : List Ch} (h : CV w (.slice A n c) C) (hi : i ≤ C.length) : CV w (.slice A i c) (C.take i) := by
  obtain ⟨A', c', e, h1, h2, h3⟩ := h
  injection e with e1 e2 e3
  subst e1 e3
  have hl : (C.take i).length = i := by rw [List.length_take]; omega
  refine ⟨A, c, by rw [hl], ?_, by omega, h3⟩
  intro h0
  obtain ⟨ad, e4, h4, h5⟩ := h1 (by omega)
  refine ⟨ad, e4, h4, fun j hj k u hu => ?_⟩
  have hj2 : j < C.length := by omega
  refine h5 j hj2 k u ?_
  rw [← hu, List.getElem_take]
theorem append_change (w : World) {ops : Array Oper} {rest : List Oper} {o : Oper} {a : Act} {Q : Exit → Act → World → Prop} (hgd : o.guard = none) (s x : Operand)
    (ho : o.op = .call { callee := .builtin .append, args := #[s, x], argTypes := #[22, 22] })
    (base : Nat) (v : Value) (n : Nat) (xs : List Value) (hs : a.eval s = v) (hown : w.ownsRow base 30 6 v n xs)
    (B g : Nat) (y : Ch) (hx : a.eval x = .slice (some ⟨g, 0, none⟩) 1 1) (hr : Chs w B (some ⟨g, 0, none⟩) [y]) (hn : n ≤ 100000) (hbase : base ≤ w.heap.size)
    (h : ∀ v' w', w'.ownsRow base 30 6 v' (n + 1) (xs ++ y.cells) → w.grownBy w' v.ownBlock → (v'.ownBlock = v.ownBlock ∨ v'.ownBlock = some w.heap.size) → wpList Try.prog ops Q rest (a.put o.dst v') w') : wpList Try.prog ops Q (o :: rest) a w := by
  obtain ⟨i0, hi0, hz0, hz1, hz2⟩ := info_parts change_info
  exact wpList_append_own_at w hgd s x 22 ho base 30 i0 (.agg #[.int .i64 0, .string ⟨#[]⟩, .bool false, .string ⟨#[]⟩, .bool false, .string ⟨#[]⟩]) 6 72 Try.underlying22 hi0 hz0 hz1 hz2 rfl (by decide) v n xs hs hown ⟨g, 0, none⟩ 1 1 y.cells hx rfl
    (fun j u hu => chs_cells hr j u (by simpa using hu)) (fun u hu => chs_plain [y] u (by simpa using hu)) (by unfold maxLen; omega) (by omega) hbase (fun v' w' h1 h2 _ h4 => h v' w' h1 h2 h4)

theorem own_zero {w : World} {base g h : Nat} {T U : TypeId} {xs : List Value} {C : Array Value} (ho : w.ownsRow base T 6 (.slice (some ⟨g, 0, none⟩) 0 0) 0 xs) (hb : Box w h U C) (hC : 0 < C.size) : some h ≠ (Value.slice (some ⟨g, 0, none⟩) 0 0).ownBlock := by
  rcases ho.2 with ⟨e, _⟩ | ⟨q, cap, cur, e, _, h1, _, _, h2, _⟩
  · cases e
  · injection e with e1 e2 e3
    subst e3
    intro e4
    simp only [Value.ownBlock, Option.some.injEq] at e4
    injection e1 with e1
    injection e1 with e1 _ _
    subst e1 e4
    rw [show w.heap[h]? = some (.cells C U (0, 0)) from hb] at h1
    injection h1 with h1
    injection h1 with h1 _ _
    rw [h1] at hC
    omega
theorem cv_box {w : World} {h : Nat} {x : Ch} {C : Array Value} (hb : Box w h 30 C) (hC : C.toList = x.cells) : CV w (.slice (some ⟨h, 0, none⟩) 1 1) [x] := by
  refine ⟨some ⟨h, 0, none⟩, 1, rfl, ?_, Nat.le_refl _, fun e => by cases e⟩
  intro _
  refine ⟨⟨h, 0, none⟩, rfl, hb.lt, fun i hi j u hu => ?_⟩
  have hi0 : i = 0 := by simpa using hi
  subst hi0
  have hu : x.cells[j]? = some u := hu
  rw [← hC, Array.getElem?_toList] at hu
  have := Box.cell hb j hu
  by_cases hj : j = 0
  · subst hj; simpa [Addr.add] using this
  · simpa [Addr.add, hj] using this
theorem run_app_cv (w : World) (base : Nat) (v : Value) (n : Nat) (xs : List Value) (hown : w.ownsRow base 30 6 v n xs) {u : Value} {l : List Ch} (hv : CV w u l) (hn : n + l.length ≤ 100000) (hbase : base ≤ w.heap.size) :
    ∃ v' w', (∀ ty, (Builtin.append_ #[22, 22] ty #[v, u]).run Try.prog w = .ok v' w') ∧ w'.ownsRow base 30 6 v' (n + l.length) (xs ++ l.flatMap Ch.cells) ∧ w.grownBy w' v.ownBlock ∧ (v'.ownBlock = v.ownBlock ∨ v'.ownBlock = some w.heap.size) := by
  obtain ⟨i0, hi0, hz0, hz1, hz2⟩ := info_parts change_info
  obtain ⟨A, c, rfl, hA, hc, h0⟩ := hv
  cases A with
  | none =>
    have hl : l = [] := by
      cases l with
      | nil => rfl
      | cons x l => obtain ⟨ad, e, _⟩ := hA (by simp); cases e
    subst hl
    have : c = 0 := h0 rfl
    subst this
    exact ⟨v, w, fun ty => run_append_owned_none w base 22 ty 30 i0 6 Try.underlying22 hi0 v n xs hown, by simpa using hown, ⟨rfl, rfl, rfl, Nat.le_refl _, fun _ _ _ => rfl⟩, .inl rfl⟩
  | some ad =>
    obtain ⟨v', w', h1, h2, h3, _, h5⟩ := run_append_own_at (P := Try.prog) w base 22 0 30 i0 (.agg #[.int .i64 0, .string ⟨#[]⟩, .bool false, .string ⟨#[]⟩, .bool false, .string ⟨#[]⟩]) 6 72 Try.underlying22 hi0 hz0 hz1 hz2 rfl (by decide) v n xs hown ad l.length c (l.flatMap Ch.cells) (chs_len l)
      (chs_cells hA) (chs_plain l) (by unfold maxLen; omega) (by omega) hbase
    exact ⟨v', w', fun ty => h1, h2, h3, h5⟩


end Go.Proofs.Ytidigbjlglomhaa
