/- Slices of items that read as lists, caches as values; append of one item onto a row of the call's own; two rows that grow side by side. -/
import Derived.Test.YthoffknkpogfhaaCi
import Derived.Test.YthoffknkpogfhaaLies
import Derived.Test.YthoffknkpogfhaaBox
import Derived.Test.YthoffknkpogfhaaProg
import Derived.Maps.AppendAt
import Derived.OwnWalk
import Derived.Below
set_option linter.unusedVariables false
set_option linter.unusedSimpArgs false
namespace Go.Proofs.Ythoffknkpogfhaa
open Go.RowKit

def It.cells (x : It) : List Value := [.int .i64 x.a, .string x.t, .bool x.d]
def It.v (x : It) : Value := .agg #[.int .i64 x.a, .string x.t, .bool x.d]
theorem It.cells3 (x : It) : x.cells.length = 3 := rfl
abbrev Its (w : World) (B : Nat) (A : Option Addr) (l : List It) : Prop := Lies It.cells 3 w B A l
theorem Lies.seeI {w : World} {B : Nat} {A : Option Addr} {l : List It} (h : Its w B A l) (hl : 0 < l.length) : ∃ ad, A = some ad ∧ ad.block < B ∧ ∀ (i : Nat) (h : i < l.length),
    w.cell? (ad.add (i * 3)) = some (.int .i64 l[i].a) ∧ w.cell? ⟨(ad.add (i * 3)).block, (ad.add (i * 3)).off + 1, none⟩ = some (.string l[i].t) ∧ w.cell? ⟨(ad.add (i * 3)).block, (ad.add (i * 3)).off + 2, none⟩ = some (.bool l[i].d) := by
  obtain ⟨ad, e, hB, hc⟩ := h hl
  refine ⟨ad, e, hB, fun i hi => ⟨?_, ?_, ?_⟩⟩
  · have := hc i hi 0 _ rfl; rwa [Addr.add_zero'] at this
  · have := hc i hi 1 _ rfl; rwa [Addr.add_succ'] at this
  · have := hc i hi 2 _ rfl; rwa [Addr.add_succ'] at this

theorem item_info : (Try.prog.info? 27).map (fun i => (i.zero, i.size, i.bytes)) = some (some (.agg #[.int .i64 0, .string ⟨#[]⟩, .bool false]), 3, 32) := by kernel_rfl
theorem ritem_info : (Try.prog.info? 33).map (fun i => (i.zero, i.size, i.bytes)) = some (some (.agg #[.int .i64 0, .string ⟨#[]⟩, .bool false]), 3, 32) := by kernel_rfl
theorem below_drewN {w0 w : World} {B : Nat} (h : Below B w0 w) (n : Nat) : Below B w0 (w.drewN n) := ⟨h.os, h.tape, h.output, h.size, h.block⟩
theorem its_len (l : List It) : (l.flatMap It.cells).length = l.length * 3 := by
  induction l with
  | nil => rfl
  | cons x l ih => rw [List.flatMap_cons, List.length_append, ih, It.cells3, List.length_cons]; omega
theorem its_cells {w : World} {B : Nat} {ad : Addr} {l : List It} (h : Its w B (some ad) l) : ∀ j u, (l.flatMap It.cells)[j]? = some u → w.cell? (ad.add j) = some u := by
  intro j u hu
  have hj : j < l.length * 3 := by rw [← its_len]; exact (List.getElem?_eq_some_iff.1 hu).1
  obtain ⟨ad', e, _, hc⟩ := h (by omega)
  injection e with e
  subst e
  have h1 := flat_get It.cells3 l (j / 3) (by omega) (j % 3) (by omega)
  rw [show j / 3 * 3 + j % 3 = j by omega, hu] at h1
  have h2 := hc (j / 3) (by omega) (j % 3) u h1.symm
  rwa [Go.Addr.add_add, show j / 3 * 3 + j % 3 = j by omega] at h2
theorem its_plain (l : List It) : ∀ u ∈ l.flatMap It.cells, u.oneCell' = true := by
  intro u hu
  obtain ⟨x, _, hx⟩ := List.mem_flatMap.1 hu
  unfold It.cells at hx
  simp at hx
  rcases hx with rfl | rfl | rfl <;> rfl
theorem its_none {w : World} {B : Nat} {l : List It} (h : Its w B none l) : l = [] := by
  rcases l with _ | ⟨t, l⟩
  · rfl
  · obtain ⟨_, e, _⟩ := h (by simp)
    cases e
theorem own_shape {w : World} {base e k n : Nat} {v : Value} {xs : List Value} (h : w.ownsRow base e k v n xs) : ∃ A c, v = .slice A n c := by
  rcases h.2 with ⟨rfl, rfl⟩ | ⟨g, cap, cur, rfl, _⟩
  · exact ⟨_, _, rfl⟩
  · exact ⟨_, _, rfl⟩
theorem row_cap {w : World} {base n k c : Nat} {e : TypeId} {A : Option Addr} {xs : List Value} (h : w.ownsRow base e k (.slice A n c) n xs) : n ≤ c ∧ (A = none → c = 0) := by
  rcases h.2 with ⟨hv, h0⟩ | ⟨g, cap, cur, hv, _, _, h1, _⟩
  · injection hv with e1 e2 e3
    exact ⟨by omega, fun _ => e3⟩
  · injection hv with e1 e2 e3
    exact ⟨by omega, fun h => by rw [e1] at h; cases h⟩

/-- A value that is a slice of these items. -/
def IV (w : World) (v : Value) (l : List It) : Prop := ∃ A c, v = .slice A l.length c ∧ Its w w.heap.size A l ∧ l.length ≤ c ∧ (A = none → c = 0)
theorem IV.on {w w' : World} {v : Value} {l : List It} (h : IV w v l) (hb : Below w.heap.size w w') : IV w' v l := by
  obtain ⟨A, c, e, hp, h2⟩ := h
  exact ⟨A, c, e, hp.on hb, h2⟩
theorem IV.push {w : World} {v : Value} {l : List It} (h : IV w v l) (o : Obj) : IV (w.alloc o) v l := h.on ((Below.refl _ w).alloc (Nat.le_refl _) o)
theorem IV.nil (w : World) : IV w (.slice none 0 0) [] := ⟨none, 0, rfl, Lies.nil, Nat.le_refl _, fun _ => rfl⟩
theorem IV.own {w : World} {base n : Nat} {e : TypeId} {v : Value} {l : List It} (h : w.ownsRow base e 3 v n (l.flatMap It.cells)) (hn : n = l.length) : IV w v l := by
  subst hn
  obtain ⟨A, c, rfl⟩ := own_shape h
  have h1 := row_cap h
  exact ⟨A, c, rfl, Lies.own It.cells3 h, h1.1, h1.2⟩
theorem IV.lit {w : World} {C : Array Value} {l : List It} {g n : Nat} {e : TypeId} (hg : g = w.heap.size) (h : C.toList = l.flatMap It.cells) (hn : n = l.length) : IV (w.alloc (.cells C e)) (.slice (some ⟨g, 0, none⟩) n n) l := by
  subst hg hn
  exact ⟨_, _, rfl, (Lies.lit It.cells3 h).more (by simp), Nat.le_refl _, fun h => by cases h⟩
/-- A value that is a cache. -/
def CV (w : World) (v : Value) (m : Int) (l : List It) : Prop := ∃ s, v = .agg #[.int .i64 m, s] ∧ IV w s l
theorem CV.on {w w' : World} {v : Value} {m : Int} {l : List It} (h : CV w v m l) (hb : Below w.heap.size w w') : CV w' v m l := by
  obtain ⟨s, e, hp⟩ := h
  exact ⟨s, e, hp.on hb⟩
theorem CV.push {w : World} {v : Value} {m : Int} {l : List It} (h : CV w v m l) (o : Obj) : CV (w.alloc o) v m l := h.on ((Below.refl _ w).alloc (Nat.le_refl _) o)
theorem CV.nil (w : World) (m : Int) : CV w (.agg #[.int .i64 m, .slice none 0 0]) m [] := ⟨_, rfl, IV.nil w⟩

/-- Two rows of the call's own that lie in unlike blocks. -/
def Apart2 (a b : Value) : Prop := b.ownBlock = none ∨ b.ownBlock ≠ a.ownBlock
theorem Apart2.symm {a b : Value} (h : Apart2 a b) : Apart2 b a := by
  unfold Apart2 at *
  cases ha : a.ownBlock with
  | none => exact .inl rfl
  | some g =>
    right
    rcases h with h | h
    · rw [h]; simp
    · rw [ha] at h; exact fun e => h e.symm
theorem own_lt {w : World} {base e k n : Nat} {b : Value} {xs : List Value} (h : w.ownsRow base e k b n xs) {g : Nat} (hg : b.ownBlock = some g) : base ≤ g ∧ g < w.heap.size := by
  obtain ⟨A, c, rfl⟩ := own_shape h
  exact h.lt g hg
theorem Apart2.grow {w : World} {base e k n : Nat} {a a' b : Value} {xs : List Value} (h : Apart2 a b) (hb : w.ownsRow base e k b n xs) (hat : a'.ownBlock = a.ownBlock ∨ ∃ q, w.heap.size ≤ q ∧ a'.ownBlock = some q) : Apart2 a' b := by
  unfold Apart2 at *
  rcases hat with e | ⟨q, hq, e⟩
  · rw [e]; exact h
  · cases hbb : b.ownBlock with
    | none => exact .inl rfl
    | some g =>
      right
      have := own_lt hb hbb
      rw [e]
      intro h
      injection h with h
      omega
/-- A row of the call's own, behind what grew another one. -/
theorem own_grown {w w' : World} {base n k : Nat} {e : TypeId} {a b : Value} {xs : List Value} (hb : w.ownsRow base e k b n xs) (hg : w.grownBy w' a.ownBlock) (hap : Apart2 a b) : w'.ownsRow base e k b n xs := by
  obtain ⟨A, c, rfl⟩ := own_shape hb
  refine hb.kept hg ?_
  unfold Apart2 at hap
  exact hap

section
variable {T S : TypeId} (hinfo : (Try.prog.info? T).map (fun i => (i.zero, i.size, i.bytes)) = some (some (.agg #[.int .i64 0, .string ⟨#[]⟩, .bool false]), 3, 32)) (hund : Try.prog.underlying S = some (.slice T))
include hinfo hund
/-- 'append(v, x)', v a row of the call's own, x a literal slice of one. -/
theorem push_it (w : World) {ops : Array Oper} {rest : List Oper} {o : Oper} {a : Act} {Q : Exit → Act → World → Prop} (hgd : o.guard = none) (s x : Operand)
    (ho : o.op = .call { callee := .builtin .append, args := #[s, x], argTypes := #[S, S] })
    (base : Nat) (v : Value) (n : Nat) (xs : List Value) (hs : a.eval s = v) (hown : w.ownsRow base T 3 v n xs)
    (g : Nat) (r : It) (hx : a.eval x = .slice (some ⟨g, 0, none⟩) 1 1) (hbx : Box w g T r.cells.toArray) (hn : n ≤ 100000) (hbase : base ≤ w.heap.size)
    (h : ∀ v' w', w'.ownsRow base T 3 v' (n + 1) (xs ++ r.cells) → w.grownBy w' v.ownBlock → (v'.ownBlock = v.ownBlock ∨ v'.ownBlock = some w.heap.size) → wpList Try.prog ops Q rest (a.put o.dst v') w') : wpList Try.prog ops Q (o :: rest) a w := by
  obtain ⟨i0, hi0, hz0, hz1, hz2⟩ := info_parts hinfo
  refine wpList_append_own_at w hgd s x S ho base T i0 (.agg #[.int .i64 0, .string ⟨#[]⟩, .bool false]) 3 32 hund hi0 hz0 hz1 hz2 rfl (by decide) v n xs hs hown ⟨g, 0, none⟩ 1 1 r.cells hx rfl ?_ ?_ (by unfold maxLen; omega) (by omega) hbase (fun v' w' h1 h2 _ h4 => h v' w' h1 h2 h4)
  · intro j u hu
    have h3 := Box.cell hbx j (v := u) (by simpa using hu)
    rw [Addr.add_lit, Nat.zero_add]
    exact h3
  · intro u hu
    exact its_plain [r] u (by simpa using hu)
/-- The same, as an equation (in lines that draw their order). -/
theorem run_push (w : World) (ty : TypeId) (base : Nat) (v : Value) (n : Nat) (xs : List Value) (hown : w.ownsRow base T 3 v n xs) (g : Nat) (r : It) (hbx : Box w g T r.cells.toArray) (hn : n ≤ 100000) (hbase : base ≤ w.heap.size) :
    ∃ v' w', (Builtin.append_ #[S, S] ty #[v, .slice (some ⟨g, 0, none⟩) 1 1]).run Try.prog w = .ok v' w' ∧ w'.ownsRow base T 3 v' (n + 1) (xs ++ r.cells) ∧ w.grownBy w' v.ownBlock ∧ (v'.ownBlock = v.ownBlock ∨ v'.ownBlock = some w.heap.size) := by
  obtain ⟨i0, hi0, hz0, hz1, hz2⟩ := info_parts hinfo
  obtain ⟨v', w', h1, h2, h3, _, h5⟩ := run_append_own_at (P := Try.prog) w base S ty T i0 (.agg #[.int .i64 0, .string ⟨#[]⟩, .bool false]) 3 32 hund hi0 hz0 hz1 hz2 rfl (by decide) v n xs hown ⟨g, 0, none⟩ 1 1 r.cells rfl
    (fun j u hu => by
      have h3 := Box.cell hbx j (v := u) (by simpa using hu)
      rw [Addr.add_lit, Nat.zero_add]
      exact h3) (fun u hu => its_plain [r] u (by simpa using hu)) (by unfold maxLen; omega) (by omega) hbase
  exact ⟨v', w', h1, h2, h3, h5⟩
end

end Go.Proofs.Ythoffknkpogfhaa
