/- Slices of notes that read as lists, arguments, literals and rows of the call's own; a note in a block of its own. -/
import Derived.Test.YtgpjbajfkagdbaaNt
import Derived.Test.YtgpjbajfkagdbaaBB
import Derived.Test.YtgpjbajfkagdbaaPk
import Derived.Lib.Hide
import Derived.Laws.OwnMore
import Derived.Laws.AppendOwnNone
import Derived.OwnWalk
import Derived.Maps.AppendAt
import Derived.Deep.AppendLies
set_option linter.unusedVariables false
set_option linter.unusedSimpArgs false
namespace Go.Proofs.Ytgpjbajfkagdbaa
open Go.RowKit

def Nt.cells (x : Nt) : List Value := [.int .i64 x.kind, .string x.key, .string x.value, .int .u64 (x.n.toNat : Int)]
def Nt.v (x : Nt) : Value := .agg #[.int .i64 x.kind, .string x.key, .string x.value, .int .u64 (x.n.toNat : Int)]
theorem Nt.cells4 (x : Nt) : x.cells.length = 4 := rfl
/-- The slice value '.slice A l.length c' holds the notes l. -/
abbrev Nts (w : World) (B : Nat) (A : Option Addr) (l : List Nt) : Prop := Lies Nt.cells 4 w B A l
theorem Lies.seeN {w : World} {B : Nat} {A : Option Addr} {l : List Nt} (h : Nts w B A l) (hl : 0 < l.length) : ∃ ad, A = some ad ∧ ad.block < B ∧ ∀ (i : Nat) (h : i < l.length),
    w.cell? (ad.add (i * 4)) = some (.int .i64 l[i].kind) ∧ w.cell? ⟨(ad.add (i * 4)).block, (ad.add (i * 4)).off + 1, none⟩ = some (.string l[i].key) ∧ w.cell? ⟨(ad.add (i * 4)).block, (ad.add (i * 4)).off + 2, none⟩ = some (.string l[i].value) ∧ w.cell? ⟨(ad.add (i * 4)).block, (ad.add (i * 4)).off + 3, none⟩ = some (.int .u64 (l[i].n.toNat : Int)) := by
  obtain ⟨ad, e, hB, hc⟩ := h hl
  refine ⟨ad, e, hB, fun i hi => ⟨?_, ?_, ?_, ?_⟩⟩
  · have := hc i hi 0 _ rfl; rwa [Addr.add_zero'] at this
  · have := hc i hi 1 _ rfl; rwa [Addr.add_succ'] at this
  · have := hc i hi 2 _ rfl; rwa [Addr.add_succ'] at this
  · have := hc i hi 3 _ rfl; rwa [Addr.add_succ'] at this

/-- A note that lies in a block of its own. -/
def NBlk (w : World) (g : Nat) (x : Nt) : Prop := Box w g 48 #[.int .i64 x.kind, .string x.key, .string x.value, .int .u64 (x.n.toNat : Int)]
theorem NBlk.cells {w : World} {g : Nat} {x : Nt} (h : NBlk w g x) : w.cell? ⟨g, 0, none⟩ = some (.int .i64 x.kind) ∧ w.cell? ⟨g, 1, none⟩ = some (.string x.key) ∧ w.cell? ⟨g, 2, none⟩ = some (.string x.value) ∧ w.cell? ⟨g, 3, none⟩ = some (.int .u64 (x.n.toNat : Int)) :=
  ⟨Box.cell h 0 rfl, Box.cell h 1 rfl, Box.cell h 2 rfl, Box.cell h 3 rfl⟩
theorem NBlk.on {w w' : World} {g : Nat} {x : Nt} (h : NBlk w g x) (hb : Below w.heap.size w w') : NBlk w' g x := Box.on h hb

theorem note_info : (Try.prog.info? 48).map (fun i => (i.zero, i.size, i.bytes)) = some (some (.agg #[.int .i64 0, .string ⟨#[]⟩, .string ⟨#[]⟩, .int .u64 0]), 4, 48) := by kernel_rfl

theorem nts_len (l : List Nt) : (l.flatMap Nt.cells).length = l.length * 4 := by
  induction l with
  | nil => rfl
  | cons x l ih => rw [List.flatMap_cons, List.length_append, ih, Nt.cells4, List.length_cons]; omega
theorem nts_cells {w : World} {B : Nat} {ad : Addr} {l : List Nt} (h : Nts w B (some ad) l) : ∀ j u, (l.flatMap Nt.cells)[j]? = some u → w.cell? (ad.add j) = some u := by
  intro j u hu
  have hj : j < l.length * 4 := by rw [← nts_len]; exact (List.getElem?_eq_some_iff.1 hu).1
  obtain ⟨ad', e, _, hc⟩ := h (by omega)
  injection e with e
  subst e
  have h1 := flat_get Nt.cells4 l (j / 4) (by omega) (j % 4) (by omega)
  rw [show j / 4 * 4 + j % 4 = j by omega, hu] at h1
  have h2 := hc (j / 4) (by omega) (j % 4) u h1.symm
  rwa [Go.Addr.add_add, show j / 4 * 4 + j % 4 = j by omega] at h2
theorem nts_plain (l : List Nt) : ∀ u ∈ l.flatMap Nt.cells, u.oneCell' = true := by
  intro u hu
  obtain ⟨x, _, hx⟩ := List.mem_flatMap.1 hu
  unfold Nt.cells at hx
  simp at hx
  rcases hx with rfl | rfl | rfl | rfl <;> rfl
theorem nts_none {w : World} {B : Nat} {l : List Nt} (h : Nts w B none l) : l = [] := by
  rcases l with _ | ⟨t, l⟩
  · rfl
  · obtain ⟨_, e, _⟩ := h (by simp)
    cases e
theorem own_shape {w : World} {base n k : Nat} {e : TypeId} {v : Value} {xs : List Value} (h : w.ownsRow base e k v n xs) : ∃ A c, v = .slice A n c := by
  rcases h.2 with ⟨hv, h0⟩ | ⟨g, cap, cur, hv, _⟩
  · exact ⟨_, _, by rw [hv, h0]⟩
  · exact ⟨_, _, hv⟩
theorem own_below {w w' : World} {base n k : Nat} {e : TypeId} {v : Value} {xs : List Value} (h : w.ownsRow base e k v n xs) (hb : Below w.heap.size w w') : w'.ownsRow base e k v n xs := by
  obtain ⟨A, c, rfl⟩ := own_shape h
  exact h.kept (row := .none) ⟨hb.os, hb.tape, hb.output, hb.size, fun k hk _ => hb.block k hk⟩ (by cases A <;> simp [Value.ownBlock])
theorem below1 {w w1 : World} {o : Obj} (h : Below (w.alloc o).heap.size (w.alloc o) w1) : Below w.heap.size w w1 :=
  ((Below.refl _ w).alloc (Nat.le_refl _) o).trans (h.mono (by simp))

/-- 'append(v, x...)', v a row of notes of the call's own, x whatever slice of notes. -/
theorem append_nts (w : World) {ops : Array Oper} {rest : List Oper} {o : Oper} {a : Act} {Q : Exit → Act → World → Prop} (hgd : o.guard = none) (s x : Operand)
    (ho : o.op = .call { callee := .builtin .append, args := #[s, x], argTypes := #[45, 45] })
    (base : Nat) (v : Value) (n : Nat) (xs : List Value) (hs : a.eval s = v) (hown : w.ownsRow base 48 4 v n xs)
    (B : Nat) (A : Option Addr) (m c : Nat) (l : List Nt) (hx : a.eval x = .slice A m c) (hm : l.length = m) (hr : Nts w B A l) (hA : A = none → c = 0) (hn : n + m ≤ 1000000) (hbase : base ≤ w.heap.size)
    (h : ∀ v' w', w'.ownsRow base 48 4 v' (n + m) (xs ++ l.flatMap Nt.cells) → w.grownBy w' v.ownBlock → wpList Try.prog ops Q rest (a.put o.dst v') w') : wpList Try.prog ops Q (o :: rest) a w := by
  obtain ⟨i0, hi0, hz0, hz1, hz2⟩ := info_parts note_info
  rcases A with _ | ad
  · obtain rfl := hA rfl
    obtain rfl := nts_none hr
    obtain rfl : m = 0 := hm.symm
    exact wpList_append_own_none hgd s x 45 ho base 48 i0 4 Try.underlying45 hi0 v n xs hs hown hx (h v w (by simpa using hown) (World.grownBy.refl w _))
  · exact wpList_append_own w hgd s x 45 ho base 48 i0 (.agg #[.int .i64 0, .string ⟨#[]⟩, .string ⟨#[]⟩, .int .u64 0]) 4 48 Try.underlying45 hi0 hz0 hz1 hz2 rfl (by decide) v n xs hs hown ad m c (l.flatMap Nt.cells) hx (by rw [nts_len, hm]) (nts_cells hr) (nts_plain l) (by unfold maxLen; omega) (by omega) hbase (fun v' w' h1 h2 _ => h v' w' h1 h2)

/-! Literals. -/
theorem nts_one (w : World) (x : Nt) {g : Nat} (hg : g = w.heap.size) : Nts (w.alloc (.cells #[.int .i64 x.kind, .string x.key, .string x.value, .int .u64 (x.n.toNat : Int)] 48)) (w.heap.size + 1) (some ⟨g, 0, none⟩) [x] := by
  subst hg
  exact Lies.lit Nt.cells4 rfl
theorem nts_two (w : World) (x y : Nt) {g : Nat} (hg : g = w.heap.size) : Nts (w.alloc (.cells #[.int .i64 x.kind, .string x.key, .string x.value, .int .u64 (x.n.toNat : Int), .int .i64 y.kind, .string y.key, .string y.value, .int .u64 (y.n.toNat : Int)] 48)) (w.heap.size + 1) (some ⟨g, 0, none⟩) [x, y] := by
  subst hg
  exact Lies.lit Nt.cells4 rfl
theorem nts_three (w : World) (x y z : Nt) {g : Nat} (hg : g = w.heap.size) : Nts (w.alloc (.cells #[.int .i64 x.kind, .string x.key, .string x.value, .int .u64 (x.n.toNat : Int), .int .i64 y.kind, .string y.key, .string y.value, .int .u64 (y.n.toNat : Int), .int .i64 z.kind, .string z.key, .string z.value, .int .u64 (z.n.toNat : Int)] 48)) (w.heap.size + 1) (some ⟨g, 0, none⟩) [x, y, z] := by
  subst hg
  exact Lies.lit Nt.cells4 rfl

end Go.Proofs.Ytgpjbajfkagdbaa
