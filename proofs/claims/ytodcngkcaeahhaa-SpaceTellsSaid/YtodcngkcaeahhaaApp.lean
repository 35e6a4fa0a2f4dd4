/- append of extents onto a row of the call's own, the source nil, empty or not; the walks of refs, before, small and of the document's Same. -/
import Derived.Test.YtodcngkcaeahhaaAwake
import Derived.BigQuiet
import Derived.Deep.QuietTactic
namespace Go.Proofs.Ytodcngkcaeahhaa
open Go.RowKit

/-- 'append(v, x...)', v a row of extents of the call's own, x whatever slice of extents. -/
theorem append_exs (w : World) {ops : Array Oper} {rest : List Oper} {o : Oper} {a : Act} {Q : Exit → Act → World → Prop} (hgd : o.guard = none) (s x : Operand)
    (ho : o.op = .call { callee := .builtin .append, args := #[s, x], argTypes := #[22, 22] })
    (base : Nat) (v : Value) (n : Nat) (xs : List Value) (hs : a.eval s = v) (hown : w.ownsRow base 27 2 v n xs)
    (B : Nat) (A : Option Addr) (m c : Nat) (l : List Ex) (hx : a.eval x = .slice A m c) (hm : l.length = m) (hr : Exs w B A l) (hA : A = none → c = 0) (hn : n + m ≤ 1000000) (hbase : base ≤ w.heap.size)
    (h : ∀ v' w', w'.ownsRow base 27 2 v' (n + m) (xs ++ l.flatMap Ex.cells) → w.grownBy w' v.ownBlock → wpList Try.prog ops Q rest (a.put o.dst v') w') : wpList Try.prog ops Q (o :: rest) a w := by
  obtain ⟨i0, hi0, hz0, hz1, hz2⟩ := info_parts ex_info
  rcases A with _ | ad
  · obtain rfl := hA rfl
    obtain rfl := exs_none hr
    obtain rfl : m = 0 := hm.symm
    exact wpList_append_own_none hgd s x 22 ho base 27 i0 2 Try.underlying22 hi0 v n xs hs hown hx (h v w (by simpa using hown) (World.grownBy.refl w _))
  · exact wpList_append_own w hgd s x 22 ho base 27 i0 (.agg #[.int .i64 0, .int .i64 0]) 2 16 Try.underlying22 hi0 hz0 hz1 hz2 rfl (by decide) v n xs hs hown ad m c (l.flatMap Ex.cells) hx (by rw [flat_len, hm]) (exs_cells hr) (exs_plain l) (by unfold maxLen; omega) (by omega) hbase (fun v' w' h1 h2 _ => h v' w' h1 h2)

end Go.Proofs.Ytodcngkcaeahhaa
