/- append of strings onto a row of the call's own, the source nil, empty or not: out of the library's two laws. -/
import Derived.Test.YtngiadcbmfbonaaWParts
import Derived.Laws.AppendOwnNone
namespace Go.Proofs.Ytngiadcbmfbonaa
open Go.RowKit

theorem strs_one (ss : List ByteArray) : ∀ u ∈ ss.map Value.string, u.oneCell' = true := by
  intro u hu
  obtain ⟨x, _, rfl⟩ := List.mem_map.1 hu
  rfl

theorem strs_cells {w : World} {B : Nat} {ad : Addr} {ss : List ByteArray} (h : Strs w B (some ad) ss) : ∀ j u, (ss.map Value.string)[j]? = some u → w.cell? (ad.add j) = some u := by
  intro j u hu
  rw [List.getElem?_map] at hu
  rcases hs : ss[j]? with _ | x
  · rw [hs] at hu; simp at hu
  · rw [hs] at hu
    simp at hu
    subst hu
    obtain ⟨hj, hx⟩ := List.getElem?_eq_some_iff.1 hs
    obtain ⟨ad', e, _, hc⟩ := h (by omega)
    injection e with e
    subst e
    rw [hc j hj, hx]

/-- 'append(v, x...)', v a row of strings of the call's own, x whatever slice of strings: more strings are owned. -/
theorem append_strs (w : World) {ops : Array Oper} {rest : List Oper} {o : Oper} {a : Act} {Q : Exit → Act → World → Prop} (hgd : o.guard = none) (s x : Operand)
    (ho : o.op = .call { callee := .builtin .append, args := #[s, x], argTypes := #[34, 34] })
    (base : Nat) (v : Value) (n : Nat) (xs : List Value) (hs : a.eval s = v) (hown : w.ownsRow base 9 1 v n xs)
    (B : Nat) (A : Option Addr) (m c : Nat) (ss : List ByteArray) (hx : a.eval x = .slice A m c) (hm : ss.length = m) (hr : Strs w B A ss) (hA : A = none → c = 0) (hn : n + m ≤ 1000000) (hbase : base ≤ w.heap.size)
    (h : ∀ v' w', w'.ownsRow base 9 1 v' (n + m) (xs ++ ss.map Value.string) → w.grownBy w' v.ownBlock → wpList Try.prog ops Q rest (a.put o.dst v') w') : wpList Try.prog ops Q (o :: rest) a w := by
  obtain ⟨i0, hi0, hz0, hz1, hz2⟩ := info_parts str_info
  rcases A with _ | ad
  · obtain rfl := hA rfl
    have h0 : ss = [] := by
      rcases ss with _ | ⟨t, l⟩
      · rfl
      · obtain ⟨_, e, _⟩ := hr (by simp)
        cases e
    subst h0
    obtain rfl : m = 0 := hm.symm
    exact wpList_append_own_none hgd s x 34 ho base 9 i0 1 Try.underlying34 hi0 v n xs hs hown hx (h v w (by simpa using hown) (World.grownBy.refl w _))
  · exact wpList_append_own w hgd s x 34 ho base 9 i0 (.string ⟨#[]⟩) 1 16 Try.underlying34 hi0 hz0 hz1 hz2 rfl (by decide) v n xs hs hown ad m c (ss.map Value.string) hx (by simp [hm]) (strs_cells hr) (strs_one ss) (by unfold maxLen; omega) (by omega) hbase (fun v' w' h1 h2 _ => h v' w' h1 h2)

end Go.Proofs.Ytngiadcbmfbonaa
