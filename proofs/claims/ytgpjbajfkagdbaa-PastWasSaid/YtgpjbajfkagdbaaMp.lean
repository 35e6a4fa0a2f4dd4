/- A map from keys to sides of changes: what it holds behind some changes; looked up, and stored into. -/
import Derived.Test.YtgpjbajfkagdbaaCD
import Derived.Test.YtgpjbajfkagdbaaSml
import Derived.Maps.OwnIn
import Derived.Test.YtgpjbajfkagdbaaRfo
set_option linter.unusedVariables false
set_option linter.unusedSimpArgs false
namespace Go.Proofs.Ytgpjbajfkagdbaa
open Go.RowKit Go.Maps

/-- How a side reads. -/
def sideD (s : Has) : DataW Unit := .agg [.lit (.bool s.2), .lit (.string s.1.data.toList)]
def sideR : Value → Option (DataW Unit × List MemPlace)
  | .agg ⟨[.bool h, .string v]⟩ => some (sideD (v, h), [])
  | _ => none
theorem sideR_mk (s : Has) : sideR (sideV s) = some (sideD s, []) := rfl
theorem sideD_inj {s t : Has} (h : sideD s = sideD t) : s = t := by
  obtain ⟨a, b⟩ := s
  obtain ⟨c, d⟩ := t
  unfold sideD at h
  simp at h
  obtain ⟨h1, h2⟩ := h
  obtain ⟨⟨a⟩⟩ := a
  obtain ⟨⟨c⟩⟩ := c
  simp at h2
  rw [h1, h2]
theorem sideR_inv {v : Value} {z : DataW Unit × List MemPlace} (h : sideR v = some z) : ∃ s : Has, v = sideV s ∧ z.1 = sideD s := by
  unfold sideR at h
  split at h
  · rename_i a b
    injection h with h
    subst h
    exact ⟨(b, a), rfl, rfl⟩
  · cases h

theorem key_law : Keyed Try.prog 9 := string_keyed Try.underlying9
def litK (k : ByteArray) : Lit := .string k.data.toList
theorem litK_inj {a b : ByteArray} (h : litK a = litK b) : a = b := by
  obtain ⟨⟨a⟩⟩ := a
  obtain ⟨⟨b⟩⟩ := b
  unfold litK at h
  simp at h
  rw [h]
theorem key_of {k : ByteArray} (h : k.size ≤ maxLen) : keyOf Try.prog 9 (.string k) = some (litK k) := Go.WideMaps.keyOf_string_mk Try.underlying9 h
theorem key_is (k : ByteArray) : WideAt.IsKeyLit (litK k) := trivial

/-- Has a key been touched? -/
def touched (pre : List Ch) (k : ByteArray) : Bool := pre.any fun c => decide (c.key = k)
theorem touched_snoc (pre : List Ch) (c : Ch) (k : ByteArray) : touched (pre ++ [c]) k = (touched pre k || decide (c.key = k)) := by unfold touched; simp
theorem touched_no {pre : List Ch} {k : ByteArray} (h : touched pre k = false) : ∀ c ∈ pre, c.key ≠ k := by
  unfold touched at h
  simpa using h
/-- The map behind the changes pre, that lead to the pairs q. -/
def MapIs (w : World) (b : Nat) (pre : List Ch) (q : List Pr) : Prop :=
  ∃ D : DataW Unit, w.ownsMap Try.prog 9 sideR b pre.length D ∧ ∀ k : ByteArray, Maps.has D (litK k) = touched pre k ∧ (touched pre k = true → ∀ z, D.atKey (litK k) z = sideD (hasOf (getL q k)))
theorem MapIs.kept {w w' : World} {b : Nat} {pre : List Ch} {q : List Pr} {row : Option Nat} (h : MapIs w b pre q) (hg : w.grownBy w' row) (hne : some b ≠ row) : MapIs w' b pre q := by
  obtain ⟨D, h1, h2⟩ := h
  exact ⟨D, h1.kept hg hne, h2⟩
theorem MapIs.on {w w' : World} {b : Nat} {pre : List Ch} {q : List Pr} (h : MapIs w b pre q) (hb : Below w.heap.size w w') : MapIs w' b pre q :=
  h.kept (row := none) ⟨hb.os, hb.tape, hb.output, hb.size, fun k hk _ => hb.block k hk⟩ (by simp)
theorem MapIs.same {w w' : World} {b : Nat} {pre : List Ch} {q : List Pr} (h : MapIs w b pre q) (hb : w'.heap[b]? = w.heap[b]?) : MapIs w' b pre q := by
  obtain ⟨D, ⟨es, ck, hh, r⟩, h2⟩ := h
  exact ⟨D, ⟨es, ck, hb.trans hh, r⟩, h2⟩
theorem MapIs.made (w : World) (q : List Pr) : MapIs (w.alloc (.map #[] 0)) w.heap.size [] q :=
  ⟨.map [], World.ownsMap_made w _ _ _, fun k => ⟨rfl, fun h => by cases h⟩⟩
theorem MapIs.lt {w : World} {b : Nat} {pre : List Ch} {q : List Pr} (h : MapIs w b pre q) : b < w.heap.size := let ⟨_, h1, _⟩ := h; h1.lt
theorem MapIs.not_cells {w : World} {b : Nat} {pre : List Ch} {q : List Pr} (h : MapIs w b pre q) : ∃ o : Obj, w.heap[b]? = some o ∧ o.isCells = false := by
  obtain ⟨D, ⟨es, ck, hh, _⟩, _⟩ := h
  exact ⟨_, hh, rfl⟩

/-- 'v, ok := m[k]' in a round. -/
theorem wpListIn_lookup_map {F : Fence} {nF : Nat} (w : World) {ops : Array Oper} {rest : List Oper} {o : Oper} {a : Act} {Q : Exit → Act → World → Prop} (hg : o.guard = none) (m x : Operand) (hop : o.op = Op.lookup 102 m x true)
    (b : Nat) (pre : List Ch) (q : List Pr) (hm : a.eval m = .map (some b)) (hmap : MapIs w b pre q) (k : ByteArray) (hk : k.size ≤ maxLen) (hx : a.eval x = .string k) (tb : Bool) (htb : touched pre k = tb)
    (hK : ∀ s : Has, (tb = true → s = hasOf (getL q k)) → wpListIn F nF Try.prog ops Q rest (a.put o.dst (.tuple #[.agg #[.bool s.2, .string s.1], .bool tb])) w) :
    wpListIn F nF Try.prog ops Q (o :: rest) a w := by
  subst htb
  obtain ⟨D, hown, hD⟩ := hmap
  obtain ⟨h1, h2⟩ := hD k
  refine wpListIn_lookup_own_ok w hg m x 102 hop 9 104 key_law Try.underlying102 sideR (z := .agg #[.bool false, .string ⟨#[]⟩]) (by kernel_rfl) (sideD (noB, false)) [] rfl b pre.length D hm hown (.string k) (litK k) hx (key_of hk) ?_
  intro v ps hv
  obtain ⟨s, rfl, hs⟩ := sideR_inv hv
  rw [h1]
  exact hK s fun ht => (sideD_inj (hs.symm.trans (h2 ht _)))

/-- 'm[k] = v'. -/
theorem map_store {w : World} {b : Nat} {pre : List Ch} {q : List Pr} (hmap : MapIs w b pre q) {c : Ch} (hc : mayC c = true) (hn : pre.length < maxLen) :
    ∃ w', (Instr.mapUpdate 102 (.map (some b)) (.string c.key) (.agg #[.bool c.has, .string c.after])).run Try.prog w = .ok () w' ∧ MapIs w' b (pre ++ [c]) (doC q c) ∧ w.grownBy w' (some b) := by
  obtain ⟨D, hown, hD⟩ := hmap
  have hk : c.key.size ≤ maxLen := by have := (may_of hc).2.2.1; unfold maxLen; omega
  obtain ⟨w', hrun, h1, h2⟩ := hown.update (t := 102) key_law Try.underlying102 hn (key_of hk) (sideR_mk (c.after, c.has))
  refine ⟨w', hrun, ⟨D.put (litK c.key) (sideD (c.after, c.has)), ?_, fun k => ?_⟩, h2⟩
  · rw [List.length_append]; exact h1
  · obtain ⟨h3, h4⟩ := hD k
    rw [touched_snoc, doC, getL_set]
    by_cases e : c.key = k
    · subst e
      rw [decide_eq_true rfl, Bool.or_true, if_pos rfl]
      exact ⟨has_put_same hown.isMap (key_is _) _, fun _ z => by rw [atKey_put_same hown.isMap (key_is _), (may_sides hc).2]⟩
    · have hne : litK k ≠ litK c.key := fun h => e (litK_inj h).symm
      rw [decide_eq_false e, Bool.or_false, if_neg e]
      exact ⟨by rw [has_put_other hne, h3], fun ht z => by rw [atKey_put_other hne, h4 ht]⟩

end Go.Proofs.Ytgpjbajfkagdbaa
