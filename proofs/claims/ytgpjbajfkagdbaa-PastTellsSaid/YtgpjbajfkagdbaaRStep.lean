/- One note, done, gone through pair by pair: plain facts; two rows of the call's own that grow side by side. -/
import Derived.Test.YtgpjbajfkagdbaaApp
import Derived.Maps.AppendAt
set_option linter.unusedVariables false
set_option linter.unusedSimpArgs false
namespace Go.Proofs.Ytgpjbajfkagdbaa
open Go.RowKit

def lowF (l : List Pr) (key : ByteArray) : List Pr := l.filter fun p => decide (p.k < key)
def highF (l : List Pr) (key : ByteArray) : List Pr := l.filter fun p => decide (key < p.k)
theorem step_lt {l : List Pr} {k : Nat} (hk : k < l.length) {key : ByteArray} (h : l[k].k < key) :
    lowF (l.take (k + 1)) key = lowF (l.take k) key ++ [l[k]] ∧ highF (l.take (k + 1)) key = highF (l.take k) key ∧ getL (l.take (k + 1)) key = getL (l.take k) key := by
  rw [List.take_succ_eq_append_getElem hk]
  have h1 : ¬ key < l[k].k := by grind
  have h2 : l[k].k ≠ key := by grind
  refine ⟨?_, ?_, ?_⟩
  · unfold lowF; rw [List.filter_append]; simp [h]
  · unfold highF; rw [List.filter_append]; simp [h1]
  · rw [getL_append, getL_cons, if_neg h2, getL_nil]; simp
theorem step_gt {l : List Pr} {k : Nat} (hk : k < l.length) {key : ByteArray} (h : key < l[k].k) :
    lowF (l.take (k + 1)) key = lowF (l.take k) key ∧ highF (l.take (k + 1)) key = highF (l.take k) key ++ [l[k]] ∧ getL (l.take (k + 1)) key = getL (l.take k) key := by
  rw [List.take_succ_eq_append_getElem hk]
  have h1 : ¬ l[k].k < key := by grind
  have h2 : l[k].k ≠ key := by grind
  refine ⟨?_, ?_, ?_⟩
  · unfold lowF; rw [List.filter_append]; simp [h1]
  · unfold highF; rw [List.filter_append]; simp [h]
  · rw [getL_append, getL_cons, if_neg h2, getL_nil]; simp
theorem step_eq {l : List Pr} (hs : Sorted l) {k : Nat} (hk : k < l.length) {key : ByteArray} (h : l[k].k = key) :
    lowF (l.take (k + 1)) key = lowF (l.take k) key ∧ highF (l.take (k + 1)) key = highF (l.take k) key ∧ getL (l.take (k + 1)) key = some l[k].v := by
  rw [List.take_succ_eq_append_getElem hk]
  have h1 : ¬ l[k].k < key := by rw [h]; grind
  have h2 : ¬ key < l[k].k := by rw [h]; grind
  have h3 : getL (l.take k) key = none := getL_none fun p hp e => by
    obtain ⟨i, hi, rfl⟩ := List.getElem_of_mem hp
    simp at hi
    have := sorted_get.1 hs i k (by omega) hk (by omega)
    rw [List.getElem_take] at e
    rw [e, h] at this
    grind
  refine ⟨?_, ?_, ?_⟩
  · unfold lowF; rw [List.filter_append]; simp [h1]
  · unfold highF; rw [List.filter_append]; simp [h2]
  · rw [getL_append, h3, getL_cons, if_pos h]; rfl
theorem low_len (l : List Pr) (k : Nat) (key : ByteArray) : (lowF (l.take k) key).length ≤ k ∧ (highF (l.take k) key).length ≤ k := by
  have h1 := List.length_filter_le (fun p : Pr => decide (p.k < key)) (l.take k)
  have h2 := List.length_filter_le (fun p : Pr => decide (key < p.k)) (l.take k)
  have h3 : (l.take k).length ≤ k := by simp; omega
  unfold lowF highF
  exact ⟨by omega, by omega⟩
theorem one_all (l : List Pr) (n : Nt) : lowF l n.key ++ pairOf n.key (stepsO (getL l n.key) [n]) ++ highF l n.key = oneL l n := rfl

theorem gtr_true {x k : ByteArray} (h : (!Op.bytesLess x.toList k.toList && !x.toList == k.toList) = true) : k < x := by
  rw [Bool.and_eq_true, Bool.not_eq_true', Bool.not_eq_true'] at h
  have h1 : ¬ x < k := fun h2 => by
    have h4 : ltS x k = true := lt_iff.1 h2
    have h5 : ltS x k = false := h.1
    rw [h5] at h4; cases h4
  have h2 : x ≠ k := fun e => by have h3 := h.2; rw [e] at h3; simp at h3
  grind
theorem gtr_false {x k : ByteArray} (h : (!Op.bytesLess x.toList k.toList && !x.toList == k.toList) = false) : ¬ k < x := by
  intro h1
  have h2 : Op.bytesLess x.toList k.toList = false := by
    have h3 : ¬ x < k := by grind
    have h4 : ltS x k = false := by rw [ltS_eq]; exact decide_eq_false h3
    exact h4
  have h3 : x ≠ k := by grind
  rw [h2, str_ne h3] at h
  cases h

/-- Two rows of the call's own that lie in unlike blocks. -/
def Apart2 (a b : Value) : Prop := b.ownBlock = none ∨ b.ownBlock ≠ a.ownBlock
theorem Apart2.symm {a b : Value} (h : Apart2 a b) : Apart2 b a := by
  unfold Apart2 at *
  cases ha : a.ownBlock with
  | none => exact .inl rfl
  | some g =>
    right
    rcases h with h | h
    · rw [h]; simp
    · rw [ha] at h; exact fun e => h e.symm
theorem own_lt {w : World} {base e k n : Nat} {b : Value} {xs : List Value} (h : w.ownsRow base e k b n xs) {g : Nat} (hg : b.ownBlock = some g) : base ≤ g ∧ g < w.heap.size := by
  obtain ⟨A, c, rfl⟩ := own_shape h
  exact h.lt g hg
theorem Apart2.grow {w : World} {base e k n : Nat} {a a' b : Value} {xs : List Value} (h : Apart2 a b) (hb : w.ownsRow base e k b n xs) (hat : a'.ownBlock = a.ownBlock ∨ a'.ownBlock = some w.heap.size) : Apart2 a' b := by
  unfold Apart2 at *
  rcases hat with e | e
  · rw [e]; exact h
  · cases hbb : b.ownBlock with
    | none => exact .inl rfl
    | some g =>
      right
      have := own_lt hb hbb
      rw [e]
      intro h
      injection h with h
      omega
/-- A row of the call's own, behind what grew another one. -/
theorem own_grown {w w' : World} {base n k : Nat} {e : TypeId} {a b : Value} {xs : List Value} (hb : w.ownsRow base e k b n xs) (hg : w.grownBy w' a.ownBlock) (hap : Apart2 a b) : w'.ownsRow base e k b n xs := by
  obtain ⟨A, c, rfl⟩ := own_shape hb
  refine hb.kept hg ?_
  unfold Apart2 at hap
  exact hap

/-- 'append(v, x)', v a row of pairs of the call's own, x a pair that lies in a literal. -/
theorem append_pair (w : World) {ops : Array Oper} {rest : List Oper} {o : Oper} {a : Act} {Q : Exit → Act → World → Prop} (hgd : o.guard = none) (s x : Operand)
    (ho : o.op = .call { callee := .builtin .append, args := #[s, x], argTypes := #[22, 22] })
    (base : Nat) (v : Value) (n : Nat) (xs : List Value) (hs : a.eval s = v) (hown : w.ownsRow base 41 2 v n xs)
    (B g : Nat) (y : Pr) (hx : a.eval x = .slice (some ⟨g, 0, none⟩) 1 1) (hr : Prs w B (some ⟨g, 0, none⟩) [y]) (hn : n ≤ 100000) (hbase : base ≤ w.heap.size)
    (h : ∀ v' w', w'.ownsRow base 41 2 v' (n + 1) (xs ++ y.cells) → w.grownBy w' v.ownBlock → (v'.ownBlock = v.ownBlock ∨ v'.ownBlock = some w.heap.size) → wpList Try.prog ops Q rest (a.put o.dst v') w') : wpList Try.prog ops Q (o :: rest) a w := by
  obtain ⟨i0, hi0, hz0, hz1, hz2⟩ := info_parts pair_info
  exact wpList_append_own_at w hgd s x 22 ho base 41 i0 (.agg #[.string ⟨#[]⟩, .string ⟨#[]⟩]) 2 32 Try.underlying22 hi0 hz0 hz1 hz2 rfl (by decide) v n xs hs hown ⟨g, 0, none⟩ 1 1 y.cells hx rfl
    (fun j u hu => prs_cells hr j u (by simpa using hu)) (fun u hu => prs_plain [y] u (by simpa using hu)) (by unfold maxLen; omega) (by omega) hbase (fun v' w' h1 h2 _ h4 => h v' w' h1 h2 h4)
theorem prs_one (w : World) (x : Pr) {g : Nat} (hg : g = w.heap.size) : Prs (w.alloc (.cells #[.string x.k, .string x.v] 41)) (w.heap.size + 1) (some ⟨g, 0, none⟩) [x] := by
  subst hg
  exact Lies.lit Pr.cells2 rfl

end Go.Proofs.Ytgpjbajfkagdbaa
