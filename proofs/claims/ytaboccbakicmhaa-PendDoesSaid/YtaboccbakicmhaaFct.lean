/- Plain facts of layer 11's laws; what a law looks at of its arguments. -/
import Derived.Test.YtaboccbakicmhaaAwk
set_option linter.unusedVariables false
set_option linter.unusedSimpArgs false
namespace Go.Proofs.Ytaboccbakicmhaa
open Go.RowKit

theorem NV.see {w : World} {B : Option Addr} {n d : Nat} {l : List Nt} (h : NV w (.slice B n d) l) : Nts w w.heap.size B l := by
  obtain ⟨B', d', e, h1, _, _⟩ := h
  injection e with e1 e2 e3
  subst e1
  exact h1

/-- The last note of a key, of the first k. -/
def lastN (l : List Nt) (key : ByteArray) (W : Bool) (k : Nat) : Nt × Bool := (l.take k).foldl (fun s x => if x.key = key ∧ W = true then (x, true) else s) (nt0, false)
theorem last_zero (l : List Nt) (key : ByteArray) (W : Bool) : lastN l key W 0 = (nt0, false) := by simp [lastN]
theorem last_succ {l : List Nt} {k : Nat} (hk : k < l.length) (key : ByteArray) (W : Bool) : lastN l key W (k + 1) = if l[k].key = key ∧ W = true then (l[k], true) else lastN l key W k := by
  unfold lastN
  rw [List.take_succ_eq_append_getElem hk, List.foldl_append]
  rfl
theorem last_no (l : List Nt) (key : ByteArray) (k : Nat) : lastN l key false k = (nt0, false) := by
  unfold lastN
  induction l.take k with
  | nil => rfl
  | cons x t ih => rw [List.foldl_cons, if_neg (by simp)]; exact ih
theorem last_find {l : List Nt} (hs : SortedN l) (key : ByteArray) : ∀ k, k ≤ l.length → lastN l key true k = (match getN (l.take k) key with | some x => (x, true) | none => (nt0, false)) := by
  intro k
  induction k with
  | zero => intro _; rw [last_zero, List.take_zero, getN_nil]
  | succ k ih =>
    intro hk
    have hk1 : k < l.length := hk
    rw [last_succ hk1, List.take_succ_eq_append_getElem hk1, getN_append, getN_cons, getN_nil, ih (by omega)]
    by_cases h : l[k].key = key
    · rw [if_pos ⟨h, rfl⟩, if_pos h]
      have h1 : getN (l.take k) key = none := getN_none fun x hx e => by
        obtain ⟨i, hi, rfl⟩ := List.getElem_of_mem hx
        simp at hi
        have := sortedN_get.1 hs i k (by omega) hk1 (by omega)
        rw [List.getElem_take] at e
        rw [e, h] at this
        grind
      rw [h1]; rfl
    · rw [if_neg (fun h2 => h h2.1), if_neg h, Option.or_none]
theorem last_all (l : List Nt) (key : ByteArray) : lastN l key (wellN l) l.length = findA l key := by
  unfold findA
  cases h : wellN l with
  | false => rw [last_no]; rfl
  | true =>
    rw [last_find (wellN_sorted h) key l.length (Nat.le_refl _), List.take_length]
    rfl

/-- All notes of a key, put together, of the first k. -/
def joinN (l : List Nt) (key : ByteArray) (k : Nat) : Nt × Bool := (l.take k).foldl (fun s x => if x.key = key then (if s.2 then bothN s.1 x else x, true) else s) (nt0, false)
theorem join_zero (l : List Nt) (key : ByteArray) : joinN l key 0 = (nt0, false) := by simp [joinN]
theorem join_succ {l : List Nt} {k : Nat} (hk : k < l.length) (key : ByteArray) : joinN l key (k + 1) = if l[k].key = key then (if (joinN l key k).2 then bothN (joinN l key k).1 l[k] else l[k], true) else joinN l key k := by
  unfold joinN
  rw [List.take_succ_eq_append_getElem hk, List.foldl_append]
  rfl
theorem join_foldM (l : List Nt) (key : ByteArray) : ∀ k, k ≤ l.length → joinN l key k = (match foldM none ((l.take k).filter fun n => decide (n.key = key)) with | some x => (x, true) | none => (nt0, false)) := by
  intro k
  induction k with
  | zero => intro _; rw [join_zero, List.take_zero]; rfl
  | succ k ih =>
    intro hk
    have hk1 : k < l.length := hk
    rw [join_succ hk1, List.take_succ_eq_append_getElem hk1, List.filter_append, foldM_append, ih (by omega)]
    by_cases h : l[k].key = key
    · rw [if_pos h]
      have e : ([l[k]].filter fun n => decide (n.key = key)) = [l[k]] := by simp [h]
      rw [e]
      cases foldM none ((l.take k).filter fun n => decide (n.key = key)) with
      | none => rfl
      | some x => rfl
    · rw [if_neg h]
      have e : ([l[k]].filter fun n => decide (n.key = key)) = [] := by simp [h]
      rw [e]; rfl
theorem join_all {l : List Nt} (hr : l.all rightN = true) (key : ByteArray) : joinN l key l.length = findA (pushL [] l) key := by
  unfold findA
  rw [well_pushL well_nil hr, if_pos rfl, getN_pushL, getN_nil, join_foldM l key l.length (Nat.le_refl _), List.take_length]
  cases foldM none (l.filter fun n => decide (n.key = key)) <;> rfl

/-! Parts. -/
theorem split_at {l : List Nt} {lows : List ByteArray} {i : Nat} (hi : i < (splitL l lows).length) : (splitL l lows)[i] = partF l lows i := by
  simp only [splitL, List.getElem_map, List.getElem_range]
  rfl
theorem splitA_yes {l : List Nt} {lows : List ByteArray} (h1 : wellN l = true) (h2 : risesS lows = true) : splitA l lows = splitL l lows := by
  unfold splitA
  rw [h1, h2]; rfl
theorem splitA_no {l : List Nt} {lows : List ByteArray} (h : wellN l = false ∨ risesS lows = false ∨ lows.length = 0) : splitA l lows = [] := by
  unfold splitA
  rcases h with h | h | h
  · rw [h]; rfl
  · rw [h, Bool.and_false]; rfl
  · split
    · have := split_len l lows
      exact List.length_eq_zero_iff.1 (by omega)
    · rfl
theorem mostA_no {l : List Nt} {lows : List ByteArray} {m : Nat} (h : MostA l lows m) (h0 : splitA l lows = []) : m = 0 := by
  rcases h with h | ⟨h1, _⟩
  · exact h.2
  · rw [h0] at h1; simp at h1
theorem mostA_yes {l : List Nt} {lows : List ByteArray} {m : Nat} (h : MostA l lows m) (h0 : splitA l lows ≠ []) : MostAt (splitA l lows) m := by
  rcases h with h | h
  · exact absurd h.1 h0
  · exact h

end Go.Proofs.Ytaboccbakicmhaa
