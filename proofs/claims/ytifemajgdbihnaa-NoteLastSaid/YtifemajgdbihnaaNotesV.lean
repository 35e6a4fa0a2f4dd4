/- What the slots hold of lines that draw their order and append notes: one row of the call's own, one block with a note. -/
import Derived.Test.YtifemajgdbihnaaNv
import Derived.Test.YtifemajgdbihnaaPhase
namespace Go.Proofs.Ytifemajgdbihnaa
open Go.RowKit

/-- append of notes onto a row of the call's own, as an equation. -/
theorem run_append_nts (w : World) (ty base : Nat) (v : Value) (n : Nat) (xs : List Value) (hown : w.ownsRow base 24 4 v n xs) (B : Nat) (A : Option Addr) (m c : Nat) (l : List Nt) (hm : l.length = m) (hr : Nts w B A l) (hA : A = none → c = 0) (hn : n + m ≤ 1000000) (hbase : base ≤ w.heap.size) :
    ∃ v' w', (Builtin.append_ #[33, 33] ty #[v, .slice A m c]).run Try.prog w = .ok v' w' ∧ w'.ownsRow base 24 4 v' (n + m) (xs ++ l.flatMap Nt.cells) ∧ w.grownBy w' v.ownBlock := by
  obtain ⟨i0, hi0, hz0, hz1, hz2⟩ := info_parts note_info
  rcases A with _ | ad
  · obtain rfl := hA rfl
    obtain rfl := nts_none hr
    obtain rfl : m = 0 := hm.symm
    exact ⟨v, w, run_append_owned_none w base 33 ty 24 i0 4 Try.underlying33 hi0 v n xs hown, by simpa using hown, World.grownBy.refl w _⟩
  · obtain ⟨v', w', h1, h2, h3, _⟩ := run_append_own (P := Try.prog) w base 33 ty 24 i0 (.agg #[.int .i64 0, .string ⟨#[]⟩, .string ⟨#[]⟩, .int .u64 0]) 4 48 Try.underlying33 hi0 hz0 hz1 hz2 rfl (by decide) v n xs hown ad m c (l.flatMap Nt.cells) (by rw [nts_len, hm]) (nts_cells hr) (nts_plain l) (by unfold maxLen; omega) (by omega) hbase
    exact ⟨v', w', h1, h2, h3⟩

/-- A slice of no note, in a block of none; a slice of one note, in a block of its own. -/
def NoneN (base : Nat) (w : World) (v : Value) : Prop := ∃ g, v = .slice (some ⟨g, 0, none⟩) 0 0 ∧ base ≤ g ∧ Box w g 24 #[]
def OneN (base : Nat) (x : Nt) (w : World) (v : Value) : Prop := ∃ g, v = .slice (some ⟨g, 0, none⟩) 1 1 ∧ base ≤ g ∧ NBlk w g x
theorem NoneN.on {base : Nat} {w w' : World} {v : Value} (h : NoneN base w v) (hb : Below w.heap.size w w') : NoneN base w' v := by
  obtain ⟨g, e, h1, h2⟩ := h
  exact ⟨g, e, h1, Box.on h2 hb⟩
theorem OneN.on {base : Nat} {x : Nt} {w w' : World} {v : Value} (h : OneN base x w v) (hb : Below w.heap.size w w') : OneN base x w' v := by
  obtain ⟨g, e, h1, h2⟩ := h
  exact ⟨g, e, h1, Box.on h2 hb⟩
theorem box_one {w : World} {g : Nat} {t t' : TypeId} {C C' : Array Value} (h : Box w g t C) (h' : Box w g t' C') : C = C' := by
  unfold Box at h h'
  rw [h] at h'
  injection h' with h'
  injection h'
theorem OneN.grown {base : Nat} {x : Nt} {w w' : World} {u v : Value} (h : OneN base x w u) (hv : NoneN base w v) (hg : w.grownBy w' v.ownBlock) : OneN base x w' u := by
  obtain ⟨g, e, h1, h2⟩ := h
  obtain ⟨k, rfl, _, h3⟩ := hv
  refine ⟨g, e, h1, Box.grown h2 hg fun e2 => ?_⟩
  simp [Value.ownBlock] at e2
  subst e2
  have := box_one h2 h3
  simp at this
theorem NoneN.own {base : Nat} {w : World} {v : Value} (h : NoneN base w v) : w.ownsRow base 24 4 v 0 [] := by
  obtain ⟨g, rfl, h1, h2⟩ := h
  exact ⟨rfl, .inr ⟨g, 0, #[], rfl, h1, h2, Nat.zero_le _, by unfold maxLen; omega, rfl, rfl⟩⟩
theorem OneN.lies {base : Nat} {x : Nt} {w : World} {v : Value} (h : OneN base x w v) : ∃ g, v = .slice (some ⟨g, 0, none⟩) 1 1 ∧ Nts w w.heap.size (some ⟨g, 0, none⟩) [x] := by
  obtain ⟨g, rfl, h1, h2⟩ := h
  refine ⟨g, rfl, fun _ => ⟨_, rfl, Box.lt h2, fun i hi j v hv => ?_⟩⟩
  simp at hi
  subst hi
  obtain ⟨c0, c1, c2, c3⟩ := NBlk.cells h2
  simp [Nt.cells] at hv
  match j, hv with
  | 0, hv => simp at hv; subst hv; simpa [Addr.add] using c0
  | 1, hv => simp at hv; subst hv; simpa [Addr.add] using c1
  | 2, hv => simp at hv; subst hv; simpa [Addr.add] using c2
  | 3, hv => simp at hv; subst hv; simpa [Addr.add] using c3
theorem rows_nv {w : World} {base n : Nat} {v : Value} {l : List Nt} (hn : n = l.length) (h : w.ownsRow base 24 4 v n (l.flatMap Nt.cells)) : NV w v l := by
  subst hn
  obtain ⟨A, c, rfl⟩ := own_shape h
  exact ⟨A, c, rfl, Lies.own Nt.cells4 h⟩

/-- append(append(append([]api.Note{}, l...), n), m...), and Done of it. -/
def LastV (base : Nat) (s0 d1 : ByteArray) (has d2 : Bool) (lv mv : Value) (l m : List Nt) (x : Nt) (p t : Nat) (v : Value) (w : World) : Prop :=
  match t with
  | 65 => v = .string s0
  | 66 => v = .bool has
  | 67 => p = 0 → NoneN base w v
  | 68 => v = lv
  | 69 => p = 1 → w.ownsRow base 24 4 v l.length (l.flatMap Nt.cells)
  | 70 => v = x.v
  | 71 => p ≤ 1 → OneN base x w v
  | 72 => p = 2 → w.ownsRow base 24 4 v (l.length + 1) ((l ++ [x]).flatMap Nt.cells)
  | 73 => v = mv
  | 74 => p = 3 → w.ownsRow base 24 4 v (l.length + 1 + m.length) ((l ++ [x] ++ m).flatMap Nt.cells)
  | 75 => v = .tuple #[.string d1, .bool d2]
  | 64 => v = .tuple #[.string d1, .bool d2]
  | 76 => v = .string d1
  | 77 => v = .bool d2
  | 15 => v = .string d1
  | 16 => v = .bool d2
  | _ => True
theorem LastV.on {base : Nat} {s0 d1 : ByteArray} {has d2 : Bool} {lv mv : Value} {l m : List Nt} {x : Nt} {p t : Nat} {v : Value} {w w' : World} (h : LastV base s0 d1 has d2 lv mv l m x p t v w) (hb : Below w.heap.size w w') : LastV base s0 d1 has d2 lv mv l m x p t v w' := by
  unfold LastV at *
  split at h <;> first | exact h | exact fun e => (h e).on hb | exact fun e => own_below (h e) hb

end Go.Proofs.Ytifemajgdbihnaa
