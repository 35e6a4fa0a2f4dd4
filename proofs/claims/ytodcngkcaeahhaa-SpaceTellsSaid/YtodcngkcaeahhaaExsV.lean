/- What the slots hold of the lines of SpaceFits and SpaceFills that draw their order and append, or store: one row of the call's own, one block with an extent. -/
import Derived.Test.YtodcngkcaeahhaaWBefore
import Derived.Test.YtodcngkcaeahhaaPhase
namespace Go.Proofs.Ytodcngkcaeahhaa
open Go.RowKit

def ptr (g : Nat) : Value := .pointer (some ⟨g, 0, none⟩)
theorem ptr_inj {g h : Nat} (e : ptr g = ptr h) : g = h := by unfold ptr at e; simpa using e

/-- append of extents onto a row of the call's own, as an equation. -/
theorem run_append_exs (w : World) (ty base : Nat) (v : Value) (n : Nat) (xs : List Value) (hown : w.ownsRow base 27 2 v n xs) (B : Nat) (A : Option Addr) (m c : Nat) (l : List Ex) (hm : l.length = m) (hr : Exs w B A l) (hA : A = none → c = 0) (hn : n + m ≤ 1000000) (hbase : base ≤ w.heap.size) :
    ∃ v' w', (Builtin.append_ #[22, 22] ty #[v, .slice A m c]).run Try.prog w = .ok v' w' ∧ w'.ownsRow base 27 2 v' (n + m) (xs ++ l.flatMap Ex.cells) ∧ w.grownBy w' v.ownBlock := by
  obtain ⟨i0, hi0, hz0, hz1, hz2⟩ := info_parts ex_info
  rcases A with _ | ad
  · obtain rfl := hA rfl
    obtain rfl := exs_none hr
    obtain rfl : m = 0 := hm.symm
    exact ⟨v, w, run_append_owned_none w base 22 ty 27 i0 2 Try.underlying22 hi0 v n xs hown, by simpa using hown, World.grownBy.refl w _⟩
  · obtain ⟨v', w', h1, h2, h3, _⟩ := run_append_own (P := Try.prog) w base 22 ty 27 i0 (.agg #[.int .i64 0, .int .i64 0]) 2 16 Try.underlying22 hi0 hz0 hz1 hz2 rfl (by decide) v n xs hown ad m c (l.flatMap Ex.cells) (by rw [flat_len, hm]) (exs_cells hr) (exs_plain l) (by unfold maxLen; omega) (by omega) hbase
    exact ⟨v', w', h1, h2, h3⟩

/-- A slice of no extent, in a block of none; a slice of one extent, in a block of its own. -/
def NoneS (base : Nat) (w : World) (v : Value) : Prop := ∃ g, v = .slice (some ⟨g, 0, none⟩) 0 0 ∧ base ≤ g ∧ Box w g 27 #[]
def OneS (base : Nat) (x : Ex) (w : World) (v : Value) : Prop := ∃ g, v = .slice (some ⟨g, 0, none⟩) 1 1 ∧ base ≤ g ∧ EBlk w g x
theorem NoneS.on {base : Nat} {w w' : World} {v : Value} (h : NoneS base w v) (hb : Below w.heap.size w w') : NoneS base w' v := by
  obtain ⟨g, e, h1, h2⟩ := h
  exact ⟨g, e, h1, Box.on h2 hb⟩
theorem OneS.on {base : Nat} {x : Ex} {w w' : World} {v : Value} (h : OneS base x w v) (hb : Below w.heap.size w w') : OneS base x w' v := by
  obtain ⟨g, e, h1, h2⟩ := h
  exact ⟨g, e, h1, Box.on h2 hb⟩
theorem box_one {w : World} {g : Nat} {t t' : TypeId} {C C' : Array Value} (h : Box w g t C) (h' : Box w g t' C') : C = C' := by
  unfold Box at h h'
  rw [h] at h'
  injection h' with h'
  injection h'
theorem OneS.grown {base : Nat} {x : Ex} {w w' : World} {u v : Value} (h : OneS base x w u) (hv : NoneS base w v) (hg : w.grownBy w' v.ownBlock) : OneS base x w' u := by
  obtain ⟨g, e, h1, h2⟩ := h
  obtain ⟨k, rfl, _, h3⟩ := hv
  refine ⟨g, e, h1, Box.grown h2 hg fun e2 => ?_⟩
  simp [Value.ownBlock] at e2
  subst e2
  have := box_one h2 h3
  simp at this
theorem NoneS.own {base : Nat} {w : World} {v : Value} (h : NoneS base w v) : w.ownsRow base 27 2 v 0 [] := by
  obtain ⟨g, rfl, h1, h2⟩ := h
  exact ⟨rfl, .inr ⟨g, 0, #[], rfl, h1, h2, Nat.zero_le _, by unfold maxLen; omega, rfl, rfl⟩⟩
theorem OneS.lies {base : Nat} {x : Ex} {w : World} {v : Value} (h : OneS base x w v) : ∃ g, v = .slice (some ⟨g, 0, none⟩) 1 1 ∧ Exs w w.heap.size (some ⟨g, 0, none⟩) [x] := by
  obtain ⟨g, rfl, h1, h2⟩ := h
  refine ⟨g, rfl, fun _ => ⟨_, rfl, Box.lt h2, fun i hi j v hv => ?_⟩⟩
  simp at hi
  subst hi
  obtain ⟨c0, c1⟩ := EBlk.cells h2
  simp [Ex.cells] at hv
  match j, hv with
  | 0, hv => simp at hv; subst hv; simpa [Addr.add] using c0
  | 1, hv => simp at hv; subst hv; simpa [Addr.add] using c1

/-- Line 59: append(append([]space.Extent{}, l...), x). -/
def FitsV6 (base : Nat) (lv : Value) (l : List Ex) (xa xn : Int) (p t : Nat) (v : Value) (w : World) : Prop :=
  match t with
  | 51 => p = 0 → NoneS base w v
  | 52 => v = lv
  | 53 => p = 1 → w.ownsRow base 27 2 v l.length (l.flatMap Ex.cells)
  | 54 => v = .agg #[.int .i64 xa, .int .i64 xn]
  | 55 => p ≤ 1 → OneS base ⟨xa, xn⟩ w v
  | 56 => p = 2 → w.ownsRow base 27 2 v (l.length + 1) ((l ++ [(⟨xa, xn⟩ : Ex)]).flatMap Ex.cells)
  | 11 => p = 2 ∧ w.ownsRow base 27 2 v (l.length + 1) ((l ++ [(⟨xa, xn⟩ : Ex)]).flatMap Ex.cells)
  | _ => True
theorem FitsV6.on {base : Nat} {lv : Value} {l : List Ex} {xa xn : Int} {p t : Nat} {v : Value} {w w' : World} (h : FitsV6 base lv l xa xn p t v w) (hb : Below w.heap.size w w') : FitsV6 base lv l xa xn p t v w' := by
  unfold FitsV6 at *
  split at h <;> first | exact h | exact fun e => (h e).on hb | exact fun e => own_below (h e) hb | exact ⟨h.1, own_below h.2 hb⟩

/-- Line 63: _, f := space.Fit(n, from, x.At+n-1, before(l, x.At)...). -/
def FitsV9 (base g9 : Nat) (n f : Int) (lv : Value) (xa : Int) (B : List Ex) (ra rn re : Int) (p t : Nat) (v : Value) (w : World) : Prop :=
  match t with
  | 82 => v = .int .i64 n
  | 83 => v = .int .i64 f
  | 84 => v = .pointer (some ⟨g9, 0, none⟩)
  | 85 => v = .int .i64 xa
  | 86 => v = .int .i64 n
  | 87 => v = .int .i64 (xa + n)
  | 88 => v = .int .i64 (xa + n - 1)
  | 89 => v = lv
  | 90 => v = .pointer (some ⟨g9, 0, none⟩)
  | 91 => v = .int .i64 xa
  | 92 => p = 0 → ∃ A c, v = .slice A B.length c ∧ Exs w w.heap.size A B
  | 93 => v = .tuple #[.agg #[.int .i64 ra, .int .i64 rn], .int .i64 re]
  | 81 => v = .tuple #[.agg #[.int .i64 ra, .int .i64 rn], .int .i64 re]
  | 94 => v = .agg #[.int .i64 ra, .int .i64 rn]
  | 95 => v = .int .i64 re
  | 12 => ∃ g, v = ptr g ∧ base ≤ g ∧ (p = 0 → EBlk w g ⟨0, 0⟩)
  | 13 => v = .int .i64 re
  | _ => True
theorem FitsV9.on {base g9 : Nat} {n f : Int} {lv : Value} {xa : Int} {B : List Ex} {ra rn re : Int} {p t : Nat} {v : Value} {w w' : World} (h : FitsV9 base g9 n f lv xa B ra rn re p t v w) (hb : Below w.heap.size w w') : FitsV9 base g9 n f lv xa B ra rn re p t v w' := by
  unfold FitsV9 at *
  split at h <;> first | exact h | exact (fun e => let ⟨A, c, h1, h2⟩ := h e; ⟨A, c, h1, Lies.on h2 hb⟩) | exact (let ⟨g, h1, h2, h3⟩ := h; ⟨g, h1, h2, fun e => Box.on (h3 e) hb⟩)

/-- SpaceFills, line 124: last, used = x.At, append(used, x). -/
def FillsV (base g : Nat) (uv : Value) (u : List Ex) (m : Nat) (xa xn : Int) (p t : Nat) (v : Value) (w : World) : Prop :=
  match t with
  | 61 => v = .pointer (some ⟨g, 0, none⟩)
  | 62 => v = .int .i64 xa
  | 63 => v = uv
  | 64 => v = .agg #[.int .i64 xa, .int .i64 xn]
  | 65 => p = 0 → OneS base ⟨xa, xn⟩ w v
  | 66 => p = 1 → w.ownsRow base 27 2 v (m + 1) ((u ++ [(⟨xa, xn⟩ : Ex)]).flatMap Ex.cells)
  | 8 => v = .int .i64 xa
  | 9 => p = 1 ∧ w.ownsRow base 27 2 v (m + 1) ((u ++ [(⟨xa, xn⟩ : Ex)]).flatMap Ex.cells)
  | _ => True
theorem FillsV.on {base g : Nat} {uv : Value} {u : List Ex} {m : Nat} {xa xn : Int} {p t : Nat} {v : Value} {w w' : World} (h : FillsV base g uv u m xa xn p t v w) (hb : Below w.heap.size w w') : FillsV base g uv u m xa xn p t v w' := by
  unfold FillsV at *
  split at h <;> first | exact h | exact fun e => (h e).on hb | exact fun e => own_below (h e) hb | exact ⟨h.1, own_below h.2 hb⟩

/-- What holds of the world in the phases of that line. -/
def FillsS (base g : Nat) (wq : World) (uv : Value) (u : List Ex) (n : Nat) (xa xn : Int) (p : Nat) (w : World) : Prop :=
  (p = 0 → Below wq.heap.size wq w ∧ w.ownsRow base 27 2 uv n (u.flatMap Ex.cells)) ∧ (p = 1 → Below base wq w) ∧ EBlk w g ⟨xa, xn⟩ ∧ base ≤ w.heap.size
theorem FillsS.on {base g : Nat} {wq : World} {uv : Value} {u : List Ex} {n : Nat} {xa xn : Int} {p : Nat} {w w' : World} (h : FillsS base g wq uv u n xa xn p w) (hb : Below w.heap.size w w') : FillsS base g wq uv u n xa xn p w' :=
  ⟨fun e => ⟨(h.1 e).1.trans (hb.mono (h.1 e).1.size), own_below (h.1 e).2 hb⟩, fun e => (h.2.1 e).trans (hb.mono h.2.2.2), Box.on h.2.2.1 hb, Nat.le_trans h.2.2.2 hb.size⟩

theorem phase1 {F : Nat → Nat → Oper → Prop} {l : List Oper} (h : Steps1 (F 0) 0 l) (h1 : Steps1 (F 1) 0 l) : ∀ (p i : Nat) (o : Oper), l.toArray[i]? = some o → p ≤ 1 → F p i o := fun p i o hi hp => by
  match p, hp with
  | 0, _ => exact steps_of h i o hi
  | 1, _ => exact steps_of h1 i o hi

end Go.Proofs.Ytodcngkcaeahhaa
