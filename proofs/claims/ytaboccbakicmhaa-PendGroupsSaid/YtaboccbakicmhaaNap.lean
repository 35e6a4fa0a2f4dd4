/- append of notes as an equation; one note, or none, in a block of its own (layer 9's). -/
import Derived.Test.YtaboccbakicmhaaNb
import Derived.Test.YtaboccbakicmhaaApp
import Derived.Test.YtaboccbakicmhaaPhase
set_option linter.unusedVariables false
set_option linter.unusedSimpArgs false
namespace Go.Proofs.Ytaboccbakicmhaa
open Go.RowKit

/-- append of notes onto a row of the call's own, as an equation. -/
theorem run_append_nts (w : World) (ty base : Nat) (v : Value) (n : Nat) (xs : List Value) (hown : w.ownsRow base 32 4 v n xs) (B : Nat) (A : Option Addr) (m c : Nat) (l : List Nt) (hm : l.length = m) (hr : Nts w B A l) (hA : A = none → c = 0) (hn : n + m ≤ 1000000) (hbase : base ≤ w.heap.size) :
    ∃ v' w', (Builtin.append_ #[22, 22] ty #[v, .slice A m c]).run Try.prog w = .ok v' w' ∧ w'.ownsRow base 32 4 v' (n + m) (xs ++ l.flatMap Nt.cells) ∧ w.grownBy w' v.ownBlock := by
  obtain ⟨i0, hi0, hz0, hz1, hz2⟩ := info_parts note_info
  rcases A with _ | ad
  · obtain rfl := hA rfl
    obtain rfl := nts_none hr
    obtain rfl : m = 0 := hm.symm
    exact ⟨v, w, run_append_owned_none w base 22 ty 32 i0 4 Try.underlying22 hi0 v n xs hown, by simpa using hown, World.grownBy.refl w _⟩
  · obtain ⟨v', w', h1, h2, h3, _⟩ := run_append_own (P := Try.prog) w base 22 ty 32 i0 (.agg #[.int .i64 0, .string ⟨#[]⟩, .string ⟨#[]⟩, .int .u64 0]) 4 48 Try.underlying22 hi0 hz0 hz1 hz2 rfl (by decide) v n xs hown ad m c (l.flatMap Nt.cells) (by rw [nts_len, hm]) (nts_cells hr) (nts_plain l) (by unfold maxLen; omega) (by omega) hbase
    exact ⟨v', w', h1, h2, h3⟩

/-- A slice of no note, in a block of none; a slice of one note, in a block of its own. -/
def NoneN (base : Nat) (w : World) (v : Value) : Prop := ∃ g, v = .slice (some ⟨g, 0, none⟩) 0 0 ∧ base ≤ g ∧ Box w g 32 #[]
def OneN (base : Nat) (x : Nt) (w : World) (v : Value) : Prop := ∃ g, v = .slice (some ⟨g, 0, none⟩) 1 1 ∧ base ≤ g ∧ NBlk w g x
theorem NoneN.on {base : Nat} {w w' : World} {v : Value} (h : NoneN base w v) (hb : Below w.heap.size w w') : NoneN base w' v := by
  obtain ⟨g, e, h1, h2⟩ := h
  exact ⟨g, e, h1, Box.on h2 hb⟩
theorem OneN.on {base : Nat} {x : Nt} {w w' : World} {v : Value} (h : OneN base x w v) (hb : Below w.heap.size w w') : OneN base x w' v := by
  obtain ⟨g, e, h1, h2⟩ := h
  exact ⟨g, e, h1, Box.on h2 hb⟩
theorem NoneN.own {base : Nat} {w : World} {v : Value} (h : NoneN base w v) : w.ownsRow base 32 4 v 0 [] := by
  obtain ⟨g, rfl, h1, h2⟩ := h
  exact ⟨rfl, .inr ⟨g, 0, #[], rfl, h1, h2, Nat.zero_le _, by unfold maxLen; omega, rfl, rfl⟩⟩
theorem OneN.lies {base : Nat} {x : Nt} {w : World} {v : Value} (h : OneN base x w v) : ∃ g, v = .slice (some ⟨g, 0, none⟩) 1 1 ∧ Nts w w.heap.size (some ⟨g, 0, none⟩) [x] := by
  obtain ⟨g, rfl, h1, h2⟩ := h
  refine ⟨g, rfl, fun _ => ⟨_, rfl, Box.lt h2, fun i hi j v hv => ?_⟩⟩
  simp at hi
  subst hi
  obtain ⟨c0, c1, c2, c3⟩ := NBlk.cells h2
  simp [Nt.cells] at hv
  match j, hv with
  | 0, hv => simp at hv; subst hv; simpa [Addr.add] using c0
  | 1, hv => simp at hv; subst hv; simpa [Addr.add] using c1
  | 2, hv => simp at hv; subst hv; simpa [Addr.add] using c2
  | 3, hv => simp at hv; subst hv; simpa [Addr.add] using c3

/-- A region of one marked operation. -/
theorem phase1 {F : Nat → Nat → Oper → Prop} {l : List Oper} (h : Steps1 (F 0) 0 l) (h1 : Steps1 (F 1) 0 l) : ∀ (p i : Nat) (o : Oper), l.toArray[i]? = some o → p ≤ 1 → F p i o := fun p i o hi hp => by
  match p, hp with
  | 0, _ => exact steps_of h i o hi
  | 1, _ => exact steps_of h1 i o hi

/-- What holds while a row that is older is appended to: until then it reads as it did. -/
def GrowS (w1 wd : World) (p : Nat) (w : World) : Prop := Below w1.heap.size w1 w ∧ (p = 0 → Below wd.heap.size wd w)
theorem GrowS.on {w1 wd wa wb : World} {p : Nat} (h : GrowS w1 wd p wa) (hb : Below wa.heap.size wa wb) : GrowS w1 wd p wb :=
  ⟨h.1.trans (hb.mono h.1.size), fun e => (h.2 e).trans (hb.mono (h.2 e).size)⟩

end Go.Proofs.Ytaboccbakicmhaa
