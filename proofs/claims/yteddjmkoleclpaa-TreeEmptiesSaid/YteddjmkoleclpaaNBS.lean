/- A note in a block of its own: made, kept, written (layer 9's). -/
import Derived.Test.YteddjmkoleclpaaPP
import Derived.Test.YteddjmkoleclpaaNts
import Derived.Test.YteddjmkoleclpaaAS
import Derived.Test.YteddjmkoleclpaaPhase
import Derived.Test.YteddjmkoleclpaaBB
set_option linter.unusedVariables false
set_option linter.unusedSimpArgs false
namespace Go.Proofs.Yteddjmkoleclpaa
open Go.RowKit

theorem NBlk.nt0 (w : World) {g : Nat} (hg : g = w.heap.size) : NBlk (w.alloc (.cells #[.int .i64 0, .string ⟨#[]⟩, .string ⟨#[]⟩, .int .u64 0] 52)) g nt0 := by subst hg; exact Box.fresh w _ _
theorem NBlk.fresh (w : World) (x : Nt) {g : Nat} (hg : g = w.heap.size) : NBlk (w.alloc (.cells #[.int .i64 x.kind, .string x.key, .string x.value, .int .u64 (x.n.toNat : Int)] 52)) g x := by subst hg; exact Box.fresh w _ _
theorem NBlk.push {w : World} {g : Nat} {x : Nt} (h : NBlk w g x) (o : Obj) : NBlk (w.alloc o) g x := Box.push h o
theorem NBlk.put {w : World} {g : Nat} {x : Nt} (h : NBlk w g x) (q : Nt) :
    NBlk ((((w.setCell ⟨g, 0, none⟩ (.int .i64 q.kind)).setCell ⟨g, 1, none⟩ (.string q.key)).setCell ⟨g, 2, none⟩ (.string q.value)).setCell ⟨g, 3, none⟩ (.int .u64 (q.n.toNat : Int))) g q :=
  Box.set (Box.set (Box.set (Box.set h 0 _) 1 _) 2 _) 3 _
theorem NBlk.away4 {w : World} {g h : Nat} {x : Nt} (hx : NBlk w g x) (hg : g ≠ h) (a b c d : Value) : NBlk ((((w.setCell ⟨h, 0, none⟩ a).setCell ⟨h, 1, none⟩ b).setCell ⟨h, 2, none⟩ c).setCell ⟨h, 3, none⟩ d) g x :=
  Box.away (Box.away (Box.away (Box.away hx hg _) hg _) hg _) hg _
theorem NBlk.lt {w : World} {g : Nat} {x : Nt} (h : NBlk w g x) : g < w.heap.size := Box.lt h
theorem below_put {w w' : World} {B g : Nat} (h : Below B w w') (hg : B ≤ g) (a b c d : Value) : Below B w ((((w'.setCell ⟨g, 0, none⟩ a).setCell ⟨g, 1, none⟩ b).setCell ⟨g, 2, none⟩ c).setCell ⟨g, 3, none⟩ d) :=
  (((h.setCell hg _).setCell hg _).setCell hg _).setCell hg _

end Go.Proofs.Yteddjmkoleclpaa

namespace Go.Proofs.Yteddjmkoleclpaa
open Go.RowKit

/-- append of notes onto a row of the call's own, as an equation. -/
theorem run_append_nts (w : World) (ty base : Nat) (v : Value) (n : Nat) (xs : List Value) (hown : w.ownsRow base 52 4 v n xs) (B : Nat) (A : Option Addr) (m c : Nat) (l : List Nt) (hm : l.length = m) (hr : Nts w B A l) (hA : A = none → c = 0) (hn : n + m ≤ 1000000) (hbase : base ≤ w.heap.size) :
    ∃ v' w', (Builtin.append_ #[27, 27] ty #[v, .slice A m c]).run Try.prog w = .ok v' w' ∧ w'.ownsRow base 52 4 v' (n + m) (xs ++ l.flatMap Nt.cells) ∧ w.grownBy w' v.ownBlock := by
  obtain ⟨i0, hi0, hz0, hz1, hz2⟩ := info_parts note_info
  rcases A with _ | ad
  · obtain rfl := hA rfl
    obtain rfl := nts_none hr
    obtain rfl : m = 0 := hm.symm
    exact ⟨v, w, run_append_owned_none w base 27 ty 52 i0 4 Try.underlying27 hi0 v n xs hown, by simpa using hown, World.grownBy.refl w _⟩
  · obtain ⟨v', w', h1, h2, h3, _⟩ := run_append_own (P := Try.prog) w base 27 ty 52 i0 (.agg #[.int .i64 0, .string ⟨#[]⟩, .string ⟨#[]⟩, .int .u64 0]) 4 48 Try.underlying27 hi0 hz0 hz1 hz2 rfl (by decide) v n xs hown ad m c (l.flatMap Nt.cells) (by rw [nts_len, hm]) (nts_cells hr) (nts_plain l) (by unfold maxLen; omega) (by omega) hbase
    exact ⟨v', w', h1, h2, h3⟩

/-- A slice of no note, in a block of none; a slice of one note, in a block of its own. -/
def NoneN (base : Nat) (w : World) (v : Value) : Prop := ∃ g, v = .slice (some ⟨g, 0, none⟩) 0 0 ∧ base ≤ g ∧ Box w g 52 #[]
def OneN (base : Nat) (x : Nt) (w : World) (v : Value) : Prop := ∃ g, v = .slice (some ⟨g, 0, none⟩) 1 1 ∧ base ≤ g ∧ NBlk w g x
theorem NoneN.on {base : Nat} {w w' : World} {v : Value} (h : NoneN base w v) (hb : Below w.heap.size w w') : NoneN base w' v := by
  obtain ⟨g, e, h1, h2⟩ := h
  exact ⟨g, e, h1, Box.on h2 hb⟩
theorem OneN.on {base : Nat} {x : Nt} {w w' : World} {v : Value} (h : OneN base x w v) (hb : Below w.heap.size w w') : OneN base x w' v := by
  obtain ⟨g, e, h1, h2⟩ := h
  exact ⟨g, e, h1, Box.on h2 hb⟩
theorem NoneN.own {base : Nat} {w : World} {v : Value} (h : NoneN base w v) : w.ownsRow base 52 4 v 0 [] := by
  obtain ⟨g, rfl, h1, h2⟩ := h
  exact ⟨rfl, .inr ⟨g, 0, #[], rfl, h1, h2, Nat.zero_le _, by unfold maxLen; omega, rfl, rfl⟩⟩
theorem OneN.lies {base : Nat} {x : Nt} {w : World} {v : Value} (h : OneN base x w v) : ∃ g, v = .slice (some ⟨g, 0, none⟩) 1 1 ∧ Nts w w.heap.size (some ⟨g, 0, none⟩) [x] := by
  obtain ⟨g, rfl, h1, h2⟩ := h
  refine ⟨g, rfl, fun _ => ⟨_, rfl, Box.lt h2, fun i hi j v hv => ?_⟩⟩
  simp at hi
  subst hi
  obtain ⟨c0, c1, c2, c3⟩ := NBlk.cells h2
  simp [Nt.cells] at hv
  match j, hv with
  | 0, hv => simp at hv; subst hv; simpa [Addr.add] using c0
  | 1, hv => simp at hv; subst hv; simpa [Addr.add] using c1
  | 2, hv => simp at hv; subst hv; simpa [Addr.add] using c2
  | 3, hv => simp at hv; subst hv; simpa [Addr.add] using c3

/-- A region of one marked operation. -/
theorem phase1 {F : Nat → Nat → Oper → Prop} {l : List Oper} (h : Steps1 (F 0) 0 l) (h1 : Steps1 (F 1) 0 l) : ∀ (p i : Nat) (o : Oper), l.toArray[i]? = some o → p ≤ 1 → F p i o := fun p i o hi hp => by
  match p, hp with
  | 0, _ => exact steps_of h i o hi
  | 1, _ => exact steps_of h1 i o hi

/-- What holds while a row that is older is appended to: until then it reads as it did. -/
def GrowS (w1 wd : World) (p : Nat) (w : World) : Prop := Below w1.heap.size w1 w ∧ (p = 0 → Below wd.heap.size wd w)
theorem GrowS.on {w1 wd wa wb : World} {p : Nat} (h : GrowS w1 wd p wa) (hb : Below wa.heap.size wa wb) : GrowS w1 wd p wb :=
  ⟨h.1.trans (hb.mono h.1.size), fun e => (h.2 e).trans (hb.mono (h.2 e).size)⟩

end Go.Proofs.Yteddjmkoleclpaa

namespace Go.Proofs.Yteddjmkoleclpaa
open Go.RowKit

/-- A value that is a slice of these strings. -/
def SSV (w : World) (v : Value) (l : List ByteArray) : Prop := ∃ A c, v = .slice A l.length c ∧ Strs w w.heap.size A l
theorem Strs.on {w w' : World} {A : Option Addr} {l : List ByteArray} (h : Strs w w.heap.size A l) (hb : Below w.heap.size w w') : Strs w' w'.heap.size A l := (h.below hb).more hb.size
theorem SSV.on {w w' : World} {v : Value} {l : List ByteArray} (h : SSV w v l) (hb : Below w.heap.size w w') : SSV w' v l := by
  obtain ⟨A, c, e, hp⟩ := h
  exact ⟨A, c, e, hp.on hb⟩
theorem SSV.push {w : World} {v : Value} {l : List ByteArray} (h : SSV w v l) (o : Obj) : SSV (w.alloc o) v l := h.on ((Below.refl _ w).alloc (Nat.le_refl _) o)

/-- A value that is a slice of these slices of notes. -/
def NVV (w : World) (v : Value) (ps : List (List Nt)) : Prop :=
  ∃ (A : Option Addr) (c : Nat) (vs : List Value), v = .slice A ps.length c ∧ vs.length = ps.length ∧ Lies (fun u : Value => [u]) 1 w w.heap.size A vs ∧ ∀ i (h : i < ps.length), ∃ u, vs[i]? = some u ∧ NV w u ps[i]
theorem NVV.on {w w' : World} {v : Value} {l : List (List Nt)} (h : NVV w v l) (hb : Below w.heap.size w w') : NVV w' v l := by
  obtain ⟨A, c, vs, e, hl, hp, h2⟩ := h
  exact ⟨A, c, vs, e, hl, hp.on hb, fun i hi => let ⟨u, h3, h4⟩ := h2 i hi; ⟨u, h3, h4.on hb⟩⟩
theorem NVV.nil (w : World) : NVV w (.slice none 0 0) [] := ⟨none, 0, [], rfl, rfl, Lies.nil, fun i h => absurd h (by simp)⟩
theorem NVV.part {w : World} {v : Value} {ps : List (List Nt)} (h : NVV w v ps) : ∃ (A : Option Addr) (c : Nat), v = .slice A ps.length c ∧ ∀ (i : Nat) (hi : i < ps.length), ∃ (ad : Addr) (u : Value), A = some ad ∧ ad.block < w.heap.size ∧ w.cell? (ad.add i) = some u ∧ NV w u ps[i] := by
  obtain ⟨A, c, vs, e, hl, hp, h2⟩ := h
  refine ⟨A, c, e, fun i hi => ?_⟩
  obtain ⟨u, h3, h4⟩ := h2 i hi
  obtain ⟨ad, e1, hB, hc⟩ := hp (by rw [hl]; omega)
  obtain ⟨hi2, h5⟩ := List.getElem?_eq_some_iff.1 h3
  have h6 := hc i hi2 0 u (by rw [h5]; rfl)
  rw [Addr.add_zero', Nat.mul_one] at h6
  exact ⟨ad, u, e1, hB, h6, h4⟩
theorem NV.shape {w : World} {u : Value} {p : List Nt} (h : NV w u p) : ∃ B d, u = .slice B p.length d := let ⟨B, d, e, _⟩ := h; ⟨B, d, e⟩
theorem NVV.shape {w : World} {u : Value} {p : List (List Nt)} (h : NVV w u p) : ∃ B d, u = .slice B p.length d := let ⟨B, d, _, e, _⟩ := h; ⟨B, d, e⟩


end Go.Proofs.Yteddjmkoleclpaa
