/- Slices of pairs; the walks of Pick and of the document's Same. -/
import Derived.Test.YtmbcmacegncnmaaAwake
import Derived.Maps.AppendAt
import Derived.Deep.AppendLies
import Derived.OwnWalk
import Derived.BigQuiet
import Derived.Deep.QuietTactic
namespace Go.Proofs.Ytmbcmacegncnmaa
open Go.RowKit

/-- A pair. -/
structure Pr where
  k : ByteArray
  v : ByteArray
deriving DecidableEq
def Pr.cells (p : Pr) : List Value := [.string p.k, .string p.v]
theorem Pr.cells2 (p : Pr) : p.cells.length = 2 := rfl

/-- The slice value '.slice A l.length c' holds the pairs l. -/
abbrev Prs (w : World) (B : Nat) (A : Option Addr) (l : List Pr) : Prop := Lies Pr.cells 2 w B A l
theorem Lies.seeP {w : World} {B : Nat} {A : Option Addr} {l : List Pr} (h : Prs w B A l) (hl : 0 < l.length) : ∃ ad, A = some ad ∧ ad.block < B ∧ ∀ (i : Nat) (h : i < l.length),
    w.cell? (ad.add (i * 2)) = some (.string l[i].k) ∧ w.cell? ⟨(ad.add (i * 2)).block, (ad.add (i * 2)).off + 1, none⟩ = some (.string l[i].v) := by
  obtain ⟨ad, e, hB, hc⟩ := h hl
  refine ⟨ad, e, hB, fun i hi => ⟨?_, ?_⟩⟩
  · have := hc i hi 0 _ rfl; rwa [Addr.add_zero'] at this
  · have := hc i hi 1 _ rfl; rwa [Addr.add_succ'] at this

theorem pair_info : (Try.prog.info? 42).map (fun i => (i.zero, i.size, i.bytes)) = some (some (.agg #[.string ⟨#[]⟩, .string ⟨#[]⟩]), 2, 32) := by kernel_rfl

/-- Those whose keys are in a range. -/
def pickL (r : Rng) (l : List Pr) : List Pr := l.filter fun p => inB r p.k
theorem pick_take (r : Rng) (l : List Pr) (k : Nat) (h : k < l.length) : pickL r (l.take (k + 1)) = pickL r (l.take k) ++ (if inB r l[k].k then [l[k]] else []) := by
  unfold pickL
  rw [List.take_succ_eq_append_getElem h, List.filter_append, List.filter_cons, List.filter_nil]

theorem own_shape {w : World} {base n k : Nat} {e : TypeId} {v : Value} {xs : List Value} (h : w.ownsRow base e k v n xs) : ∃ A c, v = .slice A n c := by
  rcases h.2 with ⟨hv, h0⟩ | ⟨g, cap, cur, hv, _⟩
  · exact ⟨_, _, by rw [hv, h0]⟩
  · exact ⟨_, _, hv⟩
theorem own_below {w w' : World} {base n k c : Nat} {e : TypeId} {A : Option Addr} {xs : List Value} (h : w.ownsRow base e k (.slice A n c) n xs) (hb : Below w.heap.size w w') : w'.ownsRow base e k (.slice A n c) n xs :=
  h.kept (row := .none) ⟨hb.os, hb.tape, hb.output, hb.size, fun k hk _ => hb.block k hk⟩ (by cases A <;> simp [Value.ownBlock])

/-- What a call of Pick comes to. -/
def PickPost (r : Rng) (l : List Pr) (w : World) (e : Ending) (w' : World) : Prop :=
  ∃ (A : Option Addr) (c : Nat), e = .returned (.slice A (pickL r l).length c) ∧ Prs w' w'.heap.size A (pickL r l) ∧ Below w.heap.size w w'

set_option maxHeartbeats 1000000 in
theorem pick_any (lo hi : ByteArray) (op : Bool) (A : Option Addr) (c : Nat) (l : List Pr) (w : World) (hA : Prs w w.heap.size A l) (hn : l.length ≤ 1000000) :
    Calls Try.prog 17 #[.agg #[.string lo, .string hi, .bool op], .slice A l.length c] w (PickPost ⟨lo, hi, op⟩ l w) := by
  obtain ⟨i0, hi0, hz0, hz1, hz2⟩ := info_parts pair_info
  generalize hl : l.length = n at *
  have HL := Lib.hid hl
  have HA := Lib.hid hA
  clear hl hA
  go_enter Try.func17, Try.ntmps17
  go_wp2
  go_loopw [5, 10] (fun v i wr => ∃ (k : Nat), i = .int .i64 k ∧ k ≤ n ∧ wr.ownsRow (w.heap.size + 1) 42 2 v (pickL ⟨lo, hi, op⟩ (l.take k)).length ((pickL ⟨lo, hi, op⟩ (l.take k)).flatMap Pr.cells) ∧ RBlk wr w.heap.size ⟨lo, hi, op⟩ ∧ Below w.heap.size w wr) (fun _ i _ => (n - intOf i).toNat)
  case atStart => exact ⟨0, rfl, by omega, World.ownsRow_nil _ _ _ _, Box.fresh _ _ _, (Below.refl _ _).alloc (Nat.le_refl _) _⟩
  case round =>
    obtain ⟨k, rfl, hk, hown, hr, hbr⟩ := hrel
    obtain ⟨A2, c2, rfl⟩ := own_shape hown
    by_cases hlt : k < n
    · obtain ⟨ad, rfl, hab, hca⟩ := (HA.out.below hbr).seeP (by rw [HL.out]; omega)
      obtain ⟨x1, x2⟩ := hca k (by rw [HL.out]; omega)
      have HT := Lib.hid (pick_take ⟨lo, hi, op⟩ l k (by rw [HL.out]; omega))
      have hle : (pickL ⟨lo, hi, op⟩ (l.take k)).length ≤ 1000000 := by
        have h1 := List.length_filter_le (fun p => inB ⟨lo, hi, op⟩ p.k) (l.take k)
        rw [List.length_take] at h1
        unfold pickL; omega
      obtain ⟨x, hx⟩ : ∃ x, x = l[k]'(by rw [HL.out]; omega) := ⟨_, rfl⟩
      rw [← hx] at x1 x2 HT
      clear hx hca
      obtain ⟨xk, xv⟩ := x
      simp only at x1 x2
      obtain ⟨r1, r2, r3⟩ := RBlk.cells hr
      simp only at r1 r2 r3
      have HR := Lib.hid hr
      have HO := Lib.hid hown
      have hlr := Box.lt hr
      have hlt3 : (ad.add (k * 2)).block < w.heap.size := by rw [block_of_add]; exact hab
      clear hr hown
      generalize pickL ⟨lo, hi, op⟩ (l.take k) = ls at *
      go_wp2_with fail
      refine (in_any lo hi xk op _).mono ?_
      rintro e w1 ⟨rfl, hb1⟩
      have hbr1 : Below w.heap.size w w1 := (hbr.alloc hbr.size _).trans (hb1.mono (by have := hbr.size; simp; omega))
      have HR1 := Lib.hid (show RBlk w1 w.heap.size ⟨lo, hi, op⟩ from cells_of (Box.push HR.out _) hb1)
      have hown1 := own_below (HO.out.alloc (.cells #[.string xk, .string xv] 42)) hb1
      have hp : Box w1 wr.heap.size 42 #[.string xk, .string xv] := Box.on (Box.fresh wr _ _) hb1
      have p1 := Box.cell hp 0 (v := .string xk) rfl
      have p2 := Box.cell hp 1 (v := .string xv) rfl
      have hlp := Box.lt hp
      clear hb1 x1 x2 r1 r2 r3 hp
      cases hb : inB ⟨lo, hi, op⟩ xk with
      | false =>
        rw [hb] at HT
        have HO1 := Lib.hid hown1
        clear hb hown1
        go_wp2
        go_roundw
        case rel => exact ⟨k + 1, by go_num, by omega, by rw [HT.out]; simpa using HO1.out, HR1.out, hbr1⟩
        case measure => simp [intOf]; omega
      | true =>
        rw [hb] at HT
        clear hb
        go_wp2_with (at_builtin; refine wpList_append_own _ rfl _ _ 34 rfl (w.heap.size + 1) 42 i0 (.agg #[.string ⟨#[]⟩, .string ⟨#[]⟩]) 2 32 Try.underlying34 hi0 hz0 hz1 hz2 rfl (by decide) _ _ _ rfl (hown1.alloc _) ⟨w1.heap.size, 0, none⟩ 1 1 [.string xk, .string xv] rfl rfl ?c1 ?c2 ?c3 ?c4 ?c5 ?_)
        case c1 =>
          intro j u hj
          match j, hj with
          | 0, hj => simp at hj; subst hj; simp [Addr.add]
          | 1, hj => simp at hj; subst hj; simp [Addr.add]
        case c2 => intro u hu; simp at hu; rcases hu with rfl | rfl <;> rfl
        case c3 => unfold maxLen; omega
        case c4 => omega
        case c5 => simp; omega
        intro v' w2 hown2 hg2 _
        have hbr2 : Below w.heap.size w w2 := (hbr1.alloc hbr1.size _).grown hg2 (by have := hbr1.size; simp; omega) (fun k hk => by have := (hown1.lt k hk).1; omega)
        have HR2 := Lib.hid (show RBlk w2 w.heap.size ⟨lo, hi, op⟩ from Box.grown (Box.push HR1.out _) hg2 (fun e => by have := (hown1.lt _ e.symm).1; omega))
        have HO2 := Lib.hid hown2
        clear hown1 hown2 hg2
        go_wp2
        go_roundw
        case rel => exact ⟨k + 1, by go_num, by omega, by rw [HT.out]; simpa [Pr.cells] using HO2.out, HR2.out, hbr2⟩
        case measure => simp [intOf]; omega
    · have hkn : k = n := by omega
      subst hkn
      rw [List.take_of_length_le (by rw [HL.out]; omega)] at hown
      have HO := Lib.hid (Lies.own Pr.cells2 hown)
      have HLE := Lib.hid (show (pickL ⟨lo, hi, op⟩ (l.take k)) = pickL ⟨lo, hi, op⟩ l by rw [List.take_of_length_le (by rw [HL.out]; omega)])
      clear hown hr
      go_wp2
      go_ret
      exact ⟨A2, c2, by rw [HLE.out]; rfl, HO.out, hbr⟩

set_option maxHeartbeats 1000000 in
theorem same_any (A B : Option Addr) (c d : Nat) (xs ys : List Pr) (w : World) (ha : Prs w w.heap.size A xs) (hb : Prs w w.heap.size B ys) (hla : xs.length ≤ maxLen) :
    Calls Try.prog 18 #[.slice A xs.length c, .slice B ys.length d] w fun e w' => e = .returned (.bool (decide (xs = ys))) ∧ Below w.heap.size w w' := by
  unfold maxLen at hla
  by_cases hl : xs.length = ys.length
  · generalize hn : xs.length = n at *
    have Hl := Lib.hid hl.symm
    have Hn := Lib.hid hn
    have hne : ((n : Int) != (n : Int)) = false := by simp
    rw [← hl]
    have Ha := Lib.hid ha
    have Hb := Lib.hid hb
    clear hl hn ha hb
    go_enter Try.func18, Try.ntmps18
    go_wp2
    go_loopw [5] (fun i wr => ∃ (k : Nat), i = .int .i64 k ∧ k ≤ n ∧ xs.take k = ys.take k ∧ Below w.heap.size w wr) (fun i _ => (n - intOf i).toNat)
    case atStart => exact ⟨0, rfl, by omega, by simp, Below.refl _ _⟩
    case round =>
      obtain ⟨k, rfl, hk, htk, hbr⟩ := hrel
      have HT := Lib.hid htk
      clear htk
      by_cases hlt : k < n
      · obtain ⟨a1, rfl, hab, hca⟩ := (Ha.out.below hbr).seeP (by rw [Hn.out]; omega)
        obtain ⟨b1, rfl, hbb, hcb⟩ := (Hb.out.below hbr).seeP (by rw [Hl.out]; omega)
        obtain ⟨c1, c2⟩ := hca k (by rw [Hn.out]; omega)
        obtain ⟨d1, d2⟩ := hcb k (by rw [Hl.out]; omega)
        obtain ⟨x, hx⟩ : ∃ x, x = xs[k]'(by rw [Hn.out]; omega) := ⟨_, rfl⟩
        obtain ⟨y, hy⟩ : ∃ y, y = ys[k]'(by rw [Hl.out]; omega) := ⟨_, rfl⟩
        rw [← hx] at c1 c2
        rw [← hy] at d1 d2
        have HX := Lib.hid hx
        have HY := Lib.hid hy
        clear hx hy hca hcb
        obtain ⟨xk, xv⟩ := x
        obtain ⟨yk, yv⟩ := y
        simp only at c1 c2 d1 d2
        by_cases hxy : xk = yk ∧ xv = yv
        · obtain ⟨rfl, rfl⟩ := hxy
          go_wp2
          go_quiet (fail)
          go_wp2
          go_roundw
          case rel => exact ⟨k + 1, by go_num, by omega, by rw [List.take_succ_eq_append_getElem (by rw [Hn.out]; omega), List.take_succ_eq_append_getElem (by rw [Hl.out]; omega), HT.out, ← HX.out, ← HY.out], below_drewN hbr _⟩
          case measure => simp [intOf]; omega
        · have e : xs ≠ ys := fun h => hxy (by
            have h1 : (⟨xk, xv⟩ : Pr) = ⟨yk, yv⟩ := by rw [HX.out, HY.out]; simp [h]
            injection h1 with h1 h2
            exact ⟨h1, h2⟩)
          have HE := Lib.hid (decide_eq_false e)
          by_cases h1 : xk = yk
          · have hz := str_ne (fun h2 : xv = yv => hxy ⟨h1, h2⟩)
            subst h1
            clear e hxy
            go_wp2
            go_quiet (fail)
            go_wp2
            go_ret
            rw [HE.out]
            exact ⟨rfl, below_drewN hbr _⟩
          · have hz := str_ne h1
            clear e hxy h1
            go_wp2
            go_quiet (fail)
            go_wp2
            go_ret
            rw [HE.out]
            exact ⟨rfl, below_drewN hbr _⟩
      · have hkn : k = n := by omega
        have Hk := Lib.hid hkn
        clear hkn
        go_wp2
        go_ret
        have e : xs = ys := by
          have h := HT.out
          rwa [Hk.out, List.take_of_length_le (by rw [Hn.out]; omega), List.take_of_length_le (by rw [Hl.out]; omega)] at h
        rw [decide_eq_true e]
        exact ⟨rfl, hbr⟩
  · have e : xs ≠ ys := fun h => hl (by rw [h])
    have HE := Lib.hid (decide_eq_false e)
    have hne : ((xs.length : Int) != (ys.length : Int)) = true := by simp; omega
    clear e hl ha hb
    go_enter Try.func18, Try.ntmps18
    go_wp2
    go_ret
    rw [HE.out]
    exact ⟨rfl, Below.refl _ _⟩

end Go.Proofs.Ytmbcmacegncnmaa
