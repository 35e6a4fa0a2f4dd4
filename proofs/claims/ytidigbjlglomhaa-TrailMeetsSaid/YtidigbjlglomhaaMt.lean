/- The walks of In, meetTwo and Meet, and of the document's In; slices of ranges. -/
import Derived.Test.YtidigbjlglomhaaCv
set_option linter.unusedVariables false
set_option linter.unusedSimpArgs false
namespace Go.Proofs.Ytidigbjlglomhaa
open Go.RowKit

set_option maxHeartbeats 400000 in
theorem in_any (lo hi key : ByteArray) (op : Bool) (w : World) :
    Calls Try.prog 24 #[.agg #[.string lo, .string hi, .bool op], .string key] w fun e w' => e = .returned (.bool (inB ⟨lo, hi, op⟩ key)) ∧ Below w.heap.size w w' := by
  cases h1 : (Op.bytesLess lo.toList key.toList || lo.toList == key.toList) with
  | false =>
    have HR := Lib.hid (show inB ⟨lo, hi, op⟩ key = false by simp only [inB, leS, h1, Bool.false_and])
    go_enter Try.func24, Try.ntmps24
    go_wp2
    go_ret
    rw [HR.out]
    exact ⟨rfl, (Below.refl _ _).alloc (Nat.le_refl _) _⟩
  | true =>
    cases op with
    | true =>
      have HR := Lib.hid (show inB ⟨lo, hi, true⟩ key = true by simp only [inB, leS, h1, Bool.true_and, Bool.true_or])
      go_enter Try.func24, Try.ntmps24
      go_wp2
      go_ret
      rw [HR.out]
      exact ⟨rfl, (Below.refl _ _).alloc (Nat.le_refl _) _⟩
    | false =>
      have HR := Lib.hid (show inB ⟨lo, hi, false⟩ key = Op.bytesLess key.toList hi.toList by simp only [inB, leS, ltS, h1, Bool.true_and, Bool.false_or])
      go_enter Try.func24, Try.ntmps24
      go_wp2
      go_ret
      rw [HR.out]
      exact ⟨rfl, (Below.refl _ _).alloc (Nat.le_refl _) _⟩

set_option maxHeartbeats 400000 in
theorem rin_any (lo hi key : ByteArray) (op : Bool) (w : World) :
    Calls Try.prog 21 #[.agg #[.string lo, .string hi, .bool op], .string key] w fun e w' => e = .returned (.bool (inB ⟨lo, hi, op⟩ key)) ∧ Below w.heap.size w w' := by
  have e0 : inB ⟨lo, hi, op⟩ key = (!ltS key lo && (op || ltS key hi)) := by
    unfold inB
    rw [leS_eq]
    congr 1
    rw [Bool.eq_iff_iff, decide_eq_true_eq, le_iff, Bool.not_eq_true']
  have HR := Lib.hid e0
  clear e0
  cases h1 : Op.bytesLess key.toList lo.toList with
  | true =>
    unfold ltS at HR
    rw [h1] at HR
    go_enter Try.func21, Try.ntmps21
    go_wp2
    go_ret
    rw [HR.out]
    exact ⟨rfl, (Below.refl _ _).alloc (Nat.le_refl _) _⟩
  | false =>
    unfold ltS at HR
    rw [h1] at HR
    cases op with
    | true =>
      go_enter Try.func21, Try.ntmps21
      go_wp2
      go_ret
      rw [HR.out]
      exact ⟨rfl, (Below.refl _ _).alloc (Nat.le_refl _) _⟩
    | false =>
      go_enter Try.func21, Try.ntmps21
      go_wp2
      go_ret
      rw [HR.out]
      exact ⟨rfl, (Below.refl _ _).alloc (Nat.le_refl _) _⟩

/-- A range in a block of its own. -/
abbrev rcells (lo hi : ByteArray) (op : Bool) : Obj := .cells #[.string lo, .string hi, .bool op] 35

set_option maxHeartbeats 400000 in
theorem meet2_any (lo hi lo2 hi2 : ByteArray) (op op2 : Bool) (w : World) :
    Calls Try.prog 28 #[.agg #[.string lo, .string hi, .bool op], .agg #[.string lo2, .string hi2, .bool op2]] w fun e w' => e = .returned (meet2 ⟨lo, hi, op⟩ ⟨lo2, hi2, op2⟩).v ∧ Below w.heap.size w w' := by
  have hmx : ∀ (w : World) (ts : Array TypeId) (t : TypeId) (x y : ByteArray), (Builtin.max_ ts t #[.string x, .string y]).run Try.prog w = .ok (.string (Lib.maxS x y)) w := Lib.run_max_strs
  have hmn : ∀ (w : World) (ts : Array TypeId) (t : TypeId) (x y : ByteArray), (Builtin.min_ ts t #[.string x, .string y]).run Try.prog w = .ok (.string (Lib.minS x y)) w := Lib.run_min_strs
  cases op with
  | true =>
    cases op2 with
    | true =>
      go_enter Try.func28, Try.ntmps28
      go_wp2
      exact bodyPost_ret (v := .agg #[.string (Lib.maxS lo lo2), .string noS, .bool true]) (by simp [results, Try.results28, go_sem, noS]) rfl ⟨rfl, by (repeat (first | exact Below.refl _ _ | refine Below.setCell ?_ (by simp) _ | refine Below.alloc ?_ (by simp <;> omega) _))⟩
    | false =>
      go_enter Try.func28, Try.ntmps28
      go_wp2
      exact bodyPost_ret (v := .agg #[.string (Lib.maxS lo lo2), .string hi2, .bool false]) (by simp [results, Try.results28, go_sem, noS]) rfl ⟨rfl, by (repeat (first | exact Below.refl _ _ | refine Below.setCell ?_ (by simp) _ | refine Below.alloc ?_ (by simp <;> omega) _))⟩
  | false =>
    cases op2 with
    | true =>
      go_enter Try.func28, Try.ntmps28
      go_wp2
      exact bodyPost_ret (v := .agg #[.string (Lib.maxS lo lo2), .string hi, .bool false]) (by simp [results, Try.results28, go_sem, noS]) rfl ⟨rfl, by (repeat (first | exact Below.refl _ _ | refine Below.setCell ?_ (by simp) _ | refine Below.alloc ?_ (by simp <;> omega) _))⟩
    | false =>
      go_enter Try.func28, Try.ntmps28
      go_wp2
      exact bodyPost_ret (v := .agg #[.string (Lib.maxS lo lo2), .string (Lib.minS hi hi2), .bool false]) (by simp [results, Try.results28, go_sem, noS]) rfl ⟨rfl, by (repeat (first | exact Below.refl _ _ | refine Below.setCell ?_ (by simp) _ | refine Below.alloc ?_ (by simp <;> omega) _))⟩

def Rng.cells (r : Rng) : List Value := [.string r.lo, .string r.hi, .bool r.op]
theorem Rng.cells3 (r : Rng) : r.cells.length = 3 := rfl

/-- The slice value '.slice A l.length c' holds the ranges l. -/
abbrev Rngs (w : World) (B : Nat) (A : Option Addr) (l : List Rng) : Prop := Lies Rng.cells 3 w B A l
theorem Lies.seeR {w : World} {B : Nat} {A : Option Addr} {l : List Rng} (h : Rngs w B A l) (hl : 0 < l.length) : ∃ ad, A = some ad ∧ ad.block < B ∧ ∀ (i : Nat) (h : i < l.length),
    w.cell? (ad.add (i * 3)) = some (.string l[i].lo) ∧ w.cell? ⟨(ad.add (i * 3)).block, (ad.add (i * 3)).off + 1, none⟩ = some (.string l[i].hi) ∧ w.cell? ⟨(ad.add (i * 3)).block, (ad.add (i * 3)).off + 2, none⟩ = some (.bool l[i].op) := by
  obtain ⟨ad, e, hB, hc⟩ := h hl
  refine ⟨ad, e, hB, fun i hi => ⟨?_, ?_, ?_⟩⟩
  · have := hc i hi 0 _ rfl; rwa [Addr.add_zero'] at this
  · have := hc i hi 1 _ rfl; rwa [Addr.add_succ'] at this
  · have := hc i hi 2 _ rfl; rwa [Addr.add_succ'] at this

/-- A range that lies in a block of its own: what the walk asks. -/
def RBlk (w : World) (g : Nat) (r : Rng) : Prop := Box w g 35 #[.string r.lo, .string r.hi, .bool r.op]
theorem RBlk.cells {w : World} {g : Nat} {r : Rng} (h : RBlk w g r) : w.cell? ⟨g, 0, none⟩ = some (.string r.lo) ∧ w.cell? ⟨g, 1, none⟩ = some (.string r.hi) ∧ w.cell? ⟨g, 2, none⟩ = some (.bool r.op) :=
  ⟨Box.cell h 0 rfl, Box.cell h 1 rfl, Box.cell h 2 rfl⟩
theorem RBlk.put {w : World} {g : Nat} {r q : Rng} (h : RBlk w g r) : RBlk (((w.setCell ⟨g, 0, none⟩ (.string q.lo)).setCell ⟨g, 1, none⟩ (.string q.hi)).setCell ⟨g, 2, none⟩ (.bool q.op)) g q :=
  Box.set (Box.set (Box.set h 0 _) 1 _) 2 _
theorem RBlk.below {w w' : World} {B g : Nat} {r : Rng} (h : RBlk w g r) (hb : Below B w w') (hg : g < B) : RBlk w' g r := Box.below h hb hg

theorem take_foldl (l : List Rng) (k : Nat) (h : k < l.length) : meetL (l.take (k + 1)) = meet2 (meetL (l.take k)) l[k] := by
  unfold meetL; rw [List.take_succ_eq_append_getElem h, List.foldl_append]; rfl

set_option maxHeartbeats 400000 in
theorem meet_any (A : Option Addr) (c : Nat) (l : List Rng) (w : World) (hA : Rngs w w.heap.size A l) (hn : l.length ≤ maxLen) :
    Calls Try.prog 22 #[.slice A l.length c] w fun e w' => e = .returned (meetL l).v ∧ Below w.heap.size w w' := by
  unfold maxLen at hn
  generalize hl : l.length = n at *
  have HL := Lib.hid hl
  have HA := Lib.hid hA
  clear hl hA
  go_enter Try.func22, Try.ntmps22
  go_wp2
  go_loopw [9] (fun i wr => ∃ (k : Nat), i = .int .i64 k ∧ k ≤ n ∧ RBlk wr (w.heap.size + 1) (meetL (l.take k)) ∧ RBlk wr w.heap.size ⟨noS, noS, false⟩ ∧ Below w.heap.size w wr) (fun i _ => (n - intOf i).toNat)
  case atStart => exact ⟨0, rfl, by omega, (by have h := Box.fresh (w.alloc (rcells noS noS false)) 35 #[.string noS, .string noS, .bool true]; simp only [World.alloc, Array.size_push] at h; exact h), Box.push (Box.fresh _ _ _) _, ((Below.refl _ _).alloc (Nat.le_refl _) _).alloc (by simp) _⟩
  case round =>
    obtain ⟨k, rfl, hk, hm, hz, hbr⟩ := hrel
    have hms := Box.lt hm
    by_cases hlt : k < n
    · obtain ⟨ad, rfl, hab, hca⟩ := (HA.out.below hbr).seeR (by rw [HL.out]; omega)
      obtain ⟨c1, c2, c3⟩ := hca k (by rw [HL.out]; omega)
      obtain ⟨x, hx⟩ : ∃ x, x = l[k]'(by rw [HL.out]; omega) := ⟨_, rfl⟩
      rw [← hx] at c1 c2 c3
      have HX := Lib.hid hx
      obtain ⟨m1, m2, m3⟩ := RBlk.cells hm
      have f0 := Box.free hm 0
      have f1 := Box.free hm 1
      have f2 := Box.free hm 2
      have HM := Lib.hid hm
      have HZ := Lib.hid hz
      obtain ⟨m, hmk⟩ : ∃ m, m = meetL (l.take k) := ⟨_, rfl⟩
      rw [← hmk] at m1 m2 m3 HM
      have HMK := Lib.hid hmk.symm
      clear hx hca hm hz hmk
      have hlt3 : (ad.add (k * 3)).block < w.heap.size := by rw [block_of_add]; exact hab
      go_wp2_with fail
      refine (meet2_any m.lo m.hi x.lo x.hi m.op x.op _).mono ?_
      rintro e w1 ⟨rfl, hb1⟩
      have hM1 : RBlk w1 (w.heap.size + 1) m := RBlk.below (Box.push HM.out _) hb1 (by simp; omega)
      have HZ1 := Lib.hid (show RBlk w1 w.heap.size ⟨noS, noS, false⟩ from RBlk.below (Box.push HZ.out _) hb1 (by simp; omega))
      have g0 := Box.free hM1 0
      have g1 := Box.free hM1 1
      have g2 := Box.free hM1 2
      obtain ⟨k1, k2, k3⟩ := RBlk.cells hM1
      have HM1 := Lib.hid hM1
      have hbr1 : Below w.heap.size w w1 := (hbr.alloc hbr.size _).trans (hb1.mono (by simp; have := hbr.size; omega))
      have hz1 : w.heap.size + 1 < w1.heap.size := Box.lt hM1
      obtain ⟨q, hq⟩ : ∃ q, q = meet2 m x := ⟨_, rfl⟩
      have HQ := Lib.hid hq
      rw [show meet2 ⟨m.lo, m.hi, m.op⟩ ⟨x.lo, x.hi, x.op⟩ = q from hq.symm]
      clear hM1 hb1 hq f0 f1 f2 m1 m2 m3 c1 c2 c3
      unfold Rng.v
      go_wp2
      go_roundw
      case rel =>
        refine ⟨k + 1, by go_num, by omega, ?_, ?_, ?_⟩
        · have e : meetL (l.take (k + 1)) = q := by rw [HQ.out, take_foldl l k (by rw [HL.out]; omega), ← HX.out, HMK.out]
          rw [e]
          exact RBlk.put HM1.out
        · exact Box.away (Box.away (Box.away HZ1.out (by simp) _) (by simp) _) (by simp) _
        · exact ((hbr1.setCell (by simp) _).setCell (by simp) _).setCell (by simp) _
      case measure => simp [intOf]; omega
    · have hkn : k = n := by omega
      subst hkn
      rw [List.take_of_length_le (by rw [HL.out]; omega)] at hm
      obtain ⟨m1, m2, m3⟩ := RBlk.cells hm
      have f0 := Box.free hz 0
      have f1 := Box.free hz 1
      have f2 := Box.free hz 2
      obtain ⟨k1, k2, k3⟩ := RBlk.cells hz
      have HM := Lib.hid hm
      have HZ := Lib.hid hz
      obtain ⟨m, hmk⟩ : ∃ m, m = meetL l := ⟨_, rfl⟩
      rw [← hmk] at m1 m2 m3 HM
      have HMK := Lib.hid hmk
      clear hm hz hmk
      go_wp2
      have hp := RBlk.cells (RBlk.put (q := m) HZ.out)
      exact bodyPost_ret (v := m.v) (by simp [results, Try.results22, go_sem, Rng.v, hp.1, hp.2.1, hp.2.2]) rfl ⟨by rw [HMK.out], ((hbr.setCell (by simp) _).setCell (by simp) _).setCell (by simp) _⟩

theorem cells_of {w w' : World} {g : Nat} {r : Rng} (h : RBlk w g r) (hb : Below w.heap.size w w') : RBlk w' g r := RBlk.below h hb (Box.lt h)

/-- A value that is a slice of these ranges. -/
def RgV (w : World) (v : Value) (l : List Rng) : Prop := ∃ A c, v = .slice A l.length c ∧ Rngs w w.heap.size A l
theorem RgV.on {w w' : World} {v : Value} {l : List Rng} (h : RgV w v l) (hb : Below w.heap.size w w') : RgV w' v l := by
  obtain ⟨A, c, e, hp⟩ := h
  exact ⟨A, c, e, hp.on hb⟩
theorem RgV.nil (w : World) : RgV w (.slice none 0 0) [] := ⟨none, 0, rfl, Lies.nil⟩
theorem RgV.lit {w : World} {C : Array Value} {l : List Rng} {g n : Nat} (hg : g = w.heap.size) (h : C.toList = l.flatMap Rng.cells) (hn : n = l.length) : RgV (w.alloc (.cells C 35)) (.slice (some ⟨g, 0, none⟩) n n) l := by
  subst hg hn
  exact ⟨_, _, rfl, (Lies.lit Rng.cells3 h).more (by simp)⟩
theorem meet_v {w : World} {v : Value} {l : List Rng} (h : RgV w v l) (hn : l.length ≤ maxLen) :
    Calls Try.prog 22 #[v] w fun e w' => e = .returned (meetL l).v ∧ Below w.heap.size w w' := by
  obtain ⟨A, c, rfl, h1⟩ := h
  exact meet_any A c l w h1 hn

end Go.Proofs.Ytidigbjlglomhaa
