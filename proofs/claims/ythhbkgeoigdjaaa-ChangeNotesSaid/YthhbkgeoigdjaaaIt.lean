/- The iterators: slices.Values and slices.Backward at changes. -/
import Derived.Test.YthhbkgeoigdjaaaTrn
import Derived.Test.YthhbkgeoigdjaaaRfo
import Derived.Shelf.Abstract
import Derived.Shelf.RegionOpen
import Derived.WalkKit
import Derived.OwnWalkIn
import Derived.TacticsInMore
import Derived.LoopNIn
import Derived.LoopIn
set_option linter.unusedVariables false
set_option linter.unusedSimpArgs false
namespace Go.Proofs.Ythhbkgeoigdjaaa
open Go.RowKit Go.Shelf

attribute [local go_sem] Oper.semAt_some


set_option maxRecDepth 100000 in
set_option maxHeartbeats 2000000 in
theorem values1_gives (T : TypeId) {v : Value} {C : List Ch} (w : World) (Bs : Nat) (hv : CV w v C) (hmax : C.length ≤ 1000000) (hBs : Bs < w.heap.size) (hc : w.cell? ⟨Bs, 0, none⟩ = some v) :
    Gives T Try.prog 51 #[.pointer (some ⟨Bs, 0, none⟩)] (fun c : Ch => #[c.v]) (Below w.heap.size) C w := by
  intro n l J Jx W hW hJ hJx hY h0
  have hcW : W.cell? ⟨Bs, 0, none⟩ = some v := (hW.cell (p := ⟨Bs, 0, none⟩) hBs).trans hc
  obtain ⟨A, cap, rfl, hA, hcap, hz⟩ := hv
  have HA := Lib.hid hA
  obtain ⟨len, hl⟩ : ∃ n, C.length = n := ⟨_, rfl⟩
  rw [hl] at hcW hmax
  have HL := Lib.hid hl
  clear hA hl hc hcap hz hBs
  refine callsIn_of_wp Try.func51 rfl trivial ?_ rfl
  simp only [Try.ntmps51, List.size_toArray, List.length_cons, List.length_nil, Nat.reduceAdd, Nat.reduceSub, Array.replicate_succ, Array.replicate_zero, List.push_toArray, List.append_toArray, List.nil_append, List.cons_append]
  gi_wp2
  gi_loopw [7] (fun i wr => ∃ k : Nat, k ≤ len ∧ i = .int .i64 k ∧ J (C.take k) wr ∧ Below w.heap.size w wr ∧ W.heap.size ≤ wr.heap.size)
    (fun i _ => len - (intOf i).toNat)
  case atStart => exact ⟨0, Nat.zero_le _, rfl, by simpa using h0, hW, Nat.le_refl _⟩
  case round =>
    obtain ⟨k, hk, rfl, hJs, hnx, hsz⟩ := hrel
    by_cases hlt : k < len
    · obtain ⟨ad, rfl, hab, hca⟩ := (HA.out.below hnx).seeC (by rw [HL.out]; omega)
      have hkC : k < C.length := by rw [HL.out]; exact hlt
      obtain ⟨c0, c1, c2, c3, c4, c5⟩ := hca k hkC
      obtain ⟨x, hx⟩ : ∃ x, C[k] = x := ⟨_, rfl⟩
      rw [hx] at c0 c1 c2 c3 c4 c5
      clear hca
      obtain ⟨s, key, m, b, d, a⟩ := x
      simp only at c0 c1 c2 c3 c4 c5
      have hy0 := hY (n - 1) (C.take k) ⟨s, key, m, b, d, a⟩ (wr.alloc (.cells #[.int .i64 s, .string key, .bool m, .string b, .bool d, .string a] 27)) (hJ.alloc _ hJs) ⟨C.drop (k + 1), by rw [← hx]; simp⟩
      obtain ⟨fn, tmps, assign, body, hy, hR⟩ := hy0
      simp only [Ch.v, chV] at hy
      gi_wp2
      refine ⟨fun h => (by cases h), hR.mono ?_⟩
      have htk : C.take k ++ [⟨s, key, m, b, d, a⟩] = C.take (k + 1) := by rw [← hx]; simp
      rintro e W3 ⟨hkf, (⟨rfl, hJ3, hk3⟩ | ⟨rfl, hJx3⟩)⟩
      · have hsz3 : W.heap.size ≤ W3.heap.size := by have := hkf.size; rw [World.size_alloc] at this; omega
        have hb3 : Below w.heap.size w W3 := (hnx.alloc (Nat.le_trans hW.size hsz) _).trans hk3
        rw [htk] at hJ3
        clear hY hx htk hk3 hkf hy hR hnx hJs c0 c1 c2 c3 c4 c5
        gi_wp2
        go_roundw
        case rel => exact ⟨k + 1, by omega, by simp, hJ3, hb3, hsz3⟩
        case measure => simp [intOf]; omega
      · rw [htk] at hJx3
        clear hY hx htk hy hR
        gi_wp2
        refine bodyPost_ret (results_none rfl _ _ _) rfl ?_
        exact ⟨⟨_, rfl⟩, .inr ⟨C.take (k + 1), List.take_prefix _ _, hJx3⟩⟩
    · obtain rfl : k = len := by omega
      gi_wp2
      go_end0
      exact ⟨⟨_, rfl⟩, .inl (by rw [← HL.out, List.take_length] at hJs; exact hJs)⟩

set_option maxHeartbeats 1000000 in
theorem values_any (A : Option Addr) (n c : Nat) (w : World) :
    Calls Try.prog 36 #[.slice A n c] w fun e w' => e = .returned (.func (.func 51) #[] #[.pointer (some ⟨w.heap.size, 0, none⟩)]) ∧ w' = w.alloc (.cells #[.slice A n c] 39) := by
  go_enter Try.func36, Try.ntmps36
  go_wp2
  go_ret
  exact ⟨rfl, rfl⟩

set_option maxHeartbeats 1000000 in
theorem back_any (A : Option Addr) (n c : Nat) (w : World) :
    Calls Try.prog 39 #[.slice A n c] w fun e w' => e = .returned (.func (.func 52) #[] #[.pointer (some ⟨w.heap.size, 0, none⟩)]) ∧ w' = w.alloc (.cells #[.slice A n c] 39) := by
  go_enter Try.func39, Try.ntmps39
  go_wp2
  go_ret
  exact ⟨rfl, rfl⟩

set_option maxHeartbeats 1000000 in
theorem backward_any (A : Option Addr) (n c : Nat) (w : World) :
    Calls Try.prog 53 #[.slice A n c] w fun e w' => e = .returned (.func (.func 67) #[] #[.pointer (some ⟨w.heap.size, 0, none⟩)]) ∧ w' = w.alloc (.cells #[.slice A n c] 39) := by
  go_enter Try.func53, Try.ntmps53
  go_wp2
  go_ret
  exact ⟨rfl, rfl⟩

/-- What lay below n, and whatever cells lie from B on, but rows of elements of type T, are kept. -/
def KeepsTwo (T : TypeId) (n B : Nat) (W W' : World) : Prop := Below n W W' ∧ ∀ k cs t s, B ≤ k → W.heap[k]? = some (.cells cs t s) → t ≠ T → W'.heap[k]? = some (.cells cs t s)
theorem KeepsTwo.trans {T : TypeId} {n B : Nat} {X Y Z : World} (h : KeepsTwo T n B X Y) (k : KeepsTwo T n B Y Z) : KeepsTwo T n B X Z := ⟨h.1.trans k.1, fun i cs t s hB hi ht => k.2 i cs t s hB (h.2 i cs t s hB hi ht) ht⟩
theorem KeepsTwo.put {T : TypeId} {n B : Nat} {W : World} {l : Nat} {o : Obj} (o' : Obj) (hn : n ≤ l) (h : W.heap[l]? = some o) (ho : o.isCells = false) : KeepsTwo T n B W (W.putObj l o') := by
  have hg := grownBy_putObj' W l o'
  have hl := (Array.getElem?_eq_some_iff.1 h).1
  refine ⟨(Below.refl n W).grown hg (by omega) (fun k e => by cases e; exact hn), fun k cs t s _ hk _ => ?_⟩
  refine (hg.block k (Array.getElem?_eq_some_iff.1 hk).1 (fun e => ?_)).trans hk
  injection e with e
  subst e
  rw [h] at hk
  injection hk with hk
  subst hk
  cases ho
theorem KeepsTwo.of {T : TypeId} {n B : Nat} {W W' : World} (h : Below n W W') (k : KeepsNot T B W W') : KeepsTwo T n B W W' :=
  ⟨h, fun i cs t s hB hi ht => k.same i _ hB hi (fun cs' s' e => by injection e with _ e2 _; exact ht e2)⟩

/-- What comes when one goes back: each with its place. -/
def back2 (C : List Ch) : List (Int × Ch) := (List.range C.length).map fun k => (((C.length - 1 - k : Nat) : Int), C.reverse.getD k ⟨0, noB, false, noB, false, noB⟩)
theorem back2_len (C : List Ch) : (back2 C).length = C.length := by unfold back2; simp
theorem back2_get {C : List Ch} {k j : Nat} (hk : k < C.length) (hj : C.length - 1 - k = j) : ∃ h : j < C.length, ∃ h' : k < (back2 C).length, (back2 C)[k] = ((j : Int), C[j]) := by
  subst hj
  refine ⟨by omega, by rw [back2_len]; exact hk, ?_⟩
  unfold back2
  simp [hk]
theorem back2_turn (C : List Ch) : (back2 C).map (fun x => turnC x.2) = backL C := by
  unfold back2 backL
  rw [List.map_map]
  apply List.ext_getElem
  · simp
  · intro i h1 h2
    simp at h1
    simp [h1]

set_option maxRecDepth 100000 in
set_option maxHeartbeats 2000000 in
theorem backward1_gives {T : TypeId} (hT : T ≠ 39) {v : Value} {C : List Ch} (w0 w : World) (B Bs : Nat) (hv : CV w0 v C) (hmax : C.length ≤ 1000000) (hb0 : Below w0.heap.size w0 w) (hB : B ≤ Bs) (hc : Boxed w Bs 39 v) :
    Gives T Try.prog 67 #[.pointer (some ⟨Bs, 0, none⟩)] (fun x : Int × Ch => #[.int .i64 x.1, x.2.v]) (KeepsTwo T w0.heap.size B) (back2 C) w := by
  intro n l J Jx W hW hJ hJx hY h0
  have hbW : Boxed W Bs 39 v := (hW.block Bs hc.lt).trans hc
  have hb0W : Below w0.heap.size w0 W := hb0.trans (hW.mono hb0.size)
  obtain ⟨A, cap, rfl, hA, hcap, hz⟩ := hv
  have HA := Lib.hid hA
  obtain ⟨len, hl⟩ : ∃ n, C.length = n := ⟨_, rfl⟩
  rw [hl] at hbW hmax
  have HL := Lib.hid hl
  have hcW := hbW.cell
  clear hA hl hc hcap hz hb0 hW
  refine callsIn_of_wp Try.func67 rfl trivial ?_ rfl
  simp only [Try.ntmps67, List.size_toArray, List.length_cons, List.length_nil, Nat.reduceAdd, Nat.reduceSub, Array.replicate_succ, Array.replicate_zero, List.push_toArray, List.append_toArray, List.nil_append, List.cons_append]
  gi_wp2
  gi_loopw [3] (fun i wr => ∃ k : Nat, k ≤ len ∧ i = .int .i64 ((len : Int) - 1 - k) ∧ J ((back2 C).take k) wr ∧ Below w0.heap.size w0 wr ∧ Boxed wr Bs 39 (.slice A len cap) ∧ W.heap.size ≤ wr.heap.size)
    (fun i _ => (intOf i + 1).toNat)
  case atStart => exact ⟨0, Nat.zero_le _, by simp, by simpa using h0, hb0W, hbW, Nat.le_refl _⟩
  case round =>
    obtain ⟨k, hk, rfl, hJs, hnx, hbx, hsz⟩ := hrel
    have hcr := hbx.cell
    by_cases hlt : k < len
    · obtain ⟨j, hj⟩ : ∃ j, len - 1 - k = j := ⟨_, rfl⟩
      have hji : (len : Int) - 1 - k = (j : Int) := by omega
      have hjl : j < len := by omega
      rw [hji]
      obtain ⟨ad, rfl, hab, hca⟩ := (HA.out.below hnx).seeC (by rw [HL.out]; omega)
      obtain ⟨hjC, hkb, hget⟩ := back2_get (C := C) (k := k) (j := j) (by rw [HL.out]; exact hlt) (by rw [HL.out]; exact hj)
      obtain ⟨c0, c1, c2, c3, c4, c5⟩ := hca j hjC
      obtain ⟨x, hx⟩ : ∃ x, C[j] = x := ⟨_, rfl⟩
      rw [hx] at c0 c1 c2 c3 c4 c5 hget
      clear hca
      obtain ⟨s, key, m, b, d, a⟩ := x
      simp only at c0 c1 c2 c3 c4 c5
      have hy0 := hY (n - 1) ((back2 C).take k) ((j : Int), ⟨s, key, m, b, d, a⟩) wr hJs ⟨(back2 C).drop (k + 1), by rw [← hget]; simp⟩
      have htk : (back2 C).take k ++ [((j : Int), ⟨s, key, m, b, d, a⟩)] = (back2 C).take (k + 1) := by rw [← hget]; simp
      obtain ⟨fn, tmps, assign, body, hy, hR⟩ := hy0
      simp only [Ch.v, chV] at hy
      gi_wp2
      refine ⟨fun h => (by cases h), hR.mono ?_⟩
      rintro e W3 ⟨hkf, (⟨rfl, hJ3, hk3⟩ | ⟨rfl, hJx3⟩)⟩
      · have hsz3 : W.heap.size ≤ W3.heap.size := by have := hkf.size; omega
        have hb3 : Below w0.heap.size w0 W3 := hnx.trans hk3.1
        have hx3 : Boxed W3 Bs 39 (.slice (some ad) len cap) := hk3.2 Bs _ _ _ hB hbx hT.symm
        rw [htk] at hJ3
        clear hY hx htk hk3 hkf hy hR hnx hJs c0 c1 c2 c3 c4 c5 hget
        gi_wp2
        go_roundw
        case rel => exact ⟨k + 1, by omega, by first | (simp; done) | (simp; omega), hJ3, hb3, hx3, hsz3⟩
        case measure => simp [intOf]
      · rw [htk] at hJx3
        clear hY hx htk hy hR hget
        gi_wp2
        refine bodyPost_ret (results_none rfl _ _ _) rfl ?_
        exact ⟨⟨_, rfl⟩, .inr ⟨(back2 C).take (k + 1), List.take_prefix _ _, hJx3⟩⟩
    · obtain rfl : k = len := by omega
      rw [show (k : Int) - 1 - k = -1 by omega]
      gi_wp2
      go_end0
      exact ⟨⟨_, rfl⟩, .inl (by rw [← HL.out, ← back2_len C, List.take_length] at hJs; exact hJs)⟩

end Go.Proofs.Ythhbkgeoigdjaaa
