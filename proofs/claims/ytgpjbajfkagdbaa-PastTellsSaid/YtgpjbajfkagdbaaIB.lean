/- The iterators: slices.Values and slices.Backward at changes. -/
import Derived.Test.YtgpjbajfkagdbaaTrn
import Derived.Test.YtgpjbajfkagdbaaRfo
import Derived.Shelf.Abstract
import Derived.Shelf.RegionOpen
import Derived.WalkKit
import Derived.OwnWalkIn
import Derived.TacticsInMore
import Derived.LoopNIn
import Derived.LoopIn
set_option linter.unusedVariables false
set_option linter.unusedSimpArgs false
namespace Go.Proofs.Ytgpjbajfkagdbaa
open Go.RowKit Go.Shelf

attribute [local go_sem] Oper.semAt_some


set_option maxRecDepth 100000 in
set_option maxHeartbeats 2000000 in
theorem values1_gives (T : TypeId) {v : Value} {C : List Ch} (w : World) (Bs : Nat) (hv : CV w v C) (hmax : C.length ≤ 1000000) (hBs : Bs < w.heap.size) (hc : w.cell? ⟨Bs, 0, none⟩ = some v) :
    Gives T Try.prog 58 #[.pointer (some ⟨Bs, 0, none⟩)] (fun c : Ch => #[c.v]) (Below w.heap.size) C w := by
  intro n l J Jx W hW hJ hJx hY h0
  have hcW : W.cell? ⟨Bs, 0, none⟩ = some v := (hW.cell (p := ⟨Bs, 0, none⟩) hBs).trans hc
  obtain ⟨A, cap, rfl, hA, hcap, hz⟩ := hv
  have HA := Lib.hid hA
  obtain ⟨len, hl⟩ : ∃ n, C.length = n := ⟨_, rfl⟩
  rw [hl] at hcW hmax
  have HL := Lib.hid hl
  clear hA hl hc hcap hz hBs
  refine callsIn_of_wp Try.func58 rfl trivial ?_ rfl
  simp only [Try.ntmps58, List.size_toArray, List.length_cons, List.length_nil, Nat.reduceAdd, Nat.reduceSub, Array.replicate_succ, Array.replicate_zero, List.push_toArray, List.append_toArray, List.nil_append, List.cons_append]
  gi_wp2
  gi_loopw [7] (fun i wr => ∃ k : Nat, k ≤ len ∧ i = .int .i64 k ∧ J (C.take k) wr ∧ Below w.heap.size w wr ∧ W.heap.size ≤ wr.heap.size)
    (fun i _ => len - (intOf i).toNat)
  case atStart => exact ⟨0, Nat.zero_le _, rfl, by simpa using h0, hW, Nat.le_refl _⟩
  case round =>
    obtain ⟨k, hk, rfl, hJs, hnx, hsz⟩ := hrel
    by_cases hlt : k < len
    · obtain ⟨ad, rfl, hab, hca⟩ := (HA.out.below hnx).seeC (by rw [HL.out]; omega)
      have hkC : k < C.length := by rw [HL.out]; exact hlt
      obtain ⟨c0, c1, c2, c3, c4, c5⟩ := hca k hkC
      obtain ⟨x, hx⟩ : ∃ x, C[k] = x := ⟨_, rfl⟩
      rw [hx] at c0 c1 c2 c3 c4 c5
      clear hca
      obtain ⟨s, key, m, b, d, a⟩ := x
      simp only at c0 c1 c2 c3 c4 c5
      have hy0 := hY (n - 1) (C.take k) ⟨s, key, m, b, d, a⟩ (wr.alloc (.cells #[.int .i64 s, .string key, .bool m, .string b, .bool d, .string a] 55)) (hJ.alloc _ hJs) ⟨C.drop (k + 1), by rw [← hx]; simp⟩
      obtain ⟨fn, tmps, assign, body, hy, hR⟩ := hy0
      simp only [Ch.v, chV] at hy
      gi_wp2
      refine ⟨fun h => (by cases h), hR.mono ?_⟩
      have htk : C.take k ++ [⟨s, key, m, b, d, a⟩] = C.take (k + 1) := by rw [← hx]; simp
      rintro e W3 ⟨hkf, (⟨rfl, hJ3, hk3⟩ | ⟨rfl, hJx3⟩)⟩
      · have hsz3 : W.heap.size ≤ W3.heap.size := by have := hkf.size; rw [World.size_alloc] at this; omega
        have hb3 : Below w.heap.size w W3 := (hnx.alloc (Nat.le_trans hW.size hsz) _).trans hk3
        rw [htk] at hJ3
        clear hY hx htk hk3 hkf hy hR hnx hJs c0 c1 c2 c3 c4 c5
        gi_wp2
        go_roundw
        case rel => exact ⟨k + 1, by omega, by simp, hJ3, hb3, hsz3⟩
        case measure => simp [intOf]; omega
      · rw [htk] at hJx3
        clear hY hx htk hy hR
        gi_wp2
        refine bodyPost_ret (results_none rfl _ _ _) rfl ?_
        exact ⟨⟨_, rfl⟩, .inr ⟨C.take (k + 1), List.take_prefix _ _, hJx3⟩⟩
    · obtain rfl : k = len := by omega
      gi_wp2
      go_end0
      exact ⟨⟨_, rfl⟩, .inl (by rw [← HL.out, List.take_length] at hJs; exact hJs)⟩

set_option maxHeartbeats 1000000 in
theorem values_any (A : Option Addr) (n c : Nat) (w : World) :
    Calls Try.prog 45 #[.slice A n c] w fun e w' => e = .returned (.func (.func 58) #[] #[.pointer (some ⟨w.heap.size, 0, none⟩)]) ∧ w' = w.alloc (.cells #[.slice A n c] 23) := by
  go_enter Try.func45, Try.ntmps45
  go_wp2
  go_ret
  exact ⟨rfl, rfl⟩

set_option maxHeartbeats 1000000 in
theorem back_any (A : Option Addr) (n c : Nat) (w : World) :
    Calls Try.prog 34 #[.slice A n c] w fun e w' => e = .returned (.func (.func 49) #[] #[.pointer (some ⟨w.heap.size, 0, none⟩)]) ∧ w' = w.alloc (.cells #[.slice A n c] 23) := by
  go_enter Try.func34, Try.ntmps34
  go_wp2
  go_ret
  exact ⟨rfl, rfl⟩

set_option maxHeartbeats 1000000 in
theorem backward_any (A : Option Addr) (n c : Nat) (w : World) :
    Calls Try.prog 50 #[.slice A n c] w fun e w' => e = .returned (.func (.func 66) #[] #[.pointer (some ⟨w.heap.size, 0, none⟩)]) ∧ w' = w.alloc (.cells #[.slice A n c] 23) := by
  go_enter Try.func50, Try.ntmps50
  go_wp2
  go_ret
  exact ⟨rfl, rfl⟩

/-- What lay below n, and whatever cells lie from B on, but rows of elements of type T, are kept. -/
def KeepsTwo (T : TypeId) (n B : Nat) (W W' : World) : Prop := Below n W W' ∧ ∀ k cs t s, B ≤ k → W.heap[k]? = some (.cells cs t s) → t ≠ T → W'.heap[k]? = some (.cells cs t s)
theorem KeepsTwo.trans {T : TypeId} {n B : Nat} {X Y Z : World} (h : KeepsTwo T n B X Y) (k : KeepsTwo T n B Y Z) : KeepsTwo T n B X Z := ⟨h.1.trans k.1, fun i cs t s hB hi ht => k.2 i cs t s hB (h.2 i cs t s hB hi ht) ht⟩
theorem KeepsTwo.put {T : TypeId} {n B : Nat} {W : World} {l : Nat} {o : Obj} (o' : Obj) (hn : n ≤ l) (h : W.heap[l]? = some o) (ho : o.isCells = false) : KeepsTwo T n B W (W.putObj l o') := by
  have hg := grownBy_putObj' W l o'
  have hl := (Array.getElem?_eq_some_iff.1 h).1
  refine ⟨(Below.refl n W).grown hg (by omega) (fun k e => by cases e; exact hn), fun k cs t s _ hk _ => ?_⟩
  refine (hg.block k (Array.getElem?_eq_some_iff.1 hk).1 (fun e => ?_)).trans hk
  injection e with e
  subst e
  rw [h] at hk
  injection hk with hk
  subst hk
  cases ho
theorem KeepsTwo.of {T : TypeId} {n B : Nat} {W W' : World} (h : Below n W W') (k : KeepsNot T B W W') : KeepsTwo T n B W W' :=
  ⟨h, fun i cs t s hB hi ht => k.same i _ hB hi (fun cs' s' e => by injection e with _ e2 _; exact ht e2)⟩

/-- What comes when one goes back: each with its place. -/
def back2 (C : List Ch) : List (Int × Ch) := (List.range C.length).map fun k => (((C.length - 1 - k : Nat) : Int), C.reverse.getD k ⟨0, noB, false, noB, false, noB⟩)
theorem back2_len (C : List Ch) : (back2 C).length = C.length := by unfold back2; simp
theorem back2_get {C : List Ch} {k j : Nat} (hk : k < C.length) (hj : C.length - 1 - k = j) : ∃ h : j < C.length, ∃ h' : k < (back2 C).length, (back2 C)[k] = ((j : Int), C[j]) := by
  subst hj
  refine ⟨by omega, by rw [back2_len]; exact hk, ?_⟩
  unfold back2
  simp [hk]
theorem back2_turn (C : List Ch) : (back2 C).map (fun x => turnC x.2) = backL C := by
  unfold back2 backL
  rw [List.map_map]
  apply List.ext_getElem
  · simp
  · intro i h1 h2
    simp at h1
    simp [h1]

set_option maxRecDepth 100000 in
set_option maxHeartbeats 2000000 in
theorem backward1_gives {T : TypeId} (hT : T ≠ 23) {v : Value} {C : List Ch} (w0 w : World) (B Bs : Nat) (hv : CV w0 v C) (hmax : C.length ≤ 1000000) (hb0 : Below w0.heap.size w0 w) (hB : B ≤ Bs) (hc : Boxed w Bs 23 v) :
    Gives T Try.prog 66 #[.pointer (some ⟨Bs, 0, none⟩)] (fun x : Int × Ch => #[.int .i64 x.1, x.2.v]) (KeepsTwo T w0.heap.size B) (back2 C) w := by
  intro n l J Jx W hW hJ hJx hY h0
  have hbW : Boxed W Bs 23 v := (hW.block Bs hc.lt).trans hc
  have hb0W : Below w0.heap.size w0 W := hb0.trans (hW.mono hb0.size)
  obtain ⟨A, cap, rfl, hA, hcap, hz⟩ := hv
  have HA := Lib.hid hA
  obtain ⟨len, hl⟩ : ∃ n, C.length = n := ⟨_, rfl⟩
  rw [hl] at hbW hmax
  have HL := Lib.hid hl
  have hcW := hbW.cell
  clear hA hl hc hcap hz hb0 hW
  refine callsIn_of_wp Try.func66 rfl trivial ?_ rfl
  simp only [Try.ntmps66, List.size_toArray, List.length_cons, List.length_nil, Nat.reduceAdd, Nat.reduceSub, Array.replicate_succ, Array.replicate_zero, List.push_toArray, List.append_toArray, List.nil_append, List.cons_append]
  gi_wp2
  gi_loopw [3] (fun i wr => ∃ k : Nat, k ≤ len ∧ i = .int .i64 ((len : Int) - 1 - k) ∧ J ((back2 C).take k) wr ∧ Below w0.heap.size w0 wr ∧ Boxed wr Bs 23 (.slice A len cap) ∧ W.heap.size ≤ wr.heap.size)
    (fun i _ => (intOf i + 1).toNat)
  case atStart => exact ⟨0, Nat.zero_le _, by simp, by simpa using h0, hb0W, hbW, Nat.le_refl _⟩
  case round =>
    obtain ⟨k, hk, rfl, hJs, hnx, hbx, hsz⟩ := hrel
    have hcr := hbx.cell
    by_cases hlt : k < len
    · obtain ⟨j, hj⟩ : ∃ j, len - 1 - k = j := ⟨_, rfl⟩
      have hji : (len : Int) - 1 - k = (j : Int) := by omega
      have hjl : j < len := by omega
      rw [hji]
      obtain ⟨ad, rfl, hab, hca⟩ := (HA.out.below hnx).seeC (by rw [HL.out]; omega)
      obtain ⟨hjC, hkb, hget⟩ := back2_get (C := C) (k := k) (j := j) (by rw [HL.out]; exact hlt) (by rw [HL.out]; exact hj)
      obtain ⟨c0, c1, c2, c3, c4, c5⟩ := hca j hjC
      obtain ⟨x, hx⟩ : ∃ x, C[j] = x := ⟨_, rfl⟩
      rw [hx] at c0 c1 c2 c3 c4 c5 hget
      clear hca
      obtain ⟨s, key, m, b, d, a⟩ := x
      simp only at c0 c1 c2 c3 c4 c5
      have hy0 := hY (n - 1) ((back2 C).take k) ((j : Int), ⟨s, key, m, b, d, a⟩) wr hJs ⟨(back2 C).drop (k + 1), by rw [← hget]; simp⟩
      have htk : (back2 C).take k ++ [((j : Int), ⟨s, key, m, b, d, a⟩)] = (back2 C).take (k + 1) := by rw [← hget]; simp
      obtain ⟨fn, tmps, assign, body, hy, hR⟩ := hy0
      simp only [Ch.v, chV] at hy
      gi_wp2
      refine ⟨fun h => (by cases h), hR.mono ?_⟩
      rintro e W3 ⟨hkf, (⟨rfl, hJ3, hk3⟩ | ⟨rfl, hJx3⟩)⟩
      · have hsz3 : W.heap.size ≤ W3.heap.size := by have := hkf.size; omega
        have hb3 : Below w0.heap.size w0 W3 := hnx.trans hk3.1
        have hx3 : Boxed W3 Bs 23 (.slice (some ad) len cap) := hk3.2 Bs _ _ _ hB hbx hT.symm
        rw [htk] at hJ3
        clear hY hx htk hk3 hkf hy hR hnx hJs c0 c1 c2 c3 c4 c5 hget
        gi_wp2
        go_roundw
        case rel => exact ⟨k + 1, by omega, by first | (simp; done) | (simp; omega), hJ3, hb3, hx3, hsz3⟩
        case measure => simp [intOf]
      · rw [htk] at hJx3
        clear hY hx htk hy hR hget
        gi_wp2
        refine bodyPost_ret (results_none rfl _ _ _) rfl ?_
        exact ⟨⟨_, rfl⟩, .inr ⟨(back2 C).take (k + 1), List.take_prefix _ _, hJx3⟩⟩
    · obtain rfl : k = len := by omega
      rw [show (k : Int) - 1 - k = -1 by omega]
      gi_wp2
      go_end0
      exact ⟨⟨_, rfl⟩, .inl (by rw [← HL.out, ← back2_len C, List.take_length] at hJs; exact hJs)⟩

end Go.Proofs.Ytgpjbajfkagdbaa

namespace Go.Proofs.Ytgpjbajfkagdbaa
open Go.RowKit Go.Shelf

attribute [local go_sem] Oper.semAt_some

theorem own_from_on {β : Type} {B : Nat} {J : β → World → Prop} (h : OwnFrom B J) {s : β} {W W' : World} (hs : J s W) (hb : Below W.heap.size W W') : J s W' :=
  h s W W' none hs ⟨hb.os, hb.tape, hb.output, hb.size, fun k hk _ => hb.block k hk⟩ (fun r e => by cases e)
theorem OwnFrom.less {β : Type} {B B' : Nat} {J : β → World → Prop} (h : OwnFrom B J) (hB : B ≤ B') : OwnFrom B' J := fun s W W' row hs hg hr => h s W W' row hs hg (fun r e => ⟨by have := (hr r e).1; omega, (hr r e).2⟩)

def chCells (x : Ch) : Array Value := #[.int .i64 x.seq, .string x.key, .bool x.had, .string x.before, .bool x.has, .string x.after]
theorem box_own {β : Type} {B g : Nat} {t : TypeId} {C : Array Value} (hg : g < B) : OwnFrom B (fun (_ : β) W => Box W g t C) := fun _ X Y row hs hgr hr =>
  (hgr.block g (Array.getElem?_eq_some_iff.1 (show X.heap[g]? = some _ from hs)).1 (fun e => by have := (hr g e.symm).1; omega)).trans hs
theorem box_own' {β : Type} {B g : Nat} {t : TypeId} {C : Array Value} : OwnFrom B (fun (_ : β) W => Box W g t C) := fun _ X Y row hs hgr hr =>
  (hgr.block g (Array.getElem?_eq_some_iff.1 (show X.heap[g]? = some _ from hs)).1 (fun e => by
    obtain ⟨o, ho, hc⟩ := (hr g e.symm).2
    rw [show X.heap[g]? = some _ from hs] at ho
    cases ho; cases hc)).trans hs

theorem below_drew {W w1 : World} (hb : Below W.drew.heap.size W.drew w1) : Below W.heap.size W w1 := ⟨hb.os, hb.tape, hb.output, hb.size, hb.block⟩
theorem yes_no {e : Ending} {p q r : Prop} (h : p ∧ ((e = .returned (.bool true) ∧ q) ∨ (e = .returned (.bool false) ∧ r))) : ∃ b : Bool, e = .returned (.bool b) ∧ p ∧ (b = true → q) ∧ (b = false → r) := by
  obtain ⟨hp, ⟨rfl, hq⟩ | ⟨rfl, hr⟩⟩ := h
  · exact ⟨true, rfl, hp, fun _ => hq, fun h => (by cases h)⟩
  · exact ⟨false, rfl, hp, fun h => (by cases h), fun _ => hr⟩

set_option maxRecDepth 100000 in
set_option maxHeartbeats 2000000 in
theorem back1_gives {v : Value} {C : List Ch} (w : World) (Bs : Nat) (hv : CV w v C) (hmax : C.length ≤ 1000000) (hBs : Bs < w.heap.size) (hc : w.cell? ⟨Bs, 0, none⟩ = some v) :
    Gives 48 Try.prog 49 #[.pointer (some ⟨Bs, 0, none⟩)] (fun c : Ch => #[c.v]) (Below w.heap.size) (backL C) w := by
  intro n l J Jx W hW hJ hJx hY h0
  have hcW : W.cell? ⟨Bs, 0, none⟩ = some v := (hW.cell (p := ⟨Bs, 0, none⟩) hBs).trans hc
  obtain ⟨A, len, cap, rfl⟩ : ∃ A len cap, v = .slice A len cap := by obtain ⟨A, cap, e, _⟩ := hv; exact ⟨A, _, cap, e⟩
  have HV := Lib.hid hv
  have hcY : (W.alloc (.cells #[.func (.yield l) #[] #[]] 73)).cell? ⟨Bs, 0, none⟩ = some (.slice A len cap) := (((Below.refl W.heap.size W).alloc (Nat.le_refl _) _).cell (p := ⟨Bs, 0, none⟩) (lt_of_cell hcW)).trans hcW
  clear hc hv hBs
  obtain ⟨gy, hgy⟩ : ∃ q, q = W.heap.size := ⟨_, rfl⟩
  obtain ⟨WY, hWY⟩ : ∃ q, q = W.alloc (.cells #[.func (.yield l) #[] #[]] 73) := ⟨_, rfl⟩
  obtain ⟨W2, hW2⟩ : ∃ q, q = WY.alloc (.cells #[.slice A len cap] 23) := ⟨_, rfl⟩
  have hbY : Below W.heap.size W W2 := by rw [hW2, hWY]; exact ((Below.refl _ _).alloc (Nat.le_refl _) _).alloc (by simp) _
  have hsz2 : W2.heap.size = gy + 2 := by rw [hW2, hWY, hgy]; simp
  have by2 : Boxed W2 gy 73 (.func (.yield l) #[] #[]) := by rw [hW2]; exact Boxed.alloc (by rw [hWY, hgy]; exact Boxed.new W _ _) _
  have bs2 : Boxed W2 (gy + 1) 23 (.slice A len cap) := by
    have e : gy + 1 = WY.heap.size := by rw [hWY, hgy]; simp
    rw [hW2, e]; exact Boxed.new WY _ _
  have hb02 : Below w.heap.size w W2 := hW.trans (hbY.mono hW.size)
  have hg := backward1_gives (T := 48) (by decide) w W2 gy (gy + 1) HV.out hmax hb02 (by omega) bs2
  refine callsIn_of_wp_marks Try.func49 rfl trivial ?_ rfl
  simp only [Try.ntmps49, List.size_toArray, List.length_cons, List.length_nil, Nat.reduceAdd, Nat.reduceSub, Array.replicate_succ, Array.replicate_zero, List.push_toArray, List.append_toArray, List.nil_append, List.cons_append]
  have h1 : Fence.wide.depth.isSome = true → 1 ≤ n := fun h => by cases h
  gi_wp2_with fail
  refine ⟨trivial, h1, (callsIn_wide.2 (backward_any _ _ _ _)).mono ?_⟩
  rintro e w' ⟨rfl, rfl⟩
  gi_wp2_with fail
  rw [← hgy, ← hWY, ← hW2]
  clear hWY hW2 hcY hcW
  rw [← hgy] at hJ hJx hbY hY
  have HJ := Lib.hid hJ
  have HJX := Lib.hid hJx
  have HY := Lib.hid hY
  have HW2 := Lib.hid hbY
  have hJ2 : J [] W2 := by rw [hgy] at HW2; exact own_from_on hJ h0 HW2.out
  have HGY := Lib.hid (show gy ≤ W2.heap.size from by omega)
  clear hJ hJx hY hbY h0 hgy
  refine range_gives (T := 48) (gf := 66) (lb := #[.pointer (some ⟨gy + 1, 0, none⟩)]) rfl (enters_of Try.func66 (by kernel_rfl) rfl) hg KeepsTwo.trans (fun W' k o o' hk ho hoc => KeepsTwo.put o' (by have := hb02.size; omega) ho hoc) (Below.refl _ _) (fun _ => rfl)
    (fun pre W' => J (pre.map fun x => turnC x.2) W' ∧ Boxed W' gy 73 (.func (.yield l) #[] #[]) ∧ Below w.heap.size w W')
    (fun c pre W' => c = .ret ∧ Jx (pre.map fun x => turnC x.2) W')
    ?_ ?_ ?_
    (fun x a' W' => ∃ Bx, W2.heap.size ≤ Bx ∧ Box W' Bx 55 (chCells x.2) ∧ a' = { tmps := #[.func (.yield l) #[] #[], .pointer (some ⟨Bs, 0, none⟩), .pointer (some ⟨gy, 0, none⟩), undef, .pointer (some ⟨Bx, 0, none⟩), .slice A len cap, .func (.func 66) #[] #[.pointer (some ⟨gy + 1, 0, none⟩)], .int .i64 x.1, x.2.v, undef, undef, undef, undef, undef], defers := [] })
    ?_ ?assign ?body ?done ?stop
  · rintro s X Y row ⟨h1, h2, h3⟩ hgr hr
    exact ⟨HJ.out _ X Y row h1 hgr (fun r e => ⟨by have := (hr r e).1; omega, (hr r e).2⟩), h2.kept hgr (fun e => by have := (hr gy e.symm).1; omega), h3.grown hgr (by have := h3.size; omega) (fun k e => by have := (hr k e).1; have := hb02.size; omega)⟩
  · rintro c s X Y row ⟨h1, h2⟩ hgr hr
    exact ⟨h1, HJX.out _ X Y row h2 hgr (fun r e => ⟨by have := (hr r e).1; omega, (hr r e).2⟩)⟩
  · exact ⟨hJ2, by2, hb02⟩
  · rintro x a' _ X Y row ⟨Bx, h1, h2, h3⟩ hgr hr
    exact ⟨Bx, h1, box_own' (B := W2.heap.size) () X Y row h2 hgr hr, h3⟩
  case assign =>
    rintro l' m pre ⟨i, ⟨s, key, mm, b, d, a⟩⟩ W' K hsz ⟨h1, h2, h3⟩ hpre hK
    simp only [Ch.v, chV]
    gi_wp2
    have hbn : Below W'.heap.size W' (W'.alloc (.cells #[.int .i64 s, .string key, .bool mm, .string b, .bool d, .string a] 55)) := (Below.refl _ _).alloc (Nat.le_refl _) _
    exact hK _ _ (KeepsNot.of_below hbn (Nat.le_refl _)) (KeepsTwo.of (hbn.mono h3.size) (KeepsNot.of_below hbn (Nat.le_refl _))) ⟨own_from_on HJ.out h1 hbn, h2.alloc _, h3.trans (hbn.mono h3.size)⟩ ⟨W'.heap.size, hsz, Box.fresh _ _ _, rfl⟩
  case body =>
    rintro l' m pre ⟨i, ⟨s, key, mm, b, d, a⟩⟩ a' W' hsz ⟨h1, h2, h3⟩ ⟨Bx, hBx, hbx, rfl⟩ hpre
    simp only [Ch.v, chV, chCells] at hbx ⊢
    have hyc := h2.cell
    obtain ⟨c0, c1, c2, c3, c4, c5⟩ : _ ∧ _ ∧ _ ∧ _ ∧ _ ∧ _ := ⟨hbx.cell 0 rfl, hbx.cell 1 rfl, hbx.cell 2 rfl, hbx.cell 3 rfl, hbx.cell 4 rfl, hbx.cell 5 rfl⟩
    have hct := fun w => turned_any s key mm b d a w
    simp only [chV] at hct
    have hm : Try.prog.follows .mixedOrders = true := by kernel_rfl
    have hd1 : (Fence.wide.inRound l').depth.isSome = true → 1 ≤ m := fun h => by cases h
    have hbd : Below W'.heap.size W' W'.drew := (Below.refl _ _).drew
    have hpre' : ∃ r, backL C = (pre.map fun x => turnC x.2) ++ turnC ⟨s, key, mm, b, d, a⟩ :: r := by
      obtain ⟨r, hr⟩ := hpre
      refine ⟨r.map fun x => turnC x.2, ?_⟩
      rw [← back2_turn, hr]
      simp
    have HP := Lib.hid hpre'
    have H1 := Lib.hid (own_from_on HJ.out h1 hbd)
    have H2 := Lib.hid (show Box W'.drew gy 73 #[.func (.yield l) #[] #[]] from h2)
    have H3 := Lib.hid h3
    have HSZ := Lib.hid hsz
    have HBX := Lib.hid hBx
    have HI := Lib.hid h2
    clear h1 h2 h3 hpre hpre' hsz hBx hbx hbd
    gi_wp2_with fail
    gi_region_with_o (first
      | (refine ⟨trivial, hd1, (CallsIn.inRound l' (callsIn_wide.2 (hct _))).mono ?_⟩
         rintro e w1 ⟨rfl, hb1⟩
         obtain ⟨fn, tmps, assign, body, hy, hR⟩ := HY.out (m - 1) (pre.map fun x => turnC x.2) (turnC ⟨s, key, mm, b, d, a⟩) w1 (own_from_on HJ.out H1.out hb1) HP.out
         simp only [Ch.v, chV, turnC] at hy
         have hyc1 := Box.cell (Box.on H2.out hb1) 0 rfl)
      | (refine ⟨hd1, hR.mono ?_⟩
         rintro e W3 hq
         obtain ⟨r, rfl, hp⟩ := yes_no hq
         clear hq))
    all_goals
      have hb2 : Below W'.heap.size W' w1 := below_drew hb1
      have hbx3 := (Box.on H2.out hb1)
      have hk1 : KeepsNot 48 gy W' W3 := (KeepsNot.of_below hb2 (Nat.le_refl _)).trans hp.1
      have htm : (pre ++ [(i, (⟨s, key, mm, b, d, a⟩ : Ch))]).map (fun x => turnC x.2) = (pre.map fun x => turnC x.2) ++ [turnC ⟨s, key, mm, b, d, a⟩] := by simp
      have hbw : Below w.heap.size w w1 := H3.out.trans (hb2.mono H3.out.size)
      clear hR hy hyc1 hb1
      cases r with
      | true =>
        obtain ⟨hj, hb3⟩ := hp.2.1 rfl
        rw [← htm] at hj
        have hb4 : Below w.heap.size W' W3 := (hb2.mono H3.out.size).trans hb3
        have hx3 : Box W3 gy 73 #[.func (.yield l) #[] #[]] := hp.1.same gy _ (Nat.le_refl _) hbx3 (fun cs s e => by injection e with _ e2 _; exact absurd e2 (by decide))
        have HF := Lib.hid (show KeepsNot 48 W2.heap.size W' W3 ∧ KeepsTwo 48 w.heap.size gy W' W3 ∧ _ ∧ Boxed W3 gy 73 (.func (.yield l) #[] #[]) ∧ Below w.heap.size w W3 from ⟨hk1.less HGY.out, KeepsTwo.of hb4 hk1, hj, hx3, hbw.trans hb3⟩)
        clear hp hb2 hbx3 hk1 htm hbw hj hb3 hb4 hx3
        gi_wp2
        exact HF.out
      | false =>
        have hj := hp.2.2 rfl
        rw [← htm] at hj
        have HF := Lib.hid (And.intro (hk1.less HGY.out) hj)
        clear hp hb2 hbx3 hk1 htm hbw hj
        gi_wp2
        exact ⟨HF.out.1, rfl, HF.out.2⟩
  case done =>
    rintro D W' hD ⟨h1, h2, h3⟩ hK
    have hj := HJ.out.putObj (l := D) (.deferred none) h1 (Nat.le_trans HGY.out hD) hK rfl
    rw [back2_turn] at hj
    gi_wp2
    exact ⟨by simp, .inl ⟨_, _, rfl, run_takeDeferred hK, _, results_none rfl _ _ _, ⟨_, rfl⟩, .inl hj⟩⟩
  case stop =>
    rintro D c pre W' hD ⟨r, hr⟩ ⟨rfl, h1⟩ hK
    have hj := HJX.out.putObj (l := D) (.deferred none) h1 (Nat.le_trans HGY.out hD) hK rfl
    gi_wp2
    exact ⟨by simp, .inl ⟨_, _, rfl, run_takeDeferred hK, _, results_none rfl _ _ _, ⟨_, rfl⟩, .inr ⟨_, ⟨r.map fun x => turnC x.2, by rw [← back2_turn, ← hr]; simp⟩, hj⟩⟩⟩

end Go.Proofs.Ytgpjbajfkagdbaa
