/- The iterator that goes through what undoes the changes. -/
import Derived.Test.YthhbkgeoigdjaaaIt
set_option linter.unusedVariables false
set_option linter.unusedSimpArgs false
namespace Go.Proofs.Ythhbkgeoigdjaaa
open Go.RowKit Go.Shelf

attribute [local go_sem] Oper.semAt_some

theorem own_from_on {β : Type} {B : Nat} {J : β → World → Prop} (h : OwnFrom B J) {s : β} {W W' : World} (hs : J s W) (hb : Below W.heap.size W W') : J s W' :=
  h s W W' none hs ⟨hb.os, hb.tape, hb.output, hb.size, fun k hk _ => hb.block k hk⟩ (fun r e => by cases e)
theorem OwnFrom.less {β : Type} {B B' : Nat} {J : β → World → Prop} (h : OwnFrom B J) (hB : B ≤ B') : OwnFrom B' J := fun s W W' row hs hg hr => h s W W' row hs hg (fun r e => ⟨by have := (hr r e).1; omega, (hr r e).2⟩)

def chCells (x : Ch) : Array Value := #[.int .i64 x.seq, .string x.key, .bool x.had, .string x.before, .bool x.has, .string x.after]
theorem box_own {β : Type} {B g : Nat} {t : TypeId} {C : Array Value} (hg : g < B) : OwnFrom B (fun (_ : β) W => Box W g t C) := fun _ X Y row hs hgr hr =>
  (hgr.block g (Array.getElem?_eq_some_iff.1 (show X.heap[g]? = some _ from hs)).1 (fun e => by have := (hr g e.symm).1; omega)).trans hs
theorem box_own' {β : Type} {B g : Nat} {t : TypeId} {C : Array Value} : OwnFrom B (fun (_ : β) W => Box W g t C) := fun _ X Y row hs hgr hr =>
  (hgr.block g (Array.getElem?_eq_some_iff.1 (show X.heap[g]? = some _ from hs)).1 (fun e => by
    obtain ⟨o, ho, hc⟩ := (hr g e.symm).2
    rw [show X.heap[g]? = some _ from hs] at ho
    cases ho; cases hc)).trans hs

theorem below_drew {W w1 : World} (hb : Below W.drew.heap.size W.drew w1) : Below W.heap.size W w1 := ⟨hb.os, hb.tape, hb.output, hb.size, hb.block⟩
theorem yes_no {e : Ending} {p q r : Prop} (h : p ∧ ((e = .returned (.bool true) ∧ q) ∨ (e = .returned (.bool false) ∧ r))) : ∃ b : Bool, e = .returned (.bool b) ∧ p ∧ (b = true → q) ∧ (b = false → r) := by
  obtain ⟨hp, ⟨rfl, hq⟩ | ⟨rfl, hr⟩⟩ := h
  · exact ⟨true, rfl, hp, fun _ => hq, fun h => (by cases h)⟩
  · exact ⟨false, rfl, hp, fun h => (by cases h), fun _ => hr⟩

set_option maxRecDepth 100000 in
set_option maxHeartbeats 2000000 in
theorem back1_gives {v : Value} {C : List Ch} (w : World) (Bs : Nat) (hv : CV w v C) (hmax : C.length ≤ 1000000) (hBs : Bs < w.heap.size) (hc : w.cell? ⟨Bs, 0, none⟩ = some v) :
    Gives 25 Try.prog 52 #[.pointer (some ⟨Bs, 0, none⟩)] (fun c : Ch => #[c.v]) (Below w.heap.size) (backL C) w := by
  intro n l J Jx W hW hJ hJx hY h0
  have hcW : W.cell? ⟨Bs, 0, none⟩ = some v := (hW.cell (p := ⟨Bs, 0, none⟩) hBs).trans hc
  obtain ⟨A, len, cap, rfl⟩ : ∃ A len cap, v = .slice A len cap := by obtain ⟨A, cap, e, _⟩ := hv; exact ⟨A, _, cap, e⟩
  have HV := Lib.hid hv
  have hcY : (W.alloc (.cells #[.func (.yield l) #[] #[]] 62)).cell? ⟨Bs, 0, none⟩ = some (.slice A len cap) := (((Below.refl W.heap.size W).alloc (Nat.le_refl _) _).cell (p := ⟨Bs, 0, none⟩) (lt_of_cell hcW)).trans hcW
  clear hc hv hBs
  obtain ⟨gy, hgy⟩ : ∃ q, q = W.heap.size := ⟨_, rfl⟩
  obtain ⟨WY, hWY⟩ : ∃ q, q = W.alloc (.cells #[.func (.yield l) #[] #[]] 62) := ⟨_, rfl⟩
  obtain ⟨W2, hW2⟩ : ∃ q, q = WY.alloc (.cells #[.slice A len cap] 39) := ⟨_, rfl⟩
  have hbY : Below W.heap.size W W2 := by rw [hW2, hWY]; exact ((Below.refl _ _).alloc (Nat.le_refl _) _).alloc (by simp) _
  have hsz2 : W2.heap.size = gy + 2 := by rw [hW2, hWY, hgy]; simp
  have by2 : Boxed W2 gy 62 (.func (.yield l) #[] #[]) := by rw [hW2]; exact Boxed.alloc (by rw [hWY, hgy]; exact Boxed.new W _ _) _
  have bs2 : Boxed W2 (gy + 1) 39 (.slice A len cap) := by
    have e : gy + 1 = WY.heap.size := by rw [hWY, hgy]; simp
    rw [hW2, e]; exact Boxed.new WY _ _
  have hb02 : Below w.heap.size w W2 := hW.trans (hbY.mono hW.size)
  have hg := backward1_gives (T := 25) (by decide) w W2 gy (gy + 1) HV.out hmax hb02 (by omega) bs2
  refine callsIn_of_wp_marks Try.func52 rfl trivial ?_ rfl
  simp only [Try.ntmps52, List.size_toArray, List.length_cons, List.length_nil, Nat.reduceAdd, Nat.reduceSub, Array.replicate_succ, Array.replicate_zero, List.push_toArray, List.append_toArray, List.nil_append, List.cons_append]
  have h1 : Fence.wide.depth.isSome = true → 1 ≤ n := fun h => by cases h
  gi_wp2_with fail
  refine ⟨trivial, h1, (callsIn_wide.2 (backward_any _ _ _ _)).mono ?_⟩
  rintro e w' ⟨rfl, rfl⟩
  gi_wp2_with fail
  rw [← hgy, ← hWY, ← hW2]
  clear hWY hW2 hcY hcW
  rw [← hgy] at hJ hJx hbY hY
  have HJ := Lib.hid hJ
  have HJX := Lib.hid hJx
  have HY := Lib.hid hY
  have HW2 := Lib.hid hbY
  have hJ2 : J [] W2 := by rw [hgy] at HW2; exact own_from_on hJ h0 HW2.out
  have HGY := Lib.hid (show gy ≤ W2.heap.size from by omega)
  clear hJ hJx hY hbY h0 hgy
  refine range_gives (T := 25) (gf := 67) (lb := #[.pointer (some ⟨gy + 1, 0, none⟩)]) rfl (enters_of Try.func67 (by kernel_rfl) rfl) hg KeepsTwo.trans (fun W' k o o' hk ho hoc => KeepsTwo.put o' (by have := hb02.size; omega) ho hoc) (Below.refl _ _) (fun _ => rfl)
    (fun pre W' => J (pre.map fun x => turnC x.2) W' ∧ Boxed W' gy 62 (.func (.yield l) #[] #[]) ∧ Below w.heap.size w W')
    (fun c pre W' => c = .ret ∧ Jx (pre.map fun x => turnC x.2) W')
    ?_ ?_ ?_
    (fun x a' W' => ∃ Bx, W2.heap.size ≤ Bx ∧ Box W' Bx 27 (chCells x.2) ∧ a' = { tmps := #[.func (.yield l) #[] #[], .pointer (some ⟨Bs, 0, none⟩), .pointer (some ⟨gy, 0, none⟩), undef, .pointer (some ⟨Bx, 0, none⟩), .slice A len cap, .func (.func 67) #[] #[.pointer (some ⟨gy + 1, 0, none⟩)], .int .i64 x.1, x.2.v, undef, undef, undef, undef, undef], defers := [] })
    ?_ ?assign ?body ?done ?stop
  · rintro s X Y row ⟨h1, h2, h3⟩ hgr hr
    exact ⟨HJ.out _ X Y row h1 hgr (fun r e => ⟨by have := (hr r e).1; omega, (hr r e).2⟩), h2.kept hgr (fun e => by have := (hr gy e.symm).1; omega), h3.grown hgr (by have := h3.size; omega) (fun k e => by have := (hr k e).1; have := hb02.size; omega)⟩
  · rintro c s X Y row ⟨h1, h2⟩ hgr hr
    exact ⟨h1, HJX.out _ X Y row h2 hgr (fun r e => ⟨by have := (hr r e).1; omega, (hr r e).2⟩)⟩
  · exact ⟨hJ2, by2, hb02⟩
  · rintro x a' _ X Y row ⟨Bx, h1, h2, h3⟩ hgr hr
    exact ⟨Bx, h1, box_own' (B := W2.heap.size) () X Y row h2 hgr hr, h3⟩
  case assign =>
    rintro l' m pre ⟨i, ⟨s, key, mm, b, d, a⟩⟩ W' K hsz ⟨h1, h2, h3⟩ hpre hK
    simp only [Ch.v, chV]
    gi_wp2
    have hbn : Below W'.heap.size W' (W'.alloc (.cells #[.int .i64 s, .string key, .bool mm, .string b, .bool d, .string a] 27)) := (Below.refl _ _).alloc (Nat.le_refl _) _
    exact hK _ _ (KeepsNot.of_below hbn (Nat.le_refl _)) (KeepsTwo.of (hbn.mono h3.size) (KeepsNot.of_below hbn (Nat.le_refl _))) ⟨own_from_on HJ.out h1 hbn, h2.alloc _, h3.trans (hbn.mono h3.size)⟩ ⟨W'.heap.size, hsz, Box.fresh _ _ _, rfl⟩
  case body =>
    rintro l' m pre ⟨i, ⟨s, key, mm, b, d, a⟩⟩ a' W' hsz ⟨h1, h2, h3⟩ ⟨Bx, hBx, hbx, rfl⟩ hpre
    simp only [Ch.v, chV, chCells] at hbx ⊢
    have hyc := h2.cell
    obtain ⟨c0, c1, c2, c3, c4, c5⟩ : _ ∧ _ ∧ _ ∧ _ ∧ _ ∧ _ := ⟨hbx.cell 0 rfl, hbx.cell 1 rfl, hbx.cell 2 rfl, hbx.cell 3 rfl, hbx.cell 4 rfl, hbx.cell 5 rfl⟩
    have hct := fun w => turned_any s key mm b d a w
    simp only [chV] at hct
    have hm : Try.prog.follows .mixedOrders = true := by kernel_rfl
    have hd1 : (Fence.wide.inRound l').depth.isSome = true → 1 ≤ m := fun h => by cases h
    have hbd : Below W'.heap.size W' W'.drew := (Below.refl _ _).drew
    have hpre' : ∃ r, backL C = (pre.map fun x => turnC x.2) ++ turnC ⟨s, key, mm, b, d, a⟩ :: r := by
      obtain ⟨r, hr⟩ := hpre
      refine ⟨r.map fun x => turnC x.2, ?_⟩
      rw [← back2_turn, hr]
      simp
    have HP := Lib.hid hpre'
    have H1 := Lib.hid (own_from_on HJ.out h1 hbd)
    have H2 := Lib.hid (show Box W'.drew gy 62 #[.func (.yield l) #[] #[]] from h2)
    have H3 := Lib.hid h3
    have HSZ := Lib.hid hsz
    have HBX := Lib.hid hBx
    have HI := Lib.hid h2
    clear h1 h2 h3 hpre hpre' hsz hBx hbx hbd
    gi_wp2_with fail
    gi_region_with_o (first
      | (refine ⟨trivial, hd1, (CallsIn.inRound l' (callsIn_wide.2 (hct _))).mono ?_⟩
         rintro e w1 ⟨rfl, hb1⟩
         obtain ⟨fn, tmps, assign, body, hy, hR⟩ := HY.out (m - 1) (pre.map fun x => turnC x.2) (turnC ⟨s, key, mm, b, d, a⟩) w1 (own_from_on HJ.out H1.out hb1) HP.out
         simp only [Ch.v, chV, turnC] at hy
         have hyc1 := Box.cell (Box.on H2.out hb1) 0 rfl)
      | (refine ⟨hd1, hR.mono ?_⟩
         rintro e W3 hq
         obtain ⟨r, rfl, hp⟩ := yes_no hq
         clear hq))
    all_goals
      have hb2 : Below W'.heap.size W' w1 := below_drew hb1
      have hbx3 := (Box.on H2.out hb1)
      have hk1 : KeepsNot 25 gy W' W3 := (KeepsNot.of_below hb2 (Nat.le_refl _)).trans hp.1
      have htm : (pre ++ [(i, (⟨s, key, mm, b, d, a⟩ : Ch))]).map (fun x => turnC x.2) = (pre.map fun x => turnC x.2) ++ [turnC ⟨s, key, mm, b, d, a⟩] := by simp
      have hbw : Below w.heap.size w w1 := H3.out.trans (hb2.mono H3.out.size)
      clear hR hy hyc1 hb1
      cases r with
      | true =>
        obtain ⟨hj, hb3⟩ := hp.2.1 rfl
        rw [← htm] at hj
        have hb4 : Below w.heap.size W' W3 := (hb2.mono H3.out.size).trans hb3
        have hx3 : Box W3 gy 62 #[.func (.yield l) #[] #[]] := hp.1.same gy _ (Nat.le_refl _) hbx3 (fun cs s e => by injection e with _ e2 _; exact absurd e2 (by decide))
        have HF := Lib.hid (show KeepsNot 25 W2.heap.size W' W3 ∧ KeepsTwo 25 w.heap.size gy W' W3 ∧ _ ∧ Boxed W3 gy 62 (.func (.yield l) #[] #[]) ∧ Below w.heap.size w W3 from ⟨hk1.less HGY.out, KeepsTwo.of hb4 hk1, hj, hx3, hbw.trans hb3⟩)
        clear hp hb2 hbx3 hk1 htm hbw hj hb3 hb4 hx3
        gi_wp2
        exact HF.out
      | false =>
        have hj := hp.2.2 rfl
        rw [← htm] at hj
        have HF := Lib.hid (And.intro (hk1.less HGY.out) hj)
        clear hp hb2 hbx3 hk1 htm hbw hj
        gi_wp2
        exact ⟨HF.out.1, rfl, HF.out.2⟩
  case done =>
    rintro D W' hD ⟨h1, h2, h3⟩ hK
    have hj := HJ.out.putObj (l := D) (.deferred none) h1 (Nat.le_trans HGY.out hD) hK rfl
    rw [back2_turn] at hj
    gi_wp2
    exact ⟨by simp, .inl ⟨_, _, rfl, run_takeDeferred hK, _, results_none rfl _ _ _, ⟨_, rfl⟩, .inl hj⟩⟩
  case stop =>
    rintro D c pre W' hD ⟨r, hr⟩ ⟨rfl, h1⟩ hK
    have hj := HJX.out.putObj (l := D) (.deferred none) h1 (Nat.le_trans HGY.out hD) hK rfl
    gi_wp2
    exact ⟨by simp, .inl ⟨_, _, rfl, run_takeDeferred hK, _, results_none rfl _ _ _, ⟨_, rfl⟩, .inr ⟨_, ⟨r.map fun x => turnC x.2, by rw [← back2_turn, ← hr]; simp⟩, hj⟩⟩⟩

end Go.Proofs.Ythhbkgeoigdjaaa
