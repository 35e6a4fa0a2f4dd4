/- The walks of mayMost, New, find, and the library's IndexFunc and Clone at items. -/
import Derived.Test.YthoffknkpogfhaaRw
import Derived.Test.YthoffknkpogfhaaInv
import Derived.Lib.SliceRun
import Derived.Lib.Walk
import Derived.Lib.Hide
set_option linter.unusedVariables false
set_option linter.unusedSimpArgs false
namespace Go.Proofs.Ythoffknkpogfhaa
open Go.RowKit

set_option maxHeartbeats 1000000 in
set_option maxRecDepth 100000 in
theorem clone_it (A : Option Addr) (c : Nat) (W : List It) (w : World) (hA : Its w w.heap.size A W) (hn : W.length ≤ 1000000) :
    Calls Try.prog 28 #[.slice A W.length c] w fun e w' => ∃ v', e = .returned v' ∧ w'.ownsRow w.heap.size 27 3 v' W.length (W.flatMap It.cells) ∧ Below w.heap.size w w' := by
  have q : ∀ (w : World) (a : Option Addr) (n c n' c' : Nat), (binOp .eql 22 (.slice a n c) (.slice none n' c')).run Try.prog w = .ok (.bool a.isNone) w := fun w a n c n' c' => Lib.run_eql_slice_nil w _ _ a n c n' c' Try.underlying22
  rcases A with _ | ad
  · obtain rfl := its_none hA
    clear hA
    go_enter Try.func28, Try.ntmps28
    go_wp2
    go_ret
    exact ⟨_, rfl, World.ownsRow_nil _ _ _ _, Below.refl _ _⟩
  · obtain ⟨i0, hi0, hz0, hz1, hz2⟩ := info_parts item_info
    have HC := Lib.hid (its_cells hA)
    generalize hs : W.length = n at *
    have HS := Lib.hid hs
    clear hs hA
    go_enter Try.func28, Try.ntmps28
    go_wp2_with (at_builtin; refine wpList_append_own _ rfl _ _ 22 rfl w.heap.size 27 i0 (.agg #[.int .i64 0, .string ⟨#[]⟩, .bool false]) 3 32 Try.underlying22 hi0 hz0 hz1 hz2 rfl (by decide) _ _ _ rfl (World.ownsRow_made w #[] 0 (Nat.le_refl _) (Nat.zero_le _) rfl) ad n c (W.flatMap It.cells) rfl (by rw [its_len, HS.out]) ?c1 (its_plain W) ?c3 ?c4 ?c5 ?_)
    case c1 =>
      intro j u hu
      have h1 := HC.out j u hu
      exact ((Below.refl _ w).alloc (Nat.le_refl _) _).cell (lt_of_cell h1) |>.trans h1
    case c3 => unfold maxLen; omega
    case c4 => omega
    case c5 => simp
    intro v' w1 hown hgrow _
    go_wp2
    go_ret
    exact ⟨v', rfl, by simpa using hown, ((Below.refl _ w).alloc (Nat.le_refl _) _).grown hgrow (by simp) (by intro k hk; simp [Value.ownBlock] at hk; omega)⟩

theorem ans_two {w : World} {g : Nat} {T : TypeId} {a0 b0 : Value} (a b : Value) (h : Box w g T #[a0, b0]) :
    ((w.setCell ⟨g, 0, none⟩ a).setCell ⟨g, 1, none⟩ b).cell? ⟨g, 0, none⟩ = some a ∧ ((w.setCell ⟨g, 0, none⟩ a).setCell ⟨g, 1, none⟩ b).cell? ⟨g, 1, none⟩ = some b :=
  ⟨Box.cell ((h.set 0 a).set 1 b) 0 rfl, Box.cell ((h.set 0 a).set 1 b) 1 rfl⟩

def mayM (m : Int) : Bool := decide (1 ≤ m ∧ m ≤ 100)
set_option maxHeartbeats 1000000 in
theorem may_any (m : Int) (w : World) : Calls Try.prog 27 #[.int .i64 m] w fun e w' => e = .returned (.bool (mayM m)) ∧ Below w.heap.size w w' := by
  by_cases h : 1 ≤ m
  · have HR := Lib.hid (show mayM m = decide (m ≤ 100) by unfold mayM; simp [h])
    go_enter Try.func27, Try.ntmps27
    go_wp2
    go_ret
    rw [HR.out]
    exact ⟨rfl, Below.refl _ _⟩
  · have HR := Lib.hid (show mayM m = false by unfold mayM; simp; omega)
    go_enter Try.func27, Try.ntmps27
    go_wp2
    go_ret
    rw [HR.out]
    exact ⟨rfl, Below.refl _ _⟩

set_option maxHeartbeats 1000000 in
theorem new_any (m : Int) (w : World) : Calls Try.prog 21 #[.int .i64 m] w fun e w' => e = .returned (.tuple #[.agg #[.int .i64 (if mayM m then m else 0), .slice none 0 0], .int .i64 (if mayM m then 0 else 1)]) ∧ Below w.heap.size w w' := by
  have hc := fun w => may_any m w
  cases hm : mayM m with
  | true =>
    rw [hm] at hc
    clear hm
    go_enter Try.func21, Try.ntmps21
    go_wp2_with fail
    refine (hc _).mono ?_
    rintro e w1 ⟨rfl, hb1⟩
    obtain ⟨q, hq⟩ : ∃ q, q = w.heap.size := ⟨_, rfl⟩
    have hbx : Box w1 q 24 #[.int .i64 0, .slice none 0 0] := (Box.at_ w _ _ hq).on hb1
    have HB := Lib.hid (Below.trans (Below.refl _ w) (((Below.refl _ w).alloc (Nat.le_refl _) _).trans (hb1.mono (by simp))))
    have HQ := Lib.hid hq
    rw [← hq]
    have c0 := Box.cell hbx 0 rfl
    have c1 := Box.cell hbx 1 rfl
    have f0 := Box.free hbx 0
    have f1 := Box.free hbx 1
    have hp := ans_two (.int .i64 m) (.slice none 0 0) hbx
    clear hb1 hbx hq
    go_wp2
    exact bodyPost_ret (v := .tuple #[.agg #[.int .i64 m, .slice none 0 0], .int .i64 0]) (by simp [results, Try.results21, go_sem, hp.1, hp.2]) rfl ⟨rfl, (HB.out.setCell (by show _ ≤ q; rw [HQ.out]; exact Nat.le_refl _) _).setCell (by show _ ≤ q; rw [HQ.out]; exact Nat.le_refl _) _⟩
  | false =>
    rw [hm] at hc
    clear hm
    go_enter Try.func21, Try.ntmps21
    go_wp2_with fail
    refine (hc _).mono ?_
    rintro e w1 ⟨rfl, hb1⟩
    obtain ⟨q, hq⟩ : ∃ q, q = w.heap.size := ⟨_, rfl⟩
    have hbx : Box w1 q 24 #[.int .i64 0, .slice none 0 0] := (Box.at_ w _ _ hq).on hb1
    have HB := Lib.hid (Below.trans (Below.refl _ w) (((Below.refl _ w).alloc (Nat.le_refl _) _).trans (hb1.mono (by simp))))
    have HQ := Lib.hid hq
    rw [← hq]
    have c0 := Box.cell hbx 0 rfl
    have c1 := Box.cell hbx 1 rfl
    have f0 := Box.free hbx 0
    have f1 := Box.free hbx 1
    have hp := ans_two (.int .i64 0) (.slice none 0 0) hbx
    clear hb1 hbx hq
    go_wp2
    exact bodyPost_ret (v := .tuple #[.agg #[.int .i64 0, .slice none 0 0], .int .i64 1]) (by simp [results, Try.results21, go_sem, hp.1, hp.2]) rfl ⟨rfl, (HB.out.setCell (by show _ ≤ q; rw [HQ.out]; exact Nat.le_refl _) _).setCell (by show _ ≤ q; rw [HQ.out]; exact Nat.le_refl _) _⟩

set_option maxHeartbeats 1000000 in
theorem closure_any (a : Int) (x : It) (B : Nat) (w : World) (hB : w.cell? ⟨B, 0, none⟩ = some (.int .i64 a)) :
    Calls Try.prog 30 #[.agg #[.int .i64 x.a, .string x.t, .bool x.d], .pointer (some ⟨B, 0, none⟩)] w fun e w' => e = .returned (.bool (x.a == a)) ∧ Below w.heap.size w w' := by
  obtain ⟨xa, xt, xd⟩ := x
  have hB1 : (w.alloc (.cells #[.int .i64 xa, .string xt, .bool xd] 27)).cell? ⟨B, 0, none⟩ = some (.int .i64 a) := (((Below.refl _ w).alloc (Nat.le_refl _) _).cell (lt_of_cell hB)).trans hB
  clear hB
  go_enter Try.func30, Try.ntmps30
  go_wp2
  go_ret
  exact ⟨rfl, (Below.refl _ _).alloc (Nat.le_refl _) _⟩

set_option maxHeartbeats 2000000 in
set_option maxRecDepth 100000 in
theorem index_any (A : Option Addr) (c : Nat) (l : List It) (a : Int) (B : Nat) (w : World) (hA : Its w w.heap.size A l) (hn : l.length ≤ maxLen) (hB : w.cell? ⟨B, 0, none⟩ = some (.int .i64 a)) :
    Calls Try.prog 29 #[.slice A l.length c, .func (.func 30) #[] #[.pointer (some ⟨B, 0, none⟩)]] w fun e w' => e = .returned (.int .i64 (idxL l a)) ∧ Below w.heap.size w w' := by
  unfold maxLen at hn
  obtain ⟨Z, hZ⟩ : ∃ Z, Z = idxL l a := ⟨_, rfl⟩
  rw [← hZ]
  have HB := Lib.hid hB
  have HBL := Lib.hid (lt_of_cell hB)
  have HZ := Lib.hid hZ
  obtain ⟨n, hl⟩ : ∃ n, l.length = n := ⟨_, rfl⟩
  rw [hl] at hn ⊢
  have HL := Lib.hid hl
  have HA := Lib.hid hA
  clear hl hA hB hZ
  go_enter Try.func29, Try.ntmps29
  go_wp2
  go_loopw [8] (fun iv wr => ∃ (k : Nat), iv = .int .i64 k ∧ k ≤ n ∧ Hid (∀ i (h : i < l.length), i < k → l[i].a ≠ a) ∧ Below w.heap.size w wr) (fun iv _ => (n - intOf iv).toNat)
  case atStart => exact ⟨0, rfl, by omega, fun i _ h => absurd h (Nat.not_lt_zero _), Below.refl _ _⟩
  case round =>
    obtain ⟨k, rfl, hk, HF, hbr⟩ := hrel
    by_cases hlt : k < n
    · obtain ⟨ad, rfl, hab, hca⟩ := (HA.out.below hbr).seeI (by rw [HL.out]; omega)
      have hkl : k < l.length := by rw [HL.out]; exact hlt
      obtain ⟨c1, c2, c3⟩ := hca k hkl
      obtain ⟨x, hx⟩ : ∃ x, x = l[k]'hkl := ⟨_, rfl⟩
      rw [← hx] at c1 c2 c3
      have HX := Lib.hid hx
      have hbs := hbr.size
      have hc := closure_any a x B wr ((hbr.cell HBL.out).trans HB.out)
      obtain ⟨xa, xt, xd⟩ := x
      simp only at c1 c2 c3 hc
      by_cases hxa : xa = a
      · have HE := Lib.hid (show Z = (k : Int) from by
          rw [HZ.out]
          exact idxL_has hkl (by rw [← HX.out]; exact hxa) (fun i hi => HF.out i (by omega) hi))
        have e : (xa == a) = true := by simp [hxa]
        rw [e] at hc
        clear hx hca e hxa
        go_wp2_with fail
        refine hc.mono ?_
        rintro e w1 ⟨rfl, hb1⟩
        have HB2 := Lib.hid (hbr.trans (hb1.mono hbs))
        clear hb1 c1 c2 c3 hc
        go_wp2
        go_ret
        rw [HE.out]
        exact ⟨rfl, HB2.out⟩
      · have HN := Lib.hid (show ∀ i (h : i < l.length), i < k + 1 → l[i].a ≠ a from fun i h hi => by
          rcases Nat.lt_or_ge i k with h1 | h1
          · exact HF.out i h h1
          · obtain rfl : i = k := by omega
            rw [← HX.out]; exact hxa)
        have e : (xa == a) = false := by simp [hxa]
        rw [e] at hc
        clear hx hca e hxa
        go_wp2_with fail
        refine hc.mono ?_
        rintro e w1 ⟨rfl, hb1⟩
        have hb2 := hbr.trans (hb1.mono hbs)
        clear hb1 c1 c2 c3 hc
        go_wp2
        go_roundw
        case rel => exact ⟨k + 1, by go_num, by omega, HN.out, hb2⟩
        case measure => simp [intOf]; omega
    · have HE := Lib.hid (show Z = -1 from by
        rw [HZ.out]
        exact idxL_none fun i hi => HF.out i hi (by rw [HL.out] at hi; omega))
      go_wp2
      go_ret
      rw [HE.out]
      exact ⟨rfl, hbr⟩

set_option maxHeartbeats 1000000 in
set_option maxRecDepth 100000 in
theorem find_any {v : Value} {l : List It} (a : Int) (w : World) (hv : IV w v l) (hn : l.length ≤ maxLen) :
    Calls Try.prog 24 #[v, .int .i64 a] w fun e w' => e = .returned (.int .i64 (idxL l a)) ∧ Below w.heap.size w w' := by
  obtain ⟨A, c, rfl, hA, _⟩ := hv
  have hc := index_any A c l a w.heap.size (w.alloc (.cells #[.int .i64 a] 3)) ((hA.below ((Below.refl _ w).alloc (Nat.le_refl _) _)).more (by simp)) hn (Box.cell (Box.fresh w _ _) 0 rfl)
  obtain ⟨Z, hZ⟩ : ∃ Z, Z = idxL l a := ⟨_, rfl⟩
  rw [← hZ] at hc ⊢
  clear hA hZ
  go_enter Try.func24, Try.ntmps24
  go_wp2_with fail
  refine hc.mono ?_
  rintro e w1 ⟨rfl, hb1⟩
  have HB := Lib.hid (((Below.refl _ w).alloc (Nat.le_refl _) (.cells #[.int .i64 a] 3)).trans (hb1.mono (by simp)))
  clear hb1
  go_wp2
  go_ret
  exact ⟨rfl, HB.out⟩

end Go.Proofs.Ythoffknkpogfhaa
