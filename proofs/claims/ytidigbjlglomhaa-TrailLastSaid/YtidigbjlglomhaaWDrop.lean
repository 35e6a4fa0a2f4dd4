/- The walks of Clone and Drop. -/
import Derived.Test.YtidigbjlglomhaaWAbove
set_option linter.unusedVariables false
set_option linter.unusedSimpArgs false
namespace Go.Proofs.Ytidigbjlglomhaa
open Go.RowKit

theorem chs_none {w : World} {B : Nat} {l : List Ch} (h : Chs w B none l) : l = [] := by
  rcases l with _ | ⟨t, l⟩
  · rfl
  · obtain ⟨_, e, _⟩ := h (by simp)
    cases e

set_option maxHeartbeats 1000000 in
set_option maxRecDepth 100000 in
theorem clone_ch (A : Option Addr) (c : Nat) (W : List Ch) (w : World) (hA : Chs w w.heap.size A W) (hn : W.length ≤ 1000000) :
    Calls Try.prog 25 #[.slice A W.length c] w fun e w' => ∃ v', e = .returned v' ∧ w'.ownsRow w.heap.size 30 6 v' W.length (W.flatMap Ch.cells) ∧ Below w.heap.size w w' := by
  have q : ∀ (w : World) (a : Option Addr) (n c n' c' : Nat), (binOp .eql 22 (.slice a n c) (.slice none n' c')).run Try.prog w = .ok (.bool a.isNone) w := fun w a n c n' c' => Lib.run_eql_slice_nil w _ _ a n c n' c' Try.underlying22
  rcases A with _ | ad
  · obtain rfl := chs_none hA
    clear hA
    go_enter Try.func25, Try.ntmps25
    go_wp2
    go_ret
    exact ⟨_, rfl, World.ownsRow_nil _ _ _ _, Below.refl _ _⟩
  · obtain ⟨i0, hi0, hz0, hz1, hz2⟩ := info_parts change_info
    have HC := Lib.hid (chs_cells hA)
    generalize hs : W.length = n at *
    have HS := Lib.hid hs
    clear hs hA
    go_enter Try.func25, Try.ntmps25
    go_wp2_with (at_builtin; refine wpList_append_own _ rfl _ _ 22 rfl w.heap.size 30 i0 (.agg #[.int .i64 0, .string ⟨#[]⟩, .bool false, .string ⟨#[]⟩, .bool false, .string ⟨#[]⟩]) 6 72 Try.underlying22 hi0 hz0 hz1 hz2 rfl (by decide) _ _ _ rfl (World.ownsRow_made w #[] 0 (Nat.le_refl _) (Nat.zero_le _) rfl) ad n c (W.flatMap Ch.cells) rfl (by rw [chs_len, HS.out]) ?c1 (chs_plain W) ?c3 ?c4 ?c5 ?_)
    case c1 =>
      intro j u hu
      have h1 := HC.out j u hu
      exact ((Below.refl _ w).alloc (Nat.le_refl _) _).cell (lt_of_cell h1) |>.trans h1
    case c3 => unfold maxLen; omega
    case c4 => omega
    case c5 => simp
    intro v' w1 hown hgrow _
    go_wp2
    go_ret
    exact ⟨v', rfl, by simpa using hown, ((Below.refl _ w).alloc (Nat.le_refl _) _).grown hgrow (by simp) (by intro k hk; simp [Value.ownBlock] at hk; omega)⟩

set_option maxRecDepth 100000 in
set_option maxHeartbeats 4000000 in
theorem drop_v {v : Value} {l : List Ch} (s : Int) {w : World} (h : CV w v l) (hn : l.length ≤ 100000) :
    Calls Try.prog 12 #[v, .int .i64 s] w fun e w' => ∃ v', e = .returned v' ∧ CV w' v' (dropL l s) ∧ Below w.heap.size w w' := by
  have hr := right_v h (by unfold maxLen; omega)
  obtain ⟨R, hR⟩ : ∃ R, trailB l = R := ⟨_, rfl⟩
  rw [hR] at hr
  have HV := Lib.hid h
  have HR := Lib.hid hr
  obtain ⟨A, n, c, rfl⟩ : ∃ A n c, v = .slice A n c := by obtain ⟨A, c, e, _⟩ := h; exact ⟨A, _, c, e⟩
  cases R with
  | false =>
    have HE := Lib.hid (show dropL l s = [] from by unfold dropL; rw [hR]; rfl)
    clear hr hR h
    go_enter Try.func12, Try.ntmps12
    go_wp2_with fail
    refine HR.out.mono ?_
    rintro e w1 ⟨rfl, hb⟩
    go_wp2
    go_ret
    rw [HE.out]
    exact ⟨_, rfl, CV.nil _, hb⟩
  | true =>
    have HE := Lib.hid (show dropL l s = aboveL l s from by unfold dropL; rw [hR]; rfl)
    have HN := Lib.hid (show (aboveL l s).length ≤ 100000 from Nat.le_trans (above_sub l s).length_le hn)
    have HN2 := Lib.hid hn
    clear hr hR h hn
    go_enter Try.func12, Try.ntmps12
    go_wp2_with fail
    refine HR.out.mono ?_
    rintro e w1 ⟨rfl, hb⟩
    have HB1 := Lib.hid hb
    have hab := above_any s w1 (HV.out.on hb) (by have := HN2.out; unfold maxLen; omega)
    obtain ⟨M, hM⟩ : ∃ M, aboveL l s = M := ⟨_, rfl⟩
    rw [hM] at hab
    have HM := Lib.hid hM
    clear hb hM
    go_wp2_with fail
    refine hab.mono ?_
    clear hab
    rintro e w2 ⟨v2, rfl, hv2, hb⟩
    have HB2 := Lib.hid (HB1.out.trans (hb.mono HB1.out.size))
    obtain ⟨A2, c2, rfl, hA2, _⟩ := hv2
    have hcl := clone_ch A2 c2 M w2 hA2 (by rw [← HM.out]; have := HN.out; omega)
    clear hb hA2
    obtain ⟨m, hm⟩ : ∃ m, M.length = m := ⟨_, rfl⟩
    rw [hm] at hcl ⊢
    have HML := Lib.hid hm
    clear hm
    go_wp2_with fail
    refine hcl.mono ?_
    clear hcl
    rintro e w3 ⟨v3, rfl, hown, hb⟩
    have HO := Lib.hid hown
    have HB3 := Lib.hid (HB2.out.trans (hb.mono HB2.out.size))
    clear hown hb
    go_wp2
    go_ret
    rw [HE.out, HM.out]
    exact ⟨_, rfl, CV.own HO.out HML.out.symm, HB3.out⟩

end Go.Proofs.Ytidigbjlglomhaa
