/- The changes above a Seq: plain facts. -/
import Derived.Test.YtgpjbajfkagdbaaTl
import Derived.Test.YtgpjbajfkagdbaaWRight
set_option linter.unusedVariables false
set_option linter.unusedSimpArgs false
namespace Go.Proofs.Ytgpjbajfkagdbaa

def aboveL (l : List Ch) (s : Int) : List Ch := l.dropWhile fun c => decide (c.seq ≤ s)
def dropL (l : List Ch) (s : Int) : List Ch := if trailB l then aboveL l s else []
theorem above_eq {l : List Ch} (h : l.Pairwise fun a b => a.seq < b.seq) (s : Int) : aboveL l s = l.filter fun c => decide (s < c.seq) := by
  unfold aboveL
  induction l with
  | nil => rfl
  | cons c l ih =>
    have h1 := List.pairwise_cons.1 h
    rw [List.dropWhile_cons]
    by_cases hc : c.seq ≤ s
    · rw [if_pos (by simpa using hc), List.filter_cons, if_neg (by simpa using hc)]
      exact ih h1.2
    · rw [if_neg (by simpa using hc)]
      symm
      rw [List.filter_eq_self]
      intro d hd
      rcases List.mem_cons.1 hd with rfl | hd
      · simp; omega
      · have := h1.1 d hd
        simp; omega
theorem above_sub (l : List Ch) (s : Int) : (aboveL l s).Sublist l := List.dropWhile_sublist _

end Go.Proofs.Ytgpjbajfkagdbaa

namespace Go.Proofs.Ytgpjbajfkagdbaa
open Go.RowKit

section
variable {α : Type} {cs : α → List Value} {k : Nat} {w : World} {B : Nat} {l : List α}
theorem Lies.tail {ad : Addr} {x : α} (h : Lies cs k w B (some ad) (x :: l)) : Lies cs k w B (some (ad.add k)) l := fun hl => by
  obtain ⟨ad', e, hB, hc⟩ := h (by simp)
  injection e with e
  subst e
  refine ⟨_, rfl, by rw [block_of_add]; exact hB, fun i hi j v hv => ?_⟩
  have h1 := hc (i + 1) (by simpa using hi) j v hv
  rw [show (i + 1) * k = k + i * k from by rw [Nat.add_mul, Nat.one_mul, Nat.add_comm], ← Go.Addr.add_add] at h1
  exact h1
end
theorem chs_tail {w : World} {B c : Nat} {ad : Addr} {x : Ch} {l : List Ch} (h : Chs w B (some ad) (x :: l)) (hc : l.length + 1 ≤ c) : Chs w B (if c = 1 then some ad else some ⟨ad.block, ad.off + 6, none⟩) l := by
  by_cases h1 : c = 1
  · intro hl; omega
  · rw [if_neg h1]; exact h.tail
def sliceLen : Value → Nat | .slice _ n _ => n | _ => 0

set_option maxRecDepth 100000 in
set_option maxHeartbeats 4000000 in
theorem above_any {v : Value} {l : List Ch} (s : Int) (w : World) (h : CV w v l) (hn : l.length ≤ maxLen) :
    Calls Try.prog 36 #[v, .int .i64 s] w fun e w' => ∃ v', e = .returned v' ∧ CV w' v' (aboveL l s) ∧ Below w.heap.size w w' := by
  unfold maxLen at hn
  have HV := Lib.hid h
  obtain ⟨A0, c0, rfl, _⟩ := h
  go_enter Try.func36, Try.ntmps36
  go_wp2
  go_loopw [0] (fun v wr => ∃ L : List Ch, CV wr v L ∧ aboveL L s = aboveL l s ∧ L.length ≤ l.length ∧ Below w.heap.size w wr) (fun v _ => sliceLen v)
  case atStart => exact ⟨l, HV.out, rfl, Nat.le_refl _, Below.refl _ _⟩
  case round =>
    obtain ⟨L, hcv, hE, hle, hbr⟩ := hrel
    have HE := Lib.hid hE
    have HC := Lib.hid hcv
    obtain ⟨A, c, rfl, hA, hlc, hz⟩ := hcv
    clear hE HV
    cases L with
    | nil =>
      rw [List.length_nil] at *
      clear hA hlc hz
      go_wp2
      go_ret
      exact ⟨_, rfl, by rw [← HE.out]; exact HC.out, hbr⟩
    | cons x L =>
      obtain ⟨ad, rfl, hab, hca⟩ := hA.seeC (by simp)
      obtain ⟨c0, _⟩ := hca 0 (by simp)
      simp only [List.getElem_cons_zero, Nat.zero_mul, Addr.add_zero'] at c0
      have HA := Lib.hid hA
      obtain ⟨m, hm⟩ : ∃ m, L.length = m := ⟨_, rfl⟩
      have HM := Lib.hid hm
      have hlc2 : m + 1 ≤ c := by rw [← hm]; simpa using hlc
      have hle2 : m + 1 ≤ l.length := by rw [← hm]; simpa using hle
      rw [show (x :: L).length = m + 1 from by rw [List.length_cons, hm]]
      clear hA hca hm
      by_cases hs : x.seq ≤ s
      · have HS := Lib.hid (show aboveL L s = aboveL l s from by
          rw [← HE.out]; unfold aboveL; rw [List.dropWhile_cons, if_pos (by simpa using hs)])
        go_wp2
        go_roundw
        case rel => exact ⟨L, ⟨_, c - 1, by rw [HM.out], chs_tail HA.out (by rw [HM.out]; exact hlc2), by have := HM.out; omega, by intro h; split at h <;> cases h⟩, HS.out, by have := HM.out; omega, hbr⟩
        case measure => simp [sliceLen]
      · go_wp2
        go_ret
        exact ⟨_, rfl, by
          have e : aboveL l s = x :: L := by rw [← HE.out]; unfold aboveL; rw [List.dropWhile_cons, if_neg (by simpa using hs)]
          have h2 := HC.out
          rw [show (x :: L).length = m + 1 from by rw [List.length_cons, HM.out]] at h2
          rw [e]; exact h2, hbr⟩

end Go.Proofs.Ytgpjbajfkagdbaa

namespace Go.Proofs.Ytgpjbajfkagdbaa
open Go.RowKit

theorem chs_none {w : World} {B : Nat} {l : List Ch} (h : Chs w B none l) : l = [] := by
  rcases l with _ | ⟨t, l⟩
  · rfl
  · obtain ⟨_, e, _⟩ := h (by simp)
    cases e

set_option maxHeartbeats 1000000 in
set_option maxRecDepth 100000 in
theorem clone_ch (A : Option Addr) (c : Nat) (W : List Ch) (w : World) (hA : Chs w w.heap.size A W) (hn : W.length ≤ 1000000) :
    Calls Try.prog 35 #[.slice A W.length c] w fun e w' => ∃ v', e = .returned v' ∧ w'.ownsRow w.heap.size 55 6 v' W.length (W.flatMap Ch.cells) ∧ Below w.heap.size w w' := by
  have q : ∀ (w : World) (a : Option Addr) (n c n' c' : Nat), (binOp .eql 23 (.slice a n c) (.slice none n' c')).run Try.prog w = .ok (.bool a.isNone) w := fun w a n c n' c' => Lib.run_eql_slice_nil w _ _ a n c n' c' Try.underlying23
  rcases A with _ | ad
  · obtain rfl := chs_none hA
    clear hA
    go_enter Try.func35, Try.ntmps35
    go_wp2
    go_ret
    exact ⟨_, rfl, World.ownsRow_nil _ _ _ _, Below.refl _ _⟩
  · obtain ⟨i0, hi0, hz0, hz1, hz2⟩ := info_parts change_info
    have HC := Lib.hid (chs_cells hA)
    generalize hs : W.length = n at *
    have HS := Lib.hid hs
    clear hs hA
    go_enter Try.func35, Try.ntmps35
    go_wp2_with (at_builtin; refine wpList_append_own _ rfl _ _ 23 rfl w.heap.size 55 i0 (.agg #[.int .i64 0, .string ⟨#[]⟩, .bool false, .string ⟨#[]⟩, .bool false, .string ⟨#[]⟩]) 6 72 Try.underlying23 hi0 hz0 hz1 hz2 rfl (by decide) _ _ _ rfl (World.ownsRow_made w #[] 0 (Nat.le_refl _) (Nat.zero_le _) rfl) ad n c (W.flatMap Ch.cells) rfl (by rw [chs_len, HS.out]) ?c1 (chs_plain W) ?c3 ?c4 ?c5 ?_)
    case c1 =>
      intro j u hu
      have h1 := HC.out j u hu
      exact ((Below.refl _ w).alloc (Nat.le_refl _) _).cell (lt_of_cell h1) |>.trans h1
    case c3 => unfold maxLen; omega
    case c4 => omega
    case c5 => simp
    intro v' w1 hown hgrow _
    go_wp2
    go_ret
    exact ⟨v', rfl, by simpa using hown, ((Below.refl _ w).alloc (Nat.le_refl _) _).grown hgrow (by simp) (by intro k hk; simp [Value.ownBlock] at hk; omega)⟩

set_option maxRecDepth 100000 in
set_option maxHeartbeats 4000000 in
theorem drop_v {v : Value} {l : List Ch} (s : Int) {w : World} (h : CV w v l) (hn : l.length ≤ 100000) :
    Calls Try.prog 21 #[v, .int .i64 s] w fun e w' => ∃ v', e = .returned v' ∧ CV w' v' (dropL l s) ∧ Below w.heap.size w w' := by
  have hr := tright_v h (by unfold maxLen; omega)
  obtain ⟨R, hR⟩ : ∃ R, trailB l = R := ⟨_, rfl⟩
  rw [hR] at hr
  have HV := Lib.hid h
  have HR := Lib.hid hr
  obtain ⟨A, n, c, rfl⟩ : ∃ A n c, v = .slice A n c := by obtain ⟨A, c, e, _⟩ := h; exact ⟨A, _, c, e⟩
  cases R with
  | false =>
    have HE := Lib.hid (show dropL l s = [] from by unfold dropL; rw [hR]; rfl)
    clear hr hR h
    go_enter Try.func21, Try.ntmps21
    go_wp2_with fail
    refine HR.out.mono ?_
    rintro e w1 ⟨rfl, hb⟩
    go_wp2
    go_ret
    rw [HE.out]
    exact ⟨_, rfl, CV.nil _, hb⟩
  | true =>
    have HE := Lib.hid (show dropL l s = aboveL l s from by unfold dropL; rw [hR]; rfl)
    have HN := Lib.hid (show (aboveL l s).length ≤ 100000 from Nat.le_trans (above_sub l s).length_le hn)
    have HN2 := Lib.hid hn
    clear hr hR h hn
    go_enter Try.func21, Try.ntmps21
    go_wp2_with fail
    refine HR.out.mono ?_
    rintro e w1 ⟨rfl, hb⟩
    have HB1 := Lib.hid hb
    have hab := above_any s w1 (HV.out.on hb) (by have := HN2.out; unfold maxLen; omega)
    obtain ⟨M, hM⟩ : ∃ M, aboveL l s = M := ⟨_, rfl⟩
    rw [hM] at hab
    have HM := Lib.hid hM
    clear hb hM
    go_wp2_with fail
    refine hab.mono ?_
    clear hab
    rintro e w2 ⟨v2, rfl, hv2, hb⟩
    have HB2 := Lib.hid (HB1.out.trans (hb.mono HB1.out.size))
    obtain ⟨A2, c2, rfl, hA2, _⟩ := hv2
    have hcl := clone_ch A2 c2 M w2 hA2 (by rw [← HM.out]; have := HN.out; omega)
    clear hb hA2
    obtain ⟨m, hm⟩ : ∃ m, M.length = m := ⟨_, rfl⟩
    rw [hm] at hcl ⊢
    have HML := Lib.hid hm
    clear hm
    go_wp2_with fail
    refine hcl.mono ?_
    clear hcl
    rintro e w3 ⟨v3, rfl, hown, hb⟩
    have HO := Lib.hid hown
    have HB3 := Lib.hid (HB2.out.trans (hb.mono HB2.out.size))
    clear hown hb
    go_wp2
    go_ret
    rw [HE.out, HM.out]
    exact ⟨_, rfl, CV.own HO.out HML.out.symm, HB3.out⟩

end Go.Proofs.Ytgpjbajfkagdbaa
