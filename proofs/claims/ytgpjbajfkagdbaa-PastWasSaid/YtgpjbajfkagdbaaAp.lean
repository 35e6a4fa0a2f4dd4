/- Apply's answer is a row of its own; pairs that stand while a row of changes grows. -/
import Derived.Test.YtgpjbajfkagdbaaApp
import Derived.Test.YtgpjbajfkagdbaaPh
import Derived.Test.YtgpjbajfkagdbaaRStep
set_option linter.unusedVariables false
set_option linter.unusedSimpArgs false
namespace Go.Proofs.Ytgpjbajfkagdbaa
open Go.RowKit

set_option maxHeartbeats 2000000 in
set_option maxRecDepth 100000 in
theorem apply_own (A : Option Addr) (c : Nat) (l : List Pr) (B : Option Addr) (d : Nat) (ns : List Nt) (w : World) (hA : Prs w w.heap.size A l) (hB : Nts w w.heap.size B ns) (hc : l.length ≤ c) (hz : A = none → c = 0) (hmax : l.length + ns.length ≤ 1000000) :
    Calls Try.prog 48 #[.slice A l.length c, .slice B ns.length d] w fun e w' => ∃ v, e = .returned (.tuple #[v, .int .i64 (applyE l ns)]) ∧ w'.ownsRow w.heap.size 41 2 v (applyL l ns).length ((applyL l ns).flatMap Pr.cells) ∧ Below w.heap.size w w' := by
  have hr := right_pr A c l w hA (by unfold maxLen; omega)
  have hcl := fun wx (h : Prs wx wx.heap.size A l) => clone_pr A c l wx h (by omega)
  have HA := Lib.hid hA
  have HB := Lib.hid hB
  cases hw : wellL l with
  | false =>
    have e1 : applyL l ns = l ∧ applyE l ns = 1 := by unfold applyL applyE; rw [hw]; exact ⟨rfl, rfl⟩
    rw [e1.1, e1.2]
    rw [hw] at hr
    have HCL := Lib.hid hcl
    clear hA hB hw e1 hcl hz hc
    obtain ⟨n1, hn1⟩ : ∃ n1, l.length = n1 := ⟨_, rfl⟩
    rw [hn1] at hr HCL ⊢
    have HN := Lib.hid hn1
    clear hn1
    go_enter Try.func48, Try.ntmps48
    go_wp2_with fail
    refine hr.mono ?_
    clear hr
    rintro e w1 ⟨rfl, hb1⟩
    have hc1 := HCL.out w1 (HA.out.on hb1)
    go_wp2_with fail
    refine hc1.mono ?_
    clear hc1
    rintro e w2 ⟨v, rfl, hown, hb2⟩
    have HO := Lib.hid hown
    clear hown
    go_wp2
    go_ret2
    have ho := HO.out
    have := hb1.size
    exact ⟨v, rfl, own_more ho (by omega), hb1.trans (hb2.mono hb1.size)⟩
  | true =>
    rw [hw] at hr
    have han := fun wx (h : Nts wx wx.heap.size B ns) => allnotes_any B d ns wx h (by unfold maxLen; omega)
    cases ha : ns.all rightN with
    | false =>
      have e1 : applyL l ns = l ∧ applyE l ns = 1 := by unfold applyL applyE; rw [hw, ha]; exact ⟨rfl, rfl⟩
      rw [e1.1, e1.2]
      rw [ha] at han
      have HCL := Lib.hid hcl
      have HAN := Lib.hid han
      clear hA hB hw e1 hcl ha han hz hc
      obtain ⟨n1, hn1⟩ : ∃ n1, l.length = n1 := ⟨_, rfl⟩
      obtain ⟨n2, hn2⟩ : ∃ n2, ns.length = n2 := ⟨_, rfl⟩
      rw [hn1] at hr HCL ⊢
      rw [hn2] at HAN ⊢
      have HN := Lib.hid hn1
      clear hn1 hn2
      go_enter Try.func48, Try.ntmps48
      go_wp2_with fail
      refine hr.mono ?_
      clear hr
      rintro e w1 ⟨rfl, hb1⟩
      have hc1 := HAN.out w1 (HB.out.on hb1)
      go_wp2_with fail
      refine hc1.mono ?_
      clear hc1
      rintro e w2 ⟨rfl, hb2⟩
      have hb12 := hb1.trans (hb2.mono hb1.size)
      have hc2 := HCL.out w2 (HA.out.on hb12)
      clear hb1 hb2
      go_wp2_with fail
      refine hc2.mono ?_
      clear hc2
      rintro e w3 ⟨v, rfl, hown, hb3⟩
      have HO := Lib.hid hown
      clear hown
      go_wp2
      go_ret2
      have ho := HO.out
      have := hb12.size
      exact ⟨v, rfl, own_more ho (by omega), hb12.trans (hb3.mono hb12.size)⟩
    | true =>
      have e1 : applyL l ns = foldOne l ns ∧ applyE l ns = 0 := by unfold applyL applyE; rw [hw, ha]; exact ⟨rfl, rfl⟩
      rw [e1.1, e1.2]
      rw [ha] at han
      have hbk := fun wx (h : Nts wx wx.heap.size B ns) => bykey_any B d ns wx h (by omega)
      have hmg := fun (B' : Option Addr) (d' : Nat) (s : List Nt) wx (h1 : Prs wx wx.heap.size A l) (h2 : Nts wx wx.heap.size B' s) (h3 : s.length ≤ d') (h4 : s.length = ns.length) (h5 : Rising s) => merged_any A c l B' d' s wx h1 h2 hc h3 hz (by omega) (well_sorted hw) h5
      have HST := Lib.hid (show ∀ s, StEq s ns → foldOne l s = foldOne l ns from fun s h => fold_steq (well_sorted hw) h)
      have HAN := Lib.hid han
      have HBK := Lib.hid hbk
      have HMG := Lib.hid hmg
      clear hA hB hw e1 hcl ha han hbk hmg hz hc
      obtain ⟨n1, hn1⟩ : ∃ n1, l.length = n1 := ⟨_, rfl⟩
      obtain ⟨n2, hn2⟩ : ∃ n2, ns.length = n2 := ⟨_, rfl⟩
      rw [hn1] at hr HMG ⊢
      rw [hn2] at HAN HBK HMG ⊢
      clear hn1 hn2
      go_enter Try.func48, Try.ntmps48
      go_wp2_with fail
      refine hr.mono ?_
      clear hr
      rintro e w1 ⟨rfl, hb1⟩
      have hc1 := HAN.out w1 (HB.out.on hb1)
      go_wp2_with fail
      refine hc1.mono ?_
      clear hc1
      rintro e w2 ⟨rfl, hb2⟩
      have hb12 := hb1.trans (hb2.mono hb1.size)
      have hc2 := HBK.out w2 (HB.out.on hb12)
      clear hb1 hb2
      go_wp2_with fail
      refine hc2.mono ?_
      clear hc2
      rintro e w3 ⟨B', d', s, rfl, hsl, hsr, hst, hsn, hsc, hb3⟩
      have hb13 := hb12.trans (hb3.mono hb12.size)
      have hc3 := HMG.out B' d' s w3 (HA.out.on hb13) hsn hsc hsl hsr
      rw [HST.out s hst] at hc3
      clear hb3 hb12 hsl hsr hst hsn hsc
      obtain ⟨n3, hn3⟩ : ∃ n3, s.length = n3 := ⟨_, rfl⟩
      rw [hn3] at hc3 ⊢
      clear hn3
      go_wp2_with fail
      refine hc3.mono ?_
      clear hc3
      rintro e w4 ⟨v, rfl, hown, hb4⟩
      have HO := Lib.hid hown
      clear hown
      go_wp2
      go_ret2
      have ho := HO.out
      have := hb13.size
      exact ⟨v, rfl, own_more ho (by omega), hb13.trans (hb4.mono hb13.size)⟩

theorem apply_o {v u : Value} {l : List Pr} {ns : List Nt} {w : World} (h : PV w v l) (g : NV w u ns) (hmax : l.length + ns.length ≤ 1000000) :
    Calls Try.prog 48 #[v, u] w fun e w' => ∃ v', e = .returned (.tuple #[v', .int .i64 (applyE l ns)]) ∧ w'.ownsRow w.heap.size 41 2 v' (applyL l ns).length ((applyL l ns).flatMap Pr.cells) ∧ Below w.heap.size w w' := by
  obtain ⟨A, c, rfl, h1, h2, h3⟩ := h
  obtain ⟨B, d, rfl, g1, g2, g3⟩ := g
  exact apply_own A c l B d ns w h1 g1 h2 h3 hmax

theorem own_unlike {w : World} {b b' n n' k k' : Nat} {T U : TypeId} {v u : Value} {xs ys : List Value} (h : w.ownsRow b T k v n xs) (g : w.ownsRow b' U k' u n' ys) (hTU : T ≠ U) : Apart2 v u := by
  rcases g.2 with ⟨rfl, _⟩ | ⟨q, cap, cur, rfl, _, h1, _⟩
  · exact .inl rfl
  · right
    intro e
    rcases h.2 with ⟨rfl, _⟩ | ⟨q', cap', cur', rfl, _, h2, _⟩
    · simp [Value.ownBlock] at e
    · have e1 : q = q' := by simpa [Value.ownBlock] using e
      subst e1
      rw [h1] at h2
      injection h2 with h2
      injection h2 with _ h2 _
      exact hTU h2.symm
/-- Pairs that lie below B, or in a row of their own. -/
structure PX (B : Nat) (w : World) (v : Value) (P : List Pr) : Prop where
  le : B ≤ w.heap.size
  lies : (∃ A c, v = .slice A P.length c ∧ Prs w B A P ∧ P.length ≤ c ∧ (A = none → c = 0)) ∨ w.ownsRow 0 41 2 v P.length (P.flatMap Pr.cells)
theorem PX.pv {B : Nat} {w : World} {v : Value} {P : List Pr} (h : PX B w v P) : PV w v P := by
  rcases h.lies with ⟨A, c, e, h1, h2⟩ | h1
  · exact ⟨A, c, e, h1.more h.le, h2⟩
  · exact PV.own h1 rfl
theorem PX.on {B : Nat} {w w' : World} {v : Value} {P : List Pr} (h : PX B w v P) (hb : Below w.heap.size w w') : PX B w' v P := by
  refine ⟨Nat.le_trans h.le hb.size, ?_⟩
  rcases h.lies with ⟨A, c, e, h1, h2⟩ | h1
  · exact .inl ⟨A, c, e, h1.below (hb.mono h.le), h2⟩
  · exact .inr (own_on h1 hb)
theorem PX.of {w : World} {v : Value} {P : List Pr} (h : PV w v P) : PX w.heap.size w v P := ⟨Nat.le_refl _, .inl h⟩
theorem PX.row {B b : Nat} {w : World} {v : Value} {P : List Pr} (hB : B ≤ w.heap.size) (h : w.ownsRow b 41 2 v P.length (P.flatMap Pr.cells)) : PX B w v P := ⟨hB, .inr (own_more h (Nat.zero_le _))⟩
theorem PX.grown {B n : Nat} {w w' : World} {v u : Value} {P : List Pr} {xs : List Value} (h : PX B w v P) (ho : w.ownsRow B 55 6 u n xs) (hg : w.grownBy w' u.ownBlock) : PX B w' v P := by
  refine ⟨Nat.le_trans h.le hg.size, ?_⟩
  rcases h.lies with ⟨A, c, e, h1, h2⟩ | h1
  · refine .inl ⟨A, c, e, h1.keep fun p hp => ?_, h2⟩
    have := hg.block p.block (Nat.lt_of_lt_of_le hp h.le) (fun e => by have := (own_lt ho e.symm).1; omega)
    unfold World.cell?
    rw [this]
  · exact .inr (own_grown h1 hg (own_unlike h1 ho (by decide)).symm)

end Go.Proofs.Ytgpjbajfkagdbaa
