/- The walk of Apply; values that are slices of pairs, and of notes. -/
import Derived.Test.YtgpjbajfkagdbaaMrg
set_option linter.unusedVariables false
set_option linter.unusedSimpArgs false
namespace Go.Proofs.Ytgpjbajfkagdbaa
open Go.RowKit

/-- What Apply answers. -/
def applyL (l : List Pr) (ns : List Nt) : List Pr := if wellL l && ns.all rightN then foldOne l ns else l
def applyE (l : List Pr) (ns : List Nt) : Int := if wellL l && ns.all rightN then 0 else 1

/-- A value that is a slice of these pairs, or notes. -/
def PV (w : World) (v : Value) (l : List Pr) : Prop := ∃ A c, v = .slice A l.length c ∧ Prs w w.heap.size A l ∧ l.length ≤ c ∧ (A = none → c = 0)
def NV (w : World) (v : Value) (l : List Nt) : Prop := ∃ A c, v = .slice A l.length c ∧ Nts w w.heap.size A l ∧ l.length ≤ c ∧ (A = none → c = 0)
theorem PV.on {w w' : World} {v : Value} {l : List Pr} (h : PV w v l) (hb : Below w.heap.size w w') : PV w' v l := by
  obtain ⟨A, c, e, hp, h2⟩ := h
  exact ⟨A, c, e, hp.on hb, h2⟩
theorem NV.on {w w' : World} {v : Value} {l : List Nt} (h : NV w v l) (hb : Below w.heap.size w w') : NV w' v l := by
  obtain ⟨A, c, e, hp, h2⟩ := h
  exact ⟨A, c, e, hp.on hb, h2⟩
theorem PV.push {w : World} {v : Value} {l : List Pr} (h : PV w v l) (o : Obj) : PV (w.alloc o) v l := h.on ((Below.refl _ w).alloc (Nat.le_refl _) o)
theorem NV.push {w : World} {v : Value} {l : List Nt} (h : NV w v l) (o : Obj) : NV (w.alloc o) v l := h.on ((Below.refl _ w).alloc (Nat.le_refl _) o)
theorem PV.nil (w : World) : PV w (.slice none 0 0) [] := ⟨none, 0, rfl, Lies.nil, Nat.le_refl _, fun _ => rfl⟩
theorem NV.nil (w : World) : NV w (.slice none 0 0) [] := ⟨none, 0, rfl, Lies.nil, Nat.le_refl _, fun _ => rfl⟩
theorem PV.own {w : World} {base n : Nat} {v : Value} {l : List Pr} (h : w.ownsRow base 41 2 v n (l.flatMap Pr.cells)) (hn : n = l.length) : PV w v l := by
  subst hn
  obtain ⟨A, c, rfl⟩ := own_shape h
  have h1 := row_cap h
  exact ⟨A, c, rfl, Lies.own Pr.cells2 h, h1.1, h1.2⟩
theorem NV.own {w : World} {base n : Nat} {v : Value} {l : List Nt} (h : w.ownsRow base 48 4 v n (l.flatMap Nt.cells)) (hn : n = l.length) : NV w v l := by
  subst hn
  obtain ⟨A, c, rfl⟩ := own_shape h
  have h1 := row_cap h
  exact ⟨A, c, rfl, Lies.own Nt.cells4 h, h1.1, h1.2⟩
theorem PV.lit {w : World} {C : Array Value} {l : List Pr} {g n : Nat} (hg : g = w.heap.size) (h : C.toList = l.flatMap Pr.cells) (hn : n = l.length) : PV (w.alloc (.cells C 41)) (.slice (some ⟨g, 0, none⟩) n n) l := by
  subst hg hn
  exact ⟨_, _, rfl, (Lies.lit Pr.cells2 h).more (by simp), Nat.le_refl _, fun h => by cases h⟩
theorem NV.lit {w : World} {C : Array Value} {l : List Nt} {g n : Nat} (hg : g = w.heap.size) (h : C.toList = l.flatMap Nt.cells) (hn : n = l.length) : NV (w.alloc (.cells C 48)) (.slice (some ⟨g, 0, none⟩) n n) l := by
  subst hg hn
  exact ⟨_, _, rfl, (Lies.lit Nt.cells4 h).more (by simp), Nat.le_refl _, fun h => by cases h⟩

set_option maxHeartbeats 2000000 in
set_option maxRecDepth 100000 in
theorem apply_any (A : Option Addr) (c : Nat) (l : List Pr) (B : Option Addr) (d : Nat) (ns : List Nt) (w : World) (hA : Prs w w.heap.size A l) (hB : Nts w w.heap.size B ns) (hc : l.length ≤ c) (hz : A = none → c = 0) (hmax : l.length + ns.length ≤ 1000000) :
    Calls Try.prog 48 #[.slice A l.length c, .slice B ns.length d] w fun e w' => ∃ v, e = .returned (.tuple #[v, .int .i64 (applyE l ns)]) ∧ PV w' v (applyL l ns) ∧ Below w.heap.size w w' := by
  have hr := right_pr A c l w hA (by unfold maxLen; omega)
  have hcl := fun wx (h : Prs wx wx.heap.size A l) => clone_pr A c l wx h (by omega)
  have HA := Lib.hid hA
  have HB := Lib.hid hB
  cases hw : wellL l with
  | false =>
    have e1 : applyL l ns = l ∧ applyE l ns = 1 := by unfold applyL applyE; rw [hw]; exact ⟨rfl, rfl⟩
    rw [e1.1, e1.2]
    rw [hw] at hr
    have HCL := Lib.hid hcl
    clear hA hB hw e1 hcl hz hc
    obtain ⟨n1, hn1⟩ : ∃ n1, l.length = n1 := ⟨_, rfl⟩
    rw [hn1] at hr HCL ⊢
    have HN := Lib.hid hn1
    clear hn1
    go_enter Try.func48, Try.ntmps48
    go_wp2_with fail
    refine hr.mono ?_
    clear hr
    rintro e w1 ⟨rfl, hb1⟩
    have hc1 := HCL.out w1 (HA.out.on hb1)
    go_wp2_with fail
    refine hc1.mono ?_
    clear hc1
    rintro e w2 ⟨v, rfl, hown, hb2⟩
    have HO := Lib.hid hown
    clear hown
    go_wp2
    go_ret2
    exact ⟨v, rfl, PV.own HO.out HN.out.symm, hb1.trans (hb2.mono hb1.size)⟩
  | true =>
    rw [hw] at hr
    have han := fun wx (h : Nts wx wx.heap.size B ns) => allnotes_any B d ns wx h (by unfold maxLen; omega)
    cases ha : ns.all rightN with
    | false =>
      have e1 : applyL l ns = l ∧ applyE l ns = 1 := by unfold applyL applyE; rw [hw, ha]; exact ⟨rfl, rfl⟩
      rw [e1.1, e1.2]
      rw [ha] at han
      have HCL := Lib.hid hcl
      have HAN := Lib.hid han
      clear hA hB hw e1 hcl ha han hz hc
      obtain ⟨n1, hn1⟩ : ∃ n1, l.length = n1 := ⟨_, rfl⟩
      obtain ⟨n2, hn2⟩ : ∃ n2, ns.length = n2 := ⟨_, rfl⟩
      rw [hn1] at hr HCL ⊢
      rw [hn2] at HAN ⊢
      have HN := Lib.hid hn1
      clear hn1 hn2
      go_enter Try.func48, Try.ntmps48
      go_wp2_with fail
      refine hr.mono ?_
      clear hr
      rintro e w1 ⟨rfl, hb1⟩
      have hc1 := HAN.out w1 (HB.out.on hb1)
      go_wp2_with fail
      refine hc1.mono ?_
      clear hc1
      rintro e w2 ⟨rfl, hb2⟩
      have hb12 := hb1.trans (hb2.mono hb1.size)
      have hc2 := HCL.out w2 (HA.out.on hb12)
      clear hb1 hb2
      go_wp2_with fail
      refine hc2.mono ?_
      clear hc2
      rintro e w3 ⟨v, rfl, hown, hb3⟩
      have HO := Lib.hid hown
      clear hown
      go_wp2
      go_ret2
      exact ⟨v, rfl, PV.own HO.out HN.out.symm, hb12.trans (hb3.mono hb12.size)⟩
    | true =>
      have e1 : applyL l ns = foldOne l ns ∧ applyE l ns = 0 := by unfold applyL applyE; rw [hw, ha]; exact ⟨rfl, rfl⟩
      rw [e1.1, e1.2]
      rw [ha] at han
      have hbk := fun wx (h : Nts wx wx.heap.size B ns) => bykey_any B d ns wx h (by omega)
      have hmg := fun (B' : Option Addr) (d' : Nat) (s : List Nt) wx (h1 : Prs wx wx.heap.size A l) (h2 : Nts wx wx.heap.size B' s) (h3 : s.length ≤ d') (h4 : s.length = ns.length) (h5 : Rising s) => merged_any A c l B' d' s wx h1 h2 hc h3 hz (by omega) (well_sorted hw) h5
      have HST := Lib.hid (show ∀ s, StEq s ns → foldOne l s = foldOne l ns from fun s h => fold_steq (well_sorted hw) h)
      have HAN := Lib.hid han
      have HBK := Lib.hid hbk
      have HMG := Lib.hid hmg
      clear hA hB hw e1 hcl ha han hbk hmg hz hc
      obtain ⟨n1, hn1⟩ : ∃ n1, l.length = n1 := ⟨_, rfl⟩
      obtain ⟨n2, hn2⟩ : ∃ n2, ns.length = n2 := ⟨_, rfl⟩
      rw [hn1] at hr HMG ⊢
      rw [hn2] at HAN HBK HMG ⊢
      clear hn1 hn2
      go_enter Try.func48, Try.ntmps48
      go_wp2_with fail
      refine hr.mono ?_
      clear hr
      rintro e w1 ⟨rfl, hb1⟩
      have hc1 := HAN.out w1 (HB.out.on hb1)
      go_wp2_with fail
      refine hc1.mono ?_
      clear hc1
      rintro e w2 ⟨rfl, hb2⟩
      have hb12 := hb1.trans (hb2.mono hb1.size)
      have hc2 := HBK.out w2 (HB.out.on hb12)
      clear hb1 hb2
      go_wp2_with fail
      refine hc2.mono ?_
      clear hc2
      rintro e w3 ⟨B', d', s, rfl, hsl, hsr, hst, hsn, hsc, hb3⟩
      have hb13 := hb12.trans (hb3.mono hb12.size)
      have hc3 := HMG.out B' d' s w3 (HA.out.on hb13) hsn hsc hsl hsr
      rw [HST.out s hst] at hc3
      clear hb3 hb12 hsl hsr hst hsn hsc
      obtain ⟨n3, hn3⟩ : ∃ n3, s.length = n3 := ⟨_, rfl⟩
      rw [hn3] at hc3 ⊢
      clear hn3
      go_wp2_with fail
      refine hc3.mono ?_
      clear hc3
      rintro e w4 ⟨v, rfl, hown, hb4⟩
      have HO := Lib.hid hown
      clear hown
      go_wp2
      go_ret2
      exact ⟨v, rfl, PV.own HO.out rfl, hb13.trans (hb4.mono hb13.size)⟩

/-! The contracts at values. -/
theorem apply_v {v u : Value} {l : List Pr} {ns : List Nt} {w : World} (h : PV w v l) (g : NV w u ns) (hmax : l.length + ns.length ≤ 1000000) :
    Calls Try.prog 48 #[v, u] w fun e w' => ∃ v', e = .returned (.tuple #[v', .int .i64 (applyE l ns)]) ∧ PV w' v' (applyL l ns) ∧ Below w.heap.size w w' := by
  obtain ⟨A, c, rfl, h1, h2, h3⟩ := h
  obtain ⟨B, d, rfl, g1, g2, g3⟩ := g
  exact apply_any A c l B d ns w h1 g1 h2 h3 hmax
theorem right_v {v : Value} {l : List Pr} {w : World} (h : PV w v l) (hn : l.length ≤ maxLen) :
    Calls Try.prog 18 #[v] w fun e w' => e = .returned (.bool (wellL l)) ∧ Below w.heap.size w w' := by
  obtain ⟨A, c, rfl, h1, h2, h3⟩ := h
  exact right_pr A c l w h1 hn
theorem get_v {v : Value} {l : List Pr} {w : World} (h : PV w v l) (key : ByteArray) (hn : l.length ≤ 1000000) :
    Calls Try.prog 25 #[v, .string key] w fun e w' => e = .returned (.tuple #[.string (getA l key).1, .bool (getA l key).2]) ∧ Below w.heap.size w w' := by
  obtain ⟨A, c, rfl, h1, h2, h3⟩ := h
  exact get_any A c l key w h1 hn
theorem same_v {v u : Value} {l m : List Pr} {w : World} (h : PV w v l) (g : PV w u m) (hn : l.length ≤ maxLen) :
    Calls Try.prog 16 #[v, u] w fun e w' => e = .returned (.bool (decide (l = m))) ∧ Below w.heap.size w w' := by
  obtain ⟨A, c, rfl, h1, h2, h3⟩ := h
  obtain ⟨B, d, rfl, g1, g2, g3⟩ := g
  exact same_any A B c d l m w h1 g1 hn

end Go.Proofs.Ytgpjbajfkagdbaa
