/- The walk of Push. -/
import Derived.Test.YteddjmkoleclpaaQJoin
import Derived.Test.YteddjmkoleclpaaQA
import Derived.Test.YteddjmkoleclpaaSB
import Derived.Test.YteddjmkoleclpaaPF2
set_option linter.unusedVariables false
set_option linter.unusedSimpArgs false
namespace Go.Proofs.Yteddjmkoleclpaa
open Go.RowKit Go.Shelf Go.Lib Go.Sort

theorem sort_v {w : World} {base n : Nat} {v : Value} {L : List Nt} (hb : base ≤ w.heap.size) (hown : w.ownsRow base 52 4 v n (L.flatMap Nt.cells)) (hL : L.length = n) (hn : n ≤ 1000000) :
    Calls Try.prog 38 #[v, .func (.func 39) #[] #[]] w fun e w' =>
      e = .returned (.tuple #[]) ∧ ∃ (A : Option Addr) (c : Nat) (s : List Nt), v = .slice A n c ∧ s.length = n ∧ Rising s ∧ StEq s L ∧ Nts w' w'.heap.size A s ∧ Below base w w' := by
  by_cases h0 : n = 0
  · subst h0
    obtain rfl := List.length_eq_zero_iff.1 hL
    obtain ⟨A, c, rfl⟩ := own_shape hown
    refine (sortstable_nilM A c w).mono ?_
    rintro e w' ⟨rfl, rfl⟩
    exact ⟨rfl, A, c, [], rfl, rfl, .nil, StEq.rfl' _, Lies.nil, Below.refl _ _⟩
  · obtain ⟨g, cap, rfl⟩ := Joins.ownsRow_form hown (by omega)
    have hge := hown.lt g rfl
    have hH : HoldsK Nt.cells 4 w g 0 L.toArray := holdsN (by rw [hL]; exact hown)
    have hc := sortstable_anyM hH hge.2 (by simp [hL]; exact hn) cap
    rw [List.size_toArray, hL] at hc
    refine hc.mono ?_
    rintro e w' ⟨rfl, d, hd, hr, hst, hw⟩
    have HK := hw.holds hge.2 hH (by rw [hd]; simp [hL])
    have hgl := hw.lt hge.2
    refine ⟨rfl, some ⟨g, 0, none⟩, cap, d.toList, rfl, by simpa using hd, hr, by simpa using hst, liesN (by simpa using HK) hgl, ?_⟩
    obtain ⟨k, os, rfl⟩ := hw
    exact below_sort (Below.refl _ _) hge.1 hb

set_option maxHeartbeats 4000000 in
set_option maxRecDepth 100000 in
theorem ppush_any (A : Option Addr) (c : Nat) (l : List Nt) (B : Option Addr) (d : Nat) (ns : List Nt) (w : World) (hA : Nts w w.heap.size A l) (hB : Nts w w.heap.size B ns) (zA : A = none → c = 0) (zB : B = none → d = 0) (hn : l.length + ns.length ≤ 100000) :
    Calls Try.prog 22 #[.slice A l.length c, .slice B ns.length d] w fun e w' => ∃ v', e = .returned (.tuple #[v', .int .i64 (pushE l ns)]) ∧ NV w' v' (pushA l ns) ∧ Below w.heap.size w w' := by
  have hr := pright_any A c l w hA (by unfold maxLen; omega)
  have HAL := Lib.hid (fun wx (h : Nts wx wx.heap.size B ns) => pallnotes_any B d ns wx h (by unfold maxLen; omega))
  have HCL := Lib.hid (fun wx (h : Nts wx wx.heap.size A l) => clone_nt A c l wx h (by omega))
  have HA := Lib.hid hA
  have HB := Lib.hid hB
  cases hwl : wellN l with
  | false =>
    have e1 : pushE l ns = 1 := by unfold pushE; rw [hwl]; rfl
    have e2 : pushA l ns = l := by unfold pushA; rw [hwl]; rfl
    rw [e1, e2]
    rw [hwl] at hr
    clear hA hB hwl e1 e2 HAL HB
    obtain ⟨n, hl⟩ : ∃ n, l.length = n := ⟨_, rfl⟩
    obtain ⟨q, hq⟩ : ∃ q, ns.length = q := ⟨_, rfl⟩
    rw [hl] at hr HCL ⊢
    rw [hq]
    have HL := Lib.hid hl
    clear hl hq hn
    go_enter Try.func22, Try.ntmps22
    go_wp2_with fail
    refine hr.mono ?_
    clear hr
    rintro e w2 ⟨rfl, hb2⟩
    have hc2 := HCL.out w2 (HA.out.on hb2)
    go_wp2_with fail
    refine hc2.mono ?_
    clear hc2
    rintro e w3 ⟨v', rfl, hown, hb3⟩
    have hb4 := hb2.trans (hb3.mono hb2.size)
    have HO := Lib.hid hown
    clear hb2 hb3 hown
    go_wp2
    go_ret2
    exact ⟨_, rfl, NV.own HO.out HL.out.symm, hb4⟩
  | true =>
  rw [hwl] at hr
  cases hall : ns.all rightN with
  | false =>
    have e1 : pushE l ns = 1 := by unfold pushE; rw [hwl, hall]; rfl
    have e2 : pushA l ns = l := by unfold pushA; rw [hwl, hall]; rfl
    rw [e1, e2]
    rw [hall] at HAL
    clear hA hB hwl e1 e2 hall
    obtain ⟨n, hl⟩ : ∃ n, l.length = n := ⟨_, rfl⟩
    obtain ⟨q, hq⟩ : ∃ q, ns.length = q := ⟨_, rfl⟩
    rw [hl] at hr HCL ⊢
    rw [hq] at HAL ⊢
    have HL := Lib.hid hl
    clear hl hq hn
    go_enter Try.func22, Try.ntmps22
    go_wp2_with fail
    refine hr.mono ?_
    clear hr
    rintro e w1 ⟨rfl, hb1⟩
    have ha := HAL.out w1 (HB.out.on hb1)
    go_wp2_with fail
    refine ha.mono ?_
    clear ha
    rintro e w2 ⟨rfl, hb2⟩
    have hb2 := hb1.trans (hb2.mono hb1.size)
    have hc2 := HCL.out w2 (HA.out.on hb2)
    clear hb1
    go_wp2_with fail
    refine hc2.mono ?_
    clear hc2
    rintro e w3 ⟨v', rfl, hown, hb3⟩
    have hb4 := hb2.trans (hb3.mono hb2.size)
    have HO := Lib.hid hown
    clear hb2 hb3 hown
    go_wp2
    go_ret2
    exact ⟨_, rfl, NV.own HO.out HL.out.symm, hb4⟩
  | true =>
    have e1 : pushE l ns = 0 := by unfold pushE; rw [hwl, hall]; rfl
    have e2 : pushA l ns = pushL l ns := by unfold pushA; rw [hwl, hall]; rfl
    rw [e1, e2]
    rw [hall] at HAL
    have HSL := Lib.hid (wellN_sorted hwl)
    have HCC := Lib.hid (fun (wx : World) (g : Nat) (h1 : Nts wx wx.heap.size A l) (h2 : Nts wx wx.heap.size B ns) (hbx : Box wx g 27 #[.slice A l.length c, .slice B ns.length d]) => concat_two A B c d g 27 l ns wx h1 h2 zA zB hbx (by omega))
    have HSO := Lib.hid (fun (wx : World) (base : Nat) (v : Value) (hb : base ≤ wx.heap.size) (h : wx.ownsRow base 52 4 v (l.length + ns.length) ((l ++ ns).flatMap Nt.cells)) => sort_v hb h (by simp) (by omega))
    have HJO := Lib.hid (fun (wx : World) (A' : Option Addr) (c' : Nat) (s : List Nt) (h : Nts wx wx.heap.size A' s) (hr : Rising s) (hs : s.length = l.length + ns.length) => joined_any A' c' s wx h hr (by omega))
    clear hA hB hwl e1 e2 hall HCL zA zB
    obtain ⟨n, hl⟩ : ∃ n, l.length = n := ⟨_, rfl⟩
    obtain ⟨q, hq⟩ : ∃ q, ns.length = q := ⟨_, rfl⟩
    rw [hl] at hr HCC HSO HJO ⊢
    rw [hq] at HAL HCC HSO HJO ⊢
    clear hl hq hn
    go_enter Try.func22, Try.ntmps22
    go_wp2_with fail
    refine hr.mono ?_
    clear hr
    rintro e w1 ⟨rfl, hb1⟩
    have ha := HAL.out w1 (HB.out.on hb1)
    go_wp2_with fail
    refine ha.mono ?_
    clear ha
    rintro e w2 ⟨rfl, hb2⟩
    have hb2 := hb1.trans (hb2.mono hb1.size)
    obtain ⟨g, hg⟩ : ∃ g, g = w2.heap.size := ⟨_, rfl⟩
    obtain ⟨w3, hw3⟩ : ∃ w3, w3 = w2.alloc (.cells #[.slice A n c, .slice B q d] 27) := ⟨_, rfl⟩
    have hb3 : Below w.heap.size w w3 := by rw [hw3]; exact hb2.alloc hb2.size _
    have hcc := HCC.out w3 g (HA.out.on hb3) (HB.out.on hb3) (by rw [hw3]; exact Box.at_ w2 _ _ hg)
    have HB3 := Lib.hid hb3
    clear hb1 hb2 hb3
    go_wp2_with fail
    rw [← hg, ← hw3]
    refine hcc.mono ?_
    clear hcc hg hw3
    rintro e w4 ⟨v4, rfl, hown4, hb4⟩
    have hso := HSO.out w4 _ v4 hb4.size hown4
    have HB4 := Lib.hid (HB3.out.trans (hb4.mono HB3.out.size))
    have HLE := Lib.hid HB3.out.size
    clear hown4 hb4
    go_wp2_with fail
    refine hso.mono ?_
    clear hso
    rintro e w5 ⟨rfl, A', c', s, rfl, hs, hrs, hst, hns, hb5⟩
    have hjo := HJO.out w5 A' c' s hns hrs hs
    have HB5 := Lib.hid (HB4.out.trans (hb5.mono HLE.out))
    have HST := Lib.hid (acc_all HSL.out hst)
    rw [HST.out, hs] at hjo
    clear hb5 hns hrs hst hs
    go_wp2_with fail
    refine hjo.mono ?_
    clear hjo
    rintro e w6 ⟨v6, rfl, hown6, hb6⟩
    have HB6 := Lib.hid (HB5.out.trans (hb6.mono HB5.out.size))
    have HO6 := Lib.hid hown6
    clear hown6 hb6
    go_wp2
    go_ret2
    exact ⟨_, rfl, NV.own HO6.out rfl, HB6.out⟩

end Go.Proofs.Yteddjmkoleclpaa
