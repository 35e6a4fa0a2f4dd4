/- The walk of Apply (of trees). -/
import Derived.Test.YteddjmkoleclpaaQT
set_option linter.unusedVariables false
set_option linter.unusedSimpArgs false
namespace Go.Proofs.Yteddjmkoleclpaa
open Go.RowKit

def tAppP (p : List Pr) (ns : List Nt) : List Pr := if ns.all rightN then foldOne p ns else p
def tAppE (ns : List Nt) : Int := if ns.all rightN then 0 else 1
theorem all_from {n : Nt} : inLow noB none n.key = true := inLow_iff.2 ⟨by have h : noS ≤ n.key := noS_le n.key; show ¬ n.key < noS; grind, rfl⟩
/-- What taking does to a whole tree. -/
theorem take_top (h : Nat) (r : Nr) (t : TrH h) (u : Value) (ns : List Nt) (w : World) (S : Nat → Prop) (hS : Und w S) (hN : NodeB h w S r noB t) (hT : Top h t) (hB : NV w u ns) (hw : wellN ns = true) (hsz : szH h t + ns.length ≤ 1000) :
    Calls Try.prog 24 #[r.v, u] w fun e w' => ∃ v' ks, e = .returned v' ∧ TsV h w' (Gr S w w') v' ks ∧ TkR h noB none ks (foldOne (pairsH h t) ns) (szH h t + ns.length) ∧ Below w.heap.size w w' := by
  cases h with
  | zero =>
    have h1 := top_ok hT
    exact taking_leaf r noB none t u ns w S hS hN hB h1.1 h1.2.2.2 (wellN_right hw) (fun n _ => all_from) hsz
  | succ h => exact take_all (h + 1) r noB none t u ns w S hS hN hT hB hw (fun n _ => all_from) hsz

set_option maxHeartbeats 2000000 in
set_option maxRecDepth 100000 in
theorem tapply_any (v u : Value) (p : List Pr) (ns : List Nt) (M H : Nat) (w : World) (hV : TreeV w v p M H) (hB : NV w u ns) (hsz : M + ns.length ≤ 1000) :
    Calls Try.prog 11 #[v, u] w fun e w' => ∃ v', e = .returned (.tuple #[v', .int .i64 (tAppE ns)]) ∧ TreeV w' v' (tAppP p ns) (M + ns.length) (H + M + ns.length) ∧ Below w.heap.size w w' := by
  have hV0 := hV
  obtain ⟨h, r, t, rfl, hN, hT, hp, hm, hh⟩ := hV
  have hps : Sorted p := by rw [← hp]; exact pairs_sorted h noB none t (top_ok hT)
  have hpu : ∀ wx, NV wx u ns → Calls Try.prog 22 #[.slice none 0 0, u] wx fun e w' => ∃ v', e = .returned (.tuple #[v', .int .i64 (tAppE ns)]) ∧ NV w' v' (if ns.all rightN then pushL [] ns else []) ∧ Below wx.heap.size wx w' := fun wx h2 => by
    have h3 := ppush_v (NV.nil wx) h2 (by simp; omega)
    have e1 : pushA [] ns = (if ns.all rightN then pushL [] ns else []) ∧ pushE [] ns = tAppE ns := by unfold pushA pushE tAppE; rw [well_nil]; simp
    rw [e1.1, e1.2] at h3
    exact h3
  have HPU := Lib.hid hpu
  have HV := Lib.hid hV0
  have HB := Lib.hid hB
  have HN := Lib.hid hN
  have HT := Lib.hid hT
  have HP := Lib.hid (And.intro hp (And.intro hm (And.intro hh (And.intro hsz hps))))
  clear hV0 hB hN hT hpu hp hm hh hsz hps
  obtain ⟨lo, ⟨ka, kn, kc⟩, ⟨na, nn, nc⟩, ⟨pa, pn, pc⟩⟩ := r
  obtain ⟨g, hg⟩ : ∃ g, g = w.heap.size := ⟨_, rfl⟩
  obtain ⟨w0, hw0⟩ : ∃ w0, w0 = (w.alloc (.cells #[.string lo, .slice ka kn kc, .slice na nn nc, .slice pa pn pc] 32)).alloc (.cells #[.string noB, .slice none 0 0, .slice none 0 0, .slice none 0 0] 32) := ⟨_, rfl⟩
  obtain ⟨g2, hg2⟩ : ∃ g2, g2 = g + 1 := ⟨_, rfl⟩
  have HB0 := Lib.hid (show Below w.heap.size w w0 from by rw [hw0]; exact ((Below.refl _ _).alloc (Nat.le_refl _) _).alloc (by simp) _)
  have HX1 := Lib.hid (show Box w0 g 32 #[.string lo, .slice ka kn kc, .slice na nn nc, .slice pa pn pc] from by rw [hw0]; exact (Box.at_ w _ _ hg).push _)
  have HX2 := Lib.hid (show Box w0 g2 32 #[.string noB, .slice none 0 0, .slice none 0 0, .slice none 0 0] from by rw [hw0]; exact Box.at_ _ _ _ (by rw [hg2, hg]; simp))
  have HG := Lib.hid (show w.heap.size ≤ g2 from by omega)
  have hc0 := HPU.out w0 (HB.out.on HB0.out)
  show Calls Try.prog 11 #[.agg #[.string lo, .slice ka kn kc, .slice na nn nc, .slice pa pn pc], u] w fun e w' => ∃ v', e = .returned (.tuple #[v', .int .i64 (tAppE ns)]) ∧ TreeV w' v' (tAppP p ns) (M + ns.length) (H + M + ns.length) ∧ Below w.heap.size w w'
  cases hall : ns.all rightN with
  | false =>
    have e1 : tAppE ns = 1 ∧ tAppP p ns = p := by unfold tAppE tAppP; rw [hall]; exact ⟨rfl, rfl⟩
    rw [e1.1] at hc0 ⊢
    rw [e1.2]
    clear HPU e1 hall
    go_enter Try.func11, Try.ntmps11
    go_upto_region 1 with fail
    rw [← hg, ← hg2, ← hw0]
    clear hg hg2 hw0
    go_wp2_with fail
    refine hc0.mono ?_
    clear hc0
    rintro e w1 ⟨v1, rfl, _, hb1⟩
    have HB1 := Lib.hid (HB0.out.trans (hb1.mono HB0.out.size))
    have hbx := HX1.out.on hb1
    have hby := HX2.out.on hb1
    have b0 := Box.cell hbx 0 rfl
    have b1 := Box.cell hbx 1 rfl
    have b2 := Box.cell hbx 2 rfl
    have b3 := Box.cell hbx 3 rfl
    have f0 := Box.free hby 0
    have f1 := Box.free hby 1
    have f2 := Box.free hby 2
    have f3 := Box.free hby 3
    have k0 := Box.cell hby 0 rfl
    have k1 := Box.cell hby 1 rfl
    have k2 := Box.cell hby 2 rfl
    have k3 := Box.cell hby 3 rfl
    have HY := Lib.hid hby
    clear hbx hby hb1
    go_wp2
    obtain ⟨wx, hx⟩ : ∃ wx, wx = ((((w1.setCell ⟨g2, 0, none⟩ (.string lo)).setCell ⟨g2, 1, none⟩ (.slice ka kn kc)).setCell ⟨g2, 2, none⟩ (.slice na nn nc)).setCell ⟨g2, 3, none⟩ (.slice pa pn pc)) := ⟨_, rfl⟩
    have hq : Box wx g2 32 #[.string lo, .slice ka kn kc, .slice na nn nc, .slice pa pn pc] := by rw [hx]; exact NdB.put (r := ⟨noB, nilS, nilS, nilS⟩) HY.out ⟨lo, ⟨ka, kn, kc⟩, ⟨na, nn, nc⟩, ⟨pa, pn, pc⟩⟩
    have hw : Below w.heap.size w wx := by rw [hx]; exact below_put HB1.out HG.out _ _ _ _
    rw [← hx]
    have p0 := Box.cell hq 0 rfl
    have p1 := Box.cell hq 1 rfl
    have p2 := Box.cell hq 2 rfl
    have p3 := Box.cell hq 3 rfl
    exact bodyPost_ret (v := .tuple #[Nr.v ⟨lo, ⟨ka, kn, kc⟩, ⟨na, nn, nc⟩, ⟨pa, pn, pc⟩⟩, .int .i64 1]) (by simp [results, Try.results11, go_sem, Nr.v, p0, p1, p2, p3]) rfl ⟨_, rfl, (HV.out.on hw).more (by omega) (by omega), hw⟩
  | true =>
    have e1 : tAppE ns = 0 ∧ tAppP p ns = foldOne p ns := by unfold tAppE tAppP; rw [hall]; exact ⟨rfl, rfl⟩
    rw [hall, if_pos rfl, e1.1] at hc0
    rw [e1.1, e1.2]
    have HALL := Lib.hid (show wellN (pushL [] ns) = true ∧ (pushL [] ns).length ≤ ns.length ∧ foldOne p (pushL [] ns) = foldOne p ns from by
      refine ⟨well_pushL well_nil hall, by have := len_pushL (l := []) .nil ns; simpa using this, ?_⟩
      have := push_does (p := p) HP.out.2.2.2.2 (l := []) (more := ns) .nil
      simpa using this)
    clear HPU e1 hall
    go_enter Try.func11, Try.ntmps11
    go_upto_region 1 with fail
    rw [← hg, ← hg2, ← hw0]
    clear hg hg2 hw0
    go_wp2_with fail
    refine hc0.mono ?_
    clear hc0
    rintro e w1 ⟨v1, rfl, hv1, hb1⟩
    have HB1 := Lib.hid (HB0.out.trans (hb1.mono HB0.out.size))
    have hbx := HX1.out.on hb1
    have b0 := Box.cell hbx 0 rfl
    have b1 := Box.cell hbx 1 rfl
    have b2 := Box.cell hbx 2 rfl
    have b3 := Box.cell hbx 3 rfl
    have HY1 := Lib.hid (HX2.out.on hb1)
    have HUA := Lib.hid (show Und w1 (All w) from fun b hb => by have h3 : b < w.heap.size := hb; have := HB1.out.size; show b < w1.heap.size; omega)
    have htk : Calls Try.prog 24 #[.agg #[.string lo, .slice ka kn kc, .slice na nn nc, .slice pa pn pc], v1] w1 fun e w' => ∃ v' ks, e = .returned v' ∧ TsV h w' (Gr (All w) w1 w') v' ks ∧ TkR h noB none ks (foldOne (pairsH h t) (pushL [] ns)) (szH h t + (pushL [] ns).length) ∧ Below w1.heap.size w1 w' :=
      take_top h ⟨lo, ⟨ka, kn, kc⟩, ⟨na, nn, nc⟩, ⟨pa, pn, pc⟩⟩ t v1 (pushL [] ns) w1 (All w) HUA.out (NodeB.on HN.out (fun b h => h) HB1.out) HT.out hv1 HALL.out.1 (by have := HALL.out.2.1; have := HP.out.2.1; have := HP.out.2.2.2.1; omega)
    clear hbx hb1 hv1
    go_wp2_with fail
    refine htk.mono ?_
    clear htk b0 b1 b2 b3
    rintro e w2 ⟨v2, ks, rfl, hts, htr, hb2⟩
    have HB2 := Lib.hid (HB1.out.trans (hb2.mono HB1.out.size))
    have HY2 := Lib.hid (HY1.out.on hb2)
    obtain ⟨t1, t2, t3, t4⟩ := htr
    have HU2 := Lib.hid (und_gr (w3 := w1) (HUA.out.on hb2))
    have HS12 := Lib.hid hb2.size
    have htree := tree_any (Gr (All w) w1 w2) (foldOne p ns) (M + ns.length) (H + M + ns.length) v2 w2 HU2.out ⟨h, ks, hts.mono gr_in, t1, t2, by rw [t3, HP.out.1]; exact HALL.out.2.2, by have := HALL.out.2.1; have := HP.out.2.1; omega, by have := len_szK t1; have := HALL.out.2.1; have := HP.out.2.1; have := HP.out.2.2.1; omega⟩ HP.out.2.2.2.1
    clear hts t1 t2 t3 t4 hb2
    go_wp2_with fail
    refine htree.mono ?_
    clear htree
    rintro e w3 ⟨v3, rfl, ht3, hb3⟩
    have HB3 := Lib.hid (HB2.out.trans (hb3.mono HB2.out.size))
    have hby := HY2.out.on hb3
    obtain ⟨h3, r3, t3, e3, hn3, ht3⟩ := ht3
    obtain ⟨lo3, ⟨ka3, kn3, kc3⟩, ⟨na3, nn3, nc3⟩, ⟨pa3, pn3, pc3⟩⟩ := r3
    replace e3 : v3 = .agg #[.string lo3, .slice ka3 kn3 kc3, .slice na3 nn3 nc3, .slice pa3 pn3 pc3] := e3
    subst e3
    have f0 := Box.free hby 0
    have f1 := Box.free hby 1
    have f2 := Box.free hby 2
    have f3 := Box.free hby 3
    have k0 := Box.cell hby 0 rfl
    have k1 := Box.cell hby 1 rfl
    have k2 := Box.cell hby 2 rfl
    have k3 := Box.cell hby 3 rfl
    have HY := Lib.hid hby
    have HG3 := Lib.hid (show g2 < w1.heap.size from Box.lt HY1.out)
    have HN3 := Lib.hid (And.intro hn3 ht3)
    have HU3 := Lib.hid (und_gr (w3 := w2) (HU2.out.on hb3))
    clear hby hb3 hn3 ht3
    go_wp2
    obtain ⟨wx, hx⟩ : ∃ wx, wx = ((((w3.setCell ⟨g2, 0, none⟩ (.string lo3)).setCell ⟨g2, 1, none⟩ (.slice ka3 kn3 kc3)).setCell ⟨g2, 2, none⟩ (.slice na3 nn3 nc3)).setCell ⟨g2, 3, none⟩ (.slice pa3 pn3 pc3)) := ⟨_, rfl⟩
    have hq : Box wx g2 32 #[.string lo3, .slice ka3 kn3 kc3, .slice na3 nn3 nc3, .slice pa3 pn3 pc3] := by rw [hx]; exact NdB.put (r := ⟨noB, nilS, nilS, nilS⟩) HY.out ⟨lo3, ⟨ka3, kn3, kc3⟩, ⟨na3, nn3, nc3⟩, ⟨pa3, pn3, pc3⟩⟩
    have hw : Below w.heap.size w wx := by rw [hx]; exact below_put HB3.out HG.out _ _ _ _
    have hsz : wx.heap.size = w3.heap.size := by rw [hx]; simp
    have htv : TreeV wx (Nr.v ⟨lo3, ⟨ka3, kn3, kc3⟩, ⟨na3, nn3, nc3⟩, ⟨pa3, pn3, pc3⟩⟩) (foldOne p ns) (M + ns.length) (H + M + ns.length) := by
      refine ⟨h3, _, t3, rfl, NodeB.keep (fun q hp => ?_) (fun b hb => ?_) _ _ _ _ HN3.out.1, HN3.out.2⟩
      · have hne : q.block ≠ g2 := fun e => by
          rw [e] at hp
          have h3 := HG.out
          have h4 := HG3.out
          have h5 := HS12.out
          rcases hp with (hp | hp) | hp
          · have h6 : g2 < w.heap.size := hp; omega
          · omega
          · omega
        rw [hx]
        simp only [World.cell?]
        rw [Below.heap_setCell _ _ _ _ (show q.block ≠ (⟨g2, 3, none⟩ : Addr).block from hne), Below.heap_setCell _ _ _ _ (show q.block ≠ (⟨g2, 2, none⟩ : Addr).block from hne), Below.heap_setCell _ _ _ _ (show q.block ≠ (⟨g2, 1, none⟩ : Addr).block from hne), Below.heap_setCell _ _ _ _ (show q.block ≠ (⟨g2, 0, none⟩ : Addr).block from hne)]
      · have h5 := HU3.out b hb
        show b < wx.heap.size
        omega
    rw [← hx]
    have p0 := Box.cell hq 0 rfl
    have p1 := Box.cell hq 1 rfl
    have p2 := Box.cell hq 2 rfl
    have p3 := Box.cell hq 3 rfl
    exact bodyPost_ret (v := .tuple #[Nr.v ⟨lo3, ⟨ka3, kn3, kc3⟩, ⟨na3, nn3, nc3⟩, ⟨pa3, pn3, pc3⟩⟩, .int .i64 0]) (by simp [results, Try.results11, go_sem, Nr.v, p0, p1, p2, p3]) rfl ⟨_, rfl, htv, hw⟩

end Go.Proofs.Yteddjmkoleclpaa
