/- The walk of Apply, with the blocks in which the trees lie. -/
import Derived.Test.YteddjmkoleclpaaQApply
import Derived.Test.YteddjmkoleclpaaQL
set_option linter.unusedVariables false
set_option linter.unusedSimpArgs false
namespace Go.Proofs.Yteddjmkoleclpaa
open Go.RowKit

theorem TreeS.on {w w' : World} {S : Nat → Prop} {v : Value} {p : List Pr} {M H : Nat} (h : TreeS w S v p M H) (hS : Und w S) (hb : Below w.heap.size w w') : TreeS w' S v p M H := by
  obtain ⟨n, r, t, e, h1, h2⟩ := h
  exact ⟨n, r, t, e, h1.on hS hb, h2⟩
theorem TreeS.mono {w : World} {S S' : Nat → Prop} {v : Value} {p : List Pr} {M H : Nat} (h : TreeS w S v p M H) (hS : ∀ b, S b → S' b) : TreeS w S' v p M H := by
  obtain ⟨n, r, t, e, h1, h2⟩ := h
  exact ⟨n, r, t, e, h1.mono hS, h2⟩
theorem TreeS.more {w : World} {S : Nat → Prop} {v : Value} {p : List Pr} {M M' H H' : Nat} (h : TreeS w S v p M H) (hM : M ≤ M') (hH : H ≤ H') : TreeS w S v p M' H' := by
  obtain ⟨n, r, t, e, h1, h2, h3, h4, h5⟩ := h
  exact ⟨n, r, t, e, h1, h2, h3, by omega, by omega⟩
theorem TreeS.keep {w w' : World} {S : Nat → Prop} {v : Value} {p : List Pr} {M H : Nat} (h : TreeS w S v p M H) (hk : ∀ p : Addr, S p.block → w'.cell? p = w.cell? p) : TreeS w' S v p M H := by
  obtain ⟨n, r, t, e, h1, h2⟩ := h
  exact ⟨n, r, t, e, NodeB.keep hk (fun _ h => h) _ _ _ _ h1, h2⟩

set_option maxHeartbeats 2000000 in
set_option maxRecDepth 100000 in
theorem tapply_s (S : Nat → Prop) (v u : Value) (p : List Pr) (ns : List Nt) (M H : Nat) (w : World) (hS : Und w S) (hV : TreeS w S v p M H) (hB : NV w u ns) (hsz : M + ns.length ≤ 1000) :
    Calls Try.prog 11 #[v, u] w fun e w' => ∃ v', e = .returned (.tuple #[v', .int .i64 (tAppE ns)]) ∧ TreeS w' (Gr S w w') v' (tAppP p ns) (M + ns.length) (H + M + ns.length) ∧ Below w.heap.size w w' := by
  have hV0 := hV
  obtain ⟨h, r, t, rfl, hN, hT, hp, hm, hh⟩ := hV
  have hps : Sorted p := by rw [← hp]; exact pairs_sorted h noB none t (top_ok hT)
  have hpu : ∀ wx, NV wx u ns → Calls Try.prog 22 #[.slice none 0 0, u] wx fun e w' => ∃ v', e = .returned (.tuple #[v', .int .i64 (tAppE ns)]) ∧ NV w' v' (if ns.all rightN then pushL [] ns else []) ∧ Below wx.heap.size wx w' := fun wx h2 => by
    have h3 := ppush_v (NV.nil wx) h2 (by simp; omega)
    have e1 : pushA [] ns = (if ns.all rightN then pushL [] ns else []) ∧ pushE [] ns = tAppE ns := by unfold pushA pushE tAppE; rw [well_nil]; simp
    rw [e1.1, e1.2] at h3
    exact h3
  have HPU := Lib.hid hpu
  have HV := Lib.hid hV0
  have HUS := Lib.hid hS
  have HB := Lib.hid hB
  have HN := Lib.hid hN
  have HT := Lib.hid hT
  have HP := Lib.hid (And.intro hp (And.intro hm (And.intro hh (And.intro hsz hps))))
  clear hV0 hB hN hT hpu hp hm hh hsz hps
  obtain ⟨lo, ⟨ka, kn, kc⟩, ⟨na, nn, nc⟩, ⟨pa, pn, pc⟩⟩ := r
  obtain ⟨g, hg⟩ : ∃ g, g = w.heap.size := ⟨_, rfl⟩
  obtain ⟨w0, hw0⟩ : ∃ w0, w0 = (w.alloc (.cells #[.string lo, .slice ka kn kc, .slice na nn nc, .slice pa pn pc] 32)).alloc (.cells #[.string noB, .slice none 0 0, .slice none 0 0, .slice none 0 0] 32) := ⟨_, rfl⟩
  obtain ⟨g2, hg2⟩ : ∃ g2, g2 = g + 1 := ⟨_, rfl⟩
  have HB0 := Lib.hid (show Below w.heap.size w w0 from by rw [hw0]; exact ((Below.refl _ _).alloc (Nat.le_refl _) _).alloc (by simp) _)
  have HX1 := Lib.hid (show Box w0 g 32 #[.string lo, .slice ka kn kc, .slice na nn nc, .slice pa pn pc] from by rw [hw0]; exact (Box.at_ w _ _ hg).push _)
  have HX2 := Lib.hid (show Box w0 g2 32 #[.string noB, .slice none 0 0, .slice none 0 0, .slice none 0 0] from by rw [hw0]; exact Box.at_ _ _ _ (by rw [hg2, hg]; simp))
  have HG := Lib.hid (show w.heap.size ≤ g2 from by omega)
  have hc0 := HPU.out w0 (HB.out.on HB0.out)
  show Calls Try.prog 11 #[.agg #[.string lo, .slice ka kn kc, .slice na nn nc, .slice pa pn pc], u] w fun e w' => ∃ v', e = .returned (.tuple #[v', .int .i64 (tAppE ns)]) ∧ TreeS w' (Gr S w w') v' (tAppP p ns) (M + ns.length) (H + M + ns.length) ∧ Below w.heap.size w w'
  cases hall : ns.all rightN with
  | false =>
    have e1 : tAppE ns = 1 ∧ tAppP p ns = p := by unfold tAppE tAppP; rw [hall]; exact ⟨rfl, rfl⟩
    rw [e1.1] at hc0 ⊢
    rw [e1.2]
    clear HPU e1 hall
    go_enter Try.func11, Try.ntmps11
    go_upto_region 1 with fail
    rw [← hg, ← hg2, ← hw0]
    clear hg hg2 hw0
    go_wp2_with fail
    refine hc0.mono ?_
    clear hc0
    rintro e w1 ⟨v1, rfl, _, hb1⟩
    have HB1 := Lib.hid (HB0.out.trans (hb1.mono HB0.out.size))
    have hbx := HX1.out.on hb1
    have hby := HX2.out.on hb1
    have b0 := Box.cell hbx 0 rfl
    have b1 := Box.cell hbx 1 rfl
    have b2 := Box.cell hbx 2 rfl
    have b3 := Box.cell hbx 3 rfl
    have f0 := Box.free hby 0
    have f1 := Box.free hby 1
    have f2 := Box.free hby 2
    have f3 := Box.free hby 3
    have k0 := Box.cell hby 0 rfl
    have k1 := Box.cell hby 1 rfl
    have k2 := Box.cell hby 2 rfl
    have k3 := Box.cell hby 3 rfl
    have HY := Lib.hid hby
    clear hbx hby hb1
    go_wp2
    obtain ⟨wx, hx⟩ : ∃ wx, wx = ((((w1.setCell ⟨g2, 0, none⟩ (.string lo)).setCell ⟨g2, 1, none⟩ (.slice ka kn kc)).setCell ⟨g2, 2, none⟩ (.slice na nn nc)).setCell ⟨g2, 3, none⟩ (.slice pa pn pc)) := ⟨_, rfl⟩
    have hq : Box wx g2 32 #[.string lo, .slice ka kn kc, .slice na nn nc, .slice pa pn pc] := by rw [hx]; exact NdB.put (r := ⟨noB, nilS, nilS, nilS⟩) HY.out ⟨lo, ⟨ka, kn, kc⟩, ⟨na, nn, nc⟩, ⟨pa, pn, pc⟩⟩
    have hw : Below w.heap.size w wx := by rw [hx]; exact below_put HB1.out HG.out _ _ _ _
    rw [← hx]
    have p0 := Box.cell hq 0 rfl
    have p1 := Box.cell hq 1 rfl
    have p2 := Box.cell hq 2 rfl
    have p3 := Box.cell hq 3 rfl
    exact bodyPost_ret (v := .tuple #[Nr.v ⟨lo, ⟨ka, kn, kc⟩, ⟨na, nn, nc⟩, ⟨pa, pn, pc⟩⟩, .int .i64 1]) (by simp [results, Try.results11, go_sem, Nr.v, p0, p1, p2, p3]) rfl ⟨_, rfl, ((HV.out.on HUS.out hw).mono gr_in).more (by omega) (by omega), hw⟩
  | true =>
    have e1 : tAppE ns = 0 ∧ tAppP p ns = foldOne p ns := by unfold tAppE tAppP; rw [hall]; exact ⟨rfl, rfl⟩
    rw [hall, if_pos rfl, e1.1] at hc0
    rw [e1.1, e1.2]
    have HALL := Lib.hid (show wellN (pushL [] ns) = true ∧ (pushL [] ns).length ≤ ns.length ∧ foldOne p (pushL [] ns) = foldOne p ns from by
      refine ⟨well_pushL well_nil hall, by have := len_pushL (l := []) .nil ns; simpa using this, ?_⟩
      have := push_does (p := p) HP.out.2.2.2.2 (l := []) (more := ns) .nil
      simpa using this)
    clear HPU e1 hall
    go_enter Try.func11, Try.ntmps11
    go_upto_region 1 with fail
    rw [← hg, ← hg2, ← hw0]
    clear hg hg2 hw0
    go_wp2_with fail
    refine hc0.mono ?_
    clear hc0
    rintro e w1 ⟨v1, rfl, hv1, hb1⟩
    have HB1 := Lib.hid (HB0.out.trans (hb1.mono HB0.out.size))
    have hbx := HX1.out.on hb1
    have b0 := Box.cell hbx 0 rfl
    have b1 := Box.cell hbx 1 rfl
    have b2 := Box.cell hbx 2 rfl
    have b3 := Box.cell hbx 3 rfl
    have HY1 := Lib.hid (HX2.out.on hb1)
    have HUA := Lib.hid (show Und w1 S from HUS.out.on HB1.out)
    have htk : Calls Try.prog 24 #[.agg #[.string lo, .slice ka kn kc, .slice na nn nc, .slice pa pn pc], v1] w1 fun e w' => ∃ v' ks, e = .returned v' ∧ TsV h w' (Gr S w1 w') v' ks ∧ TkR h noB none ks (foldOne (pairsH h t) (pushL [] ns)) (szH h t + (pushL [] ns).length) ∧ Below w1.heap.size w1 w' :=
      take_top h ⟨lo, ⟨ka, kn, kc⟩, ⟨na, nn, nc⟩, ⟨pa, pn, pc⟩⟩ t v1 (pushL [] ns) w1 S HUA.out (NodeB.on HN.out HUS.out HB1.out) HT.out hv1 HALL.out.1 (by have := HALL.out.2.1; have := HP.out.2.1; have := HP.out.2.2.2.1; omega)
    clear hbx hb1 hv1
    go_wp2_with fail
    refine htk.mono ?_
    clear htk b0 b1 b2 b3
    rintro e w2 ⟨v2, ks, rfl, hts, htr, hb2⟩
    have HB2 := Lib.hid (HB1.out.trans (hb2.mono HB1.out.size))
    have HY2 := Lib.hid (HY1.out.on hb2)
    obtain ⟨t1, t2, t3, t4⟩ := htr
    have HU2 := Lib.hid (und_gr (w3 := w1) (HUA.out.on hb2))
    have HS12 := Lib.hid hb2.size
    have htree := tree_any (Gr S w1 w2) (foldOne p ns) (M + ns.length) (H + M + ns.length) v2 w2 HU2.out ⟨h, ks, hts.mono gr_in, t1, t2, by rw [t3, HP.out.1]; exact HALL.out.2.2, by have := HALL.out.2.1; have := HP.out.2.1; omega, by have := len_szK t1; have := HALL.out.2.1; have := HP.out.2.1; have := HP.out.2.2.1; omega⟩ HP.out.2.2.2.1
    clear hts t1 t2 t3 t4 hb2
    go_wp2_with fail
    refine htree.mono ?_
    clear htree
    rintro e w3 ⟨v3, rfl, ht3, hb3⟩
    have HB3 := Lib.hid (HB2.out.trans (hb3.mono HB2.out.size))
    have hby := HY2.out.on hb3
    obtain ⟨h3, r3, t3, e3, hn3, ht3⟩ := ht3
    obtain ⟨lo3, ⟨ka3, kn3, kc3⟩, ⟨na3, nn3, nc3⟩, ⟨pa3, pn3, pc3⟩⟩ := r3
    replace e3 : v3 = .agg #[.string lo3, .slice ka3 kn3 kc3, .slice na3 nn3 nc3, .slice pa3 pn3 pc3] := e3
    subst e3
    have f0 := Box.free hby 0
    have f1 := Box.free hby 1
    have f2 := Box.free hby 2
    have f3 := Box.free hby 3
    have k0 := Box.cell hby 0 rfl
    have k1 := Box.cell hby 1 rfl
    have k2 := Box.cell hby 2 rfl
    have k3 := Box.cell hby 3 rfl
    have HY := Lib.hid hby
    have HG3 := Lib.hid (show g2 < w1.heap.size from Box.lt HY1.out)
    have HN3 := Lib.hid (And.intro hn3 ht3)
    have HU3 := Lib.hid (und_gr (w3 := w2) (HU2.out.on hb3))
    have HS23 := Lib.hid hb3.size
    clear hby hb3 hn3 ht3
    go_wp2
    obtain ⟨wx, hx⟩ : ∃ wx, wx = ((((w3.setCell ⟨g2, 0, none⟩ (.string lo3)).setCell ⟨g2, 1, none⟩ (.slice ka3 kn3 kc3)).setCell ⟨g2, 2, none⟩ (.slice na3 nn3 nc3)).setCell ⟨g2, 3, none⟩ (.slice pa3 pn3 pc3)) := ⟨_, rfl⟩
    have hq : Box wx g2 32 #[.string lo3, .slice ka3 kn3 kc3, .slice na3 nn3 nc3, .slice pa3 pn3 pc3] := by rw [hx]; exact NdB.put (r := ⟨noB, nilS, nilS, nilS⟩) HY.out ⟨lo3, ⟨ka3, kn3, kc3⟩, ⟨na3, nn3, nc3⟩, ⟨pa3, pn3, pc3⟩⟩
    have hw : Below w.heap.size w wx := by rw [hx]; exact below_put HB3.out HG.out _ _ _ _
    have hsz : wx.heap.size = w3.heap.size := by rw [hx]; simp
    have htv : TreeS wx (Gr S w wx) (Nr.v ⟨lo3, ⟨ka3, kn3, kc3⟩, ⟨na3, nn3, nc3⟩, ⟨pa3, pn3, pc3⟩⟩) (foldOne p ns) (M + ns.length) (H + M + ns.length) := by
      refine ⟨h3, _, t3, rfl, NodeB.keep (fun q hp => ?_) (fun b hb => ?_) _ _ _ _ HN3.out.1, HN3.out.2⟩
      · have hne : q.block ≠ g2 := fun e => by
          rw [e] at hp
          have h3 := HG.out
          have h4 := HG3.out
          have h5 := HS12.out
          rcases hp with (hp | hp) | hp
          · have h6 : g2 < w.heap.size := HUS.out _ hp; omega
          · omega
          · omega
        rw [hx]
        simp only [World.cell?]
        rw [Below.heap_setCell _ _ _ _ (show q.block ≠ (⟨g2, 3, none⟩ : Addr).block from hne), Below.heap_setCell _ _ _ _ (show q.block ≠ (⟨g2, 2, none⟩ : Addr).block from hne), Below.heap_setCell _ _ _ _ (show q.block ≠ (⟨g2, 1, none⟩ : Addr).block from hne), Below.heap_setCell _ _ _ _ (show q.block ≠ (⟨g2, 0, none⟩ : Addr).block from hne)]
      · have h6 := HB1.out.size
        have h7 := HS12.out
        have h8 := HS23.out
        rcases hb with (hb | hb) | hb
        · exact .inl hb
        · exact .inr (by omega)
        · exact .inr (by omega)
    rw [← hx]
    have p0 := Box.cell hq 0 rfl
    have p1 := Box.cell hq 1 rfl
    have p2 := Box.cell hq 2 rfl
    have p3 := Box.cell hq 3 rfl
    exact bodyPost_ret (v := .tuple #[Nr.v ⟨lo3, ⟨ka3, kn3, kc3⟩, ⟨na3, nn3, nc3⟩, ⟨pa3, pn3, pc3⟩⟩, .int .i64 0]) (by simp [results, Try.results11, go_sem, Nr.v, p0, p1, p2, p3]) rfl ⟨_, rfl, htv, hw⟩

end Go.Proofs.Yteddjmkoleclpaa

namespace Go.Proofs.Yteddjmkoleclpaa
open Go.RowKit Go.Sort

theorem NV.see {w : World} {B : Option Addr} {n d : Nat} {l : List Nt} (h : NV w (.slice B n d) l) : Nts w w.heap.size B l ∧ n = l.length ∧ l.length ≤ d ∧ (B = none → d = 0) := by
  obtain ⟨B', d', e, h1, h2, h3⟩ := h
  injection e with e1 e2 e3
  subst e1 e3
  exact ⟨h1, e2, h2, h3⟩

/-- The notes, turned round. -/
def turnN (l : List Nt) (d : Nat) : List Nt := (List.range l.length).map fun i => (l[(l.length - i + d) % l.length]?).getD ⟨0, noB, noB, 0⟩
theorem turnN_len (l : List Nt) (d : Nat) : (turnN l d).length = l.length := by simp [turnN]
theorem turnN_take {l : List Nt} {d i j : Nat} (hi : i < l.length) (hj : j = (l.length - i + d) % l.length) (hjl : j < l.length) : (turnN l d).take (i + 1) = (turnN l d).take i ++ [l[j]] := by
  have hl : i < (turnN l d).length := by rw [turnN_len]; exact hi
  rw [List.take_succ_eq_append_getElem hl]
  congr 2
  simp only [turnN, List.getElem_map, List.getElem_range]
  rw [← hj, List.getElem?_eq_getElem hjl]
  rfl
theorem turnN_mem {l : List Nt} {d : Nat} {x : Nt} (h : x ∈ turnN l d) : x ∈ l := by
  obtain ⟨i, hi, rfl⟩ := List.mem_map.1 h
  have hi2 : i < l.length := by simpa using hi
  have hj : (l.length - i + d) % l.length < l.length := Nat.mod_lt _ (by omega)
  rw [List.getElem?_eq_getElem hj]
  exact List.getElem_mem hj
theorem turnN_back {l : List Nt} (d : Nat) {x : Nt} (h : x ∈ l) : x ∈ turnN l d := by
  obtain ⟨j, hj, rfl⟩ := List.getElem_of_mem h
  obtain ⟨n, hn⟩ : ∃ n, n = l.length := ⟨_, rfl⟩
  have hn0 : 0 < n := by omega
  have hi : (d + n - j) % n < n := Nat.mod_lt _ hn0
  refine List.mem_map.2 ⟨(d + n - j) % n, by simpa [← hn] using hi, ?_⟩
  have e1 : n * ((d + n - j) / n) + (d + n - j) % n = d + n - j := Nat.div_add_mod _ _
  have e2 : (n - (d + n - j) % n + d) % n = j := by
    have e3 : n - (d + n - j) % n + d = j + n * ((d + n - j) / n) := by omega
    rw [e3, Nat.add_mul_mod_self_left, Nat.mod_eq_of_lt (by omega)]
  rw [← hn, e2, List.getElem?_eq_getElem hj]
  rfl
theorem mod_inj {a b n : Nat} (h : a % n = b % n) (h1 : a < b + n) (h2 : b < a + n) : a = b := by
  have e1 := Nat.div_add_mod a n
  have e2 := Nat.div_add_mod b n
  rw [h] at e1
  rcases Nat.lt_trichotomy (a / n) (b / n) with h3 | h3 | h3
  · have h4 : n * (a / n + 1) ≤ n * (b / n) := Nat.mul_le_mul_left n h3
    rw [Nat.mul_add] at h4
    omega
  · rw [h3] at e1; omega
  · have h4 : n * (b / n + 1) ≤ n * (a / n) := Nat.mul_le_mul_left n h3
    rw [Nat.mul_add] at h4
    omega
/-- No two notes have one key. -/
def Unlike (l : List Nt) : Prop := l.Pairwise fun x y => x.key ≠ y.key
theorem Unlike.one {l : List Nt} (h : Unlike l) : ∀ {x : Nt}, x ∈ l → (l.filter fun n => decide (n.key = x.key)) = [x] := by
  induction l with
  | nil => exact fun hx => by cases hx
  | cons y r ih =>
    intro x hx
    obtain ⟨h1, h2⟩ := List.pairwise_cons.1 h
    rcases List.mem_cons.1 hx with rfl | hx
    · rw [List.filter_cons_of_pos (by simp), List.filter_eq_nil_iff.2 fun y hy => by simpa using fun e => h1 y hy e.symm]
    · rw [List.filter_cons_of_neg (by simpa using h1 x hx)]
      exact ih h2 hx
theorem Unlike.steq {a b : List Nt} (ha : Unlike a) (hb : Unlike b) (hm : ∀ x, x ∈ a ↔ x ∈ b) : StEq a b := fun k => by
  by_cases h : ∃ x ∈ a, x.key = k
  · obtain ⟨x, hx, rfl⟩ := h
    rw [ha.one hx, hb.one ((hm x).1 hx)]
  · rw [List.filter_eq_nil_iff.2 fun x hx => by simpa using fun e => h ⟨x, hx, e⟩, List.filter_eq_nil_iff.2 fun x hx => by simpa using fun e => h ⟨x, (hm x).2 hx, e⟩]
theorem Unlike.at {l : List Nt} (h : Unlike l) {i j : Nat} (hi : i < l.length) (hj : j < l.length) (e : l[i].key = l[j].key) : i = j := by
  rcases Nat.lt_trichotomy i j with h1 | h1 | h1
  · exact absurd e (List.pairwise_iff_getElem.1 h i j hi hj h1)
  · exact h1
  · exact absurd e.symm (List.pairwise_iff_getElem.1 h j i hj hi h1)
theorem turnN_unlike {l : List Nt} (h : Unlike l) (d : Nat) : Unlike (turnN l d) := by
  refine List.pairwise_iff_getElem.2 fun i j hi hj hij e => ?_
  rw [turnN_len] at hi hj
  have h1 : (l.length - i + d) % l.length < l.length := Nat.mod_lt _ (by omega)
  have h2 : (l.length - j + d) % l.length < l.length := Nat.mod_lt _ (by omega)
  simp only [turnN, List.getElem_map, List.getElem_range] at e
  rw [List.getElem?_eq_getElem h1, List.getElem?_eq_getElem h2] at e
  have h3 := mod_inj (h.at h1 h2 e) (by omega) (by omega)
  omega
theorem turnN_fold {l : List Nt} (h : Unlike l) (d : Nat) : foldOne [] (turnN l d) = foldOne [] l :=
  fold_steq .nil (Unlike.steq (turnN_unlike h d) h fun _ => ⟨turnN_mem, turnN_back d⟩)
theorem turnN_right {l : List Nt} (h : l.all rightN = true) (d : Nat) : (turnN l d).all rightN = true :=
  List.all_eq_true.2 fun x hx => List.all_eq_true.1 h x (turnN_mem hx)
theorem Unlike.snoc {l : List Nt} {i : Nat} (h : Unlike (l.take i)) (hi : i < l.length) (hx : ∀ x ∈ l.take i, x.key ≠ l[i].key) : Unlike (l.take (i + 1)) := by
  rw [List.take_succ_eq_append_getElem hi]
  exact List.pairwise_append.2 ⟨h, List.pairwise_singleton _ _, fun x hx2 y hy => by rw [List.mem_singleton.1 hy]; exact hx x hx2⟩
theorem right_app {l : List Nt} (h : l.all rightN = true) (p : List Pr) : tAppE l = 0 ∧ tAppP p l = foldOne p l := by unfold tAppE tAppP; rw [h]; exact ⟨rfl, rfl⟩

/-- All blocks but one. -/
def Off (g : Nat) (w : World) (b : Nat) : Prop := b < w.heap.size ∧ b ≠ g
theorem off_und (g : Nat) (w : World) : Und w (Off g w) := fun _ h => h.1
theorem TreeS.off {g : Nat} {w w' : World} {v : Value} {p : List Pr} {M H : Nat} (h : TreeS w (Off g w) v p M H) (hb : Below w.heap.size w w') : TreeS w' (Off g w') v p M H :=
  (h.on (off_und g w) hb).mono fun b hb2 => ⟨by have h1 := hb2.1; have h2 := hb.size; omega, hb2.2⟩
theorem TreeS.gr {g : Nat} {w w' : World} {v : Value} {p : List Pr} {M H : Nat} (h : TreeS w' (Gr (Off g w) w w') v p M H) (hg : g < w.heap.size) (hs : w.heap.size ≤ w'.heap.size) : TreeS w' (Off g w') v p M H :=
  h.mono fun b hb => by
    rcases hb with hb | hb
    · exact ⟨by have := hb.1; omega, hb.2⟩
    · exact ⟨hb.2, by omega⟩
theorem TreeS.put {g : Nat} {w : World} {v : Value} {p : List Pr} {M H : Nat} (h : TreeS w (Off g w) v p M H) (a b c d : Value) :
    TreeS ((((w.setCell ⟨g, 0, none⟩ a).setCell ⟨g, 1, none⟩ b).setCell ⟨g, 2, none⟩ c).setCell ⟨g, 3, none⟩ d) (Off g ((((w.setCell ⟨g, 0, none⟩ a).setCell ⟨g, 1, none⟩ b).setCell ⟨g, 2, none⟩ c).setCell ⟨g, 3, none⟩ d)) v p M H := by
  refine (h.keep fun q hq => ?_).mono fun b hb => ⟨by have := hb.1; simpa using this, hb.2⟩
  have hne : q.block ≠ g := hq.2
  simp only [World.cell?]
  rw [Below.heap_setCell _ _ _ _ (show q.block ≠ (⟨g, 3, none⟩ : Addr).block from hne), Below.heap_setCell _ _ _ _ (show q.block ≠ (⟨g, 2, none⟩ : Addr).block from hne), Below.heap_setCell _ _ _ _ (show q.block ≠ (⟨g, 1, none⟩ : Addr).block from hne), Below.heap_setCell _ _ _ _ (show q.block ≠ (⟨g, 0, none⟩ : Addr).block from hne)]
theorem TreeS.v {g : Nat} {w : World} {v : Value} {p : List Pr} {M H : Nat} (h : TreeS w (Off g w) v p M H) : TreeV w v p M H := h.tv (off_und g w)
theorem TreeV.off {g : Nat} {w w' : World} {v : Value} {p : List Pr} {M H : Nat} (h : TreeV w v p M H) (hb : Below w.heap.size w w') (hg : w.heap.size ≤ g) : TreeS w' (Off g w') v p M H := by
  have h1 : TreeS w (All w) v p M H := h
  exact (h1.on (fun _ h => h) hb).mono fun b hb2 => ⟨by have h1 : b < w.heap.size := hb2; have h2 := hb.size; omega, by have h1 : b < w.heap.size := hb2; omega⟩

end Go.Proofs.Yteddjmkoleclpaa
