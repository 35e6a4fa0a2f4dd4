/- The walk of taking. -/
import Derived.Test.YteddjmkoleclpaaOV
import Derived.Test.YteddjmkoleclpaaQC
set_option linter.unusedVariables false
set_option linter.unusedSimpArgs false
namespace Go.Proofs.Yteddjmkoleclpaa
open Go.RowKit

theorem push_keys {l ns : List Nt} (hs : SortedN l) {n : Nt} (hn : n ∈ pushL l ns) : (∃ m ∈ l, m.key = n.key) ∨ ∃ m ∈ ns, m.key = n.key := by
  obtain ⟨i, hi, rfl⟩ := List.getElem_of_mem hn
  have h1 := getN_at (sorted_pushL hs ns) i hi
  rw [getN_pushL] at h1
  cases e : (ns.filter fun m => decide (m.key = (pushL l ns)[i].key)) with
  | nil =>
    rw [e] at h1
    obtain ⟨h2, h3⟩ := getN_some (show getN l (pushL l ns)[i].key = some _ from h1)
    exact .inl ⟨_, h2, h3⟩
  | cons m r =>
    have h2 : m ∈ ns.filter fun m => decide (m.key = (pushL l ns)[i].key) := by rw [e]; exact List.mem_cons_self
    obtain ⟨h3, h4⟩ := List.mem_filter.1 h2
    exact .inr ⟨m, h3, of_decide_eq_true h4⟩

set_option maxHeartbeats 1000000 in
set_option maxRecDepth 100000 in
theorem taking_leaf (r : Nr) (lo : ByteArray) (hi : Option ByteArray) (ps : List Pr) (u : Value) (ns : List Nt) (w : World) (S : Nat → Prop) (hS : Und w S) (hN : NodeB 0 w S r lo ps) (hB : NV w u ns) (hw : wellL ps = true) (hin : ∀ p ∈ ps, inLow lo hi p.k = true) (hr : ns.all rightN = true) (hn : ∀ n ∈ ns, inLow lo hi n.key = true) (hmax : ps.length + ns.length ≤ 1000) :
    Calls Try.prog 24 #[r.v, u] w fun e w' => ∃ v' ks, e = .returned v' ∧ TsV 0 w' (Gr S w w') v' ks ∧ TkR 0 lo hi ks (foldOne ps ns) (ps.length + ns.length) ∧ Below w.heap.size w w' := by
  have hfi := fun wx (hb : Below w.heap.size w wx) => filled_any r lo hi ps u ns wx S (hS.on hb) (NodeB.on hN hS hb) (hB.on hb) hw hin hr hn (by omega)
  have hlf := fun wx => isleaf_any r wx
  have h2 : r.k = nilS := hN.2.1
  rw [h2] at hlf
  have HFI := Lib.hid hfi
  have HLF := Lib.hid hlf
  clear hS hN hB hw hin hr hn hmax hfi hlf h2
  obtain ⟨lo', ⟨ka, kn, kc⟩, ⟨na, nn, nc⟩, ⟨pa, pn, pc⟩⟩ := r
  obtain ⟨w0, hw0⟩ : ∃ w0, w0 = w.alloc (.cells #[.string lo', .slice ka kn kc, .slice na nn nc, .slice pa pn pc] 30) := ⟨_, rfl⟩
  obtain ⟨g, hg⟩ : ∃ g, g = w.heap.size := ⟨_, rfl⟩
  have HB0 := Lib.hid (show Below w.heap.size w w0 from by rw [hw0]; exact (Below.refl _ _).alloc (Nat.le_refl _) _)
  have BX := Lib.hid (show NdB w0 g ⟨lo', ⟨ka, kn, kc⟩, ⟨na, nn, nc⟩, ⟨pa, pn, pc⟩⟩ from by rw [hw0]; exact Box.at_ w _ _ hg)
  have hl0 : ∀ wx, Calls Try.prog 43 #[.agg #[.string lo', .slice ka kn kc, .slice na nn nc, .slice pa pn pc]] wx fun e w' => e = .returned (.bool true) ∧ Below wx.heap.size wx w' := HLF.out
  have hf0 : ∀ wx, Below w.heap.size w wx → Calls Try.prog 44 #[.agg #[.string lo', .slice ka kn kc, .slice na nn nc, .slice pa pn pc], u] wx fun e w' => ∃ v' ks, e = .returned v' ∧ TsV 0 w' (Gr S wx w') v' ks ∧ TkR 0 lo hi ks (foldOne ps ns) (ps.length + ns.length) ∧ Below wx.heap.size wx w' := HFI.out
  have HL0 := Lib.hid hl0
  have HF0 := Lib.hid hf0
  clear hl0 hf0 HFI HLF
  show Calls Try.prog 24 #[.agg #[.string lo', .slice ka kn kc, .slice na nn nc, .slice pa pn pc], u] w fun e w' => ∃ v' ks, e = .returned v' ∧ TsV 0 w' (Gr S w w') v' ks ∧ TkR 0 lo hi ks (foldOne ps ns) (ps.length + ns.length) ∧ Below w.heap.size w w'
  go_enter Try.func24, Try.ntmps24
  go_upto_region 1 with fail
  rw [← hg, ← hw0]
  clear hg hw0
  obtain ⟨b0, b1, b2, b3⟩ := NdB.cells BX.out
  simp only at b0 b1 b2 b3
  go_wp2_with fail
  refine (HL0.out w0).mono ?_
  clear b0 b1 b2 b3
  rintro e w1 ⟨rfl, hb1⟩
  have HB1 := Lib.hid (HB0.out.trans (hb1.mono HB0.out.size))
  have BX1 := Lib.hid (show NdB w1 g ⟨lo', ⟨ka, kn, kc⟩, ⟨na, nn, nc⟩, ⟨pa, pn, pc⟩⟩ from BX.out.on hb1)
  obtain ⟨b0, b1, b2, b3⟩ := NdB.cells BX1.out
  simp only at b0 b1 b2 b3
  clear hb1 BX
  go_wp2_with fail
  refine (HF0.out w1 HB1.out).mono ?_
  clear b0 b1 b2 b3
  rintro e w2 ⟨v2, ks2, rfl, ht, hk, hb2⟩
  have HT := Lib.hid (ht.mono fun b hg => gr_late HB1.out.size b hg)
  have HK := Lib.hid hk
  clear ht hk
  go_wp2
  go_ret
  exact ⟨_, ks2, rfl, HT.out, HK.out, HB1.out.trans (hb2.mono HB1.out.size)⟩
theorem take_zero : TakeC 0 := by
  intro r lo hi t u ns w S hS hN hok hB hw hin hsz
  exact taking_leaf r lo hi t u ns w S hS hN hB hok.1 hok.2.2.2 (wellN_right hw) hin hsz

/-- What is kept while notes go down from a node. -/
def TakJ (h : Nat) (lo : ByteArray) (hi : Option ByteArray) (S : Nat → Prop) (T : List Pr) (M : Nat) (w wr : World) (v5 v7 : Value) : Prop :=
  ∃ ks W, TsV h wr (Gr S w wr) v7 ks ∧ NV wr v5 W ∧ Lv h lo hi ks W ∧ foldOne (kp h ks) W = T ∧ szK h ks + W.length ≤ M

set_option maxHeartbeats 2000000 in
set_option maxRecDepth 100000 in
theorem take_succ (h : Nat) (HS : SinkC h) : TakeC (h + 1) := by
  intro r lo hi t u ns w S hS hN hok hB hw hin hsz
  have hszt : szH (h + 1) t = t.1.length + szK h t.2 := rfl
  obtain ⟨T, hT⟩ : ∃ T, T = foldOne (pairsH (h + 1) t) ns := ⟨_, rfl⟩
  obtain ⟨M, hM⟩ : ∃ M, M = szH (h + 1) t + ns.length := ⟨_, rfl⟩
  rw [← hT, ← hM]
  obtain ⟨ok1, ok2, ok3, ok4, ⟨x0, r0, e0⟩, ok5⟩ := hok
  have hpu : ∀ (wx : World) (v : Value), NV wx v t.1 → NV wx u ns → Calls Try.prog 22 #[v, u] wx fun e w' => ∃ v', e = .returned (.tuple #[v', .int .i64 0]) ∧ NV w' v' (pushL t.1 ns) ∧ Below wx.heap.size wx w' := fun wx v h1 h2 => by
    have h3 := ppush_v h1 h2 (by omega)
    have e1 : pushA t.1 ns = pushL t.1 ns ∧ pushE t.1 ns = 0 := by unfold pushA pushE; rw [ok1, wellN_right hw]; exact ⟨rfl, rfl⟩
    rw [e1.1, e1.2] at h3
    exact h3
  have hjs : Lv h lo hi t.2 (pushL t.1 ns) ∧ foldOne (kp h t.2) (pushL t.1 ns) = T ∧ szK h t.2 + (pushL t.1 ns).length ≤ M := by
    have hpin : ∀ n ∈ pushL t.1 ns, inLow lo hi n.key = true := fun n hn => by
      rcases push_keys (wellN_sorted ok1) hn with ⟨m, hm, e⟩ | ⟨m, hm, e⟩
      · rw [← e]; exact ok3 m hm
      · rw [← e]; exact hin m hm
    refine ⟨⟨ok5, well_pushL ok1 (wellN_right hw), fun n hn => (inLow_iff.1 (hpin n hn)).2, fun e => (by rw [e0] at e; cases e), fun k r e => ?_⟩, ?_, ?_⟩
    · rw [e0] at e
      injection e with e
      rw [← e]
      exact ⟨by show ¬ lo < lo; grind, fun n hn => (inLow_iff.1 (hpin n hn)).1⟩
    · rw [push_does (kp_sorted (okNK ok5)) (wellN_sorted ok1), foldOne_append, hT]; rfl
    · have := len_pushL (wellN_sorted ok1) ns
      omega
  obtain ⟨n1, n2, n3, rs, n4, n5⟩ := hN
  have hkn : r.k.n ≠ 0 := by
    have h1 := n4.1
    have h2 := n5.len
    rw [e0, List.length_cons] at h2
    omega
  have hlf := fun wx => isleaf_any r wx
  rw [decide_eq_false hkn] at hlf
  have HPU := Lib.hid hpu
  have HJS := Lib.hid hjs
  have HU := Lib.hid hS
  have HK := Lib.hid (show TsV h w S (.slice r.k.a r.k.n r.k.c) t.2 from ⟨r.k, rs, rfl, n4, n5⟩)
  have HNN := Lib.hid (show NV w (.slice r.n.a r.n.n r.n.c) t.1 from n2.nv hS)
  have HB := Lib.hid hB
  have HM := Lib.hid (show M ≤ 1000 from by omega)
  have HTT := Lib.hid hT
  clear hS hB hw hin hsz hszt hT hM ok1 ok2 ok3 ok4 e0 ok5 hpu hjs n2 n3 n4 n5 hkn
  obtain ⟨lo', ⟨ka, kn, kc⟩, ⟨na, nn, nc⟩, ⟨pa, pn, pc⟩⟩ := r
  simp only at n1
  subst n1
  obtain ⟨w0, hw0⟩ : ∃ w0, w0 = w.alloc (.cells #[.string lo', .slice ka kn kc, .slice na nn nc, .slice pa pn pc] 30) := ⟨_, rfl⟩
  obtain ⟨g, hg⟩ : ∃ g, g = w.heap.size := ⟨_, rfl⟩
  have HB0 := Lib.hid (show Below w.heap.size w w0 from by rw [hw0]; exact (Below.refl _ _).alloc (Nat.le_refl _) _)
  have BX := Lib.hid (show NdB w0 g ⟨lo', ⟨ka, kn, kc⟩, ⟨na, nn, nc⟩, ⟨pa, pn, pc⟩⟩ from by rw [hw0]; exact Box.at_ w _ _ hg)
  have hl0 : ∀ wx, Calls Try.prog 43 #[.agg #[.string lo', .slice ka kn kc, .slice na nn nc, .slice pa pn pc]] wx fun e w' => e = .returned (.bool false) ∧ Below wx.heap.size wx w' := hlf
  have HL0 := Lib.hid hl0
  clear hl0 hlf
  show Calls Try.prog 24 #[.agg #[.string lo', .slice ka kn kc, .slice na nn nc, .slice pa pn pc], u] w fun e w' => ∃ v' ks, e = .returned v' ∧ TsV (h + 1) w' (Gr S w w') v' ks ∧ TkR (h + 1) lo' hi ks T M ∧ Below w.heap.size w w'
  go_enter Try.func24, Try.ntmps24
  go_upto_region 1 with fail
  rw [← hg, ← hw0]
  clear hg hw0
  obtain ⟨b0, b1, b2, b3⟩ := NdB.cells BX.out
  simp only at b0 b1 b2 b3
  go_wp2_with fail
  refine (HL0.out w0).mono ?_
  clear b0 b1 b2 b3
  rintro e w1 ⟨rfl, hb1⟩
  have HB1 := Lib.hid (HB0.out.trans (hb1.mono HB0.out.size))
  have BX1 := Lib.hid (show NdB w1 g ⟨lo', ⟨ka, kn, kc⟩, ⟨na, nn, nc⟩, ⟨pa, pn, pc⟩⟩ from BX.out.on hb1)
  obtain ⟨b0, b1, b2, b3⟩ := NdB.cells BX1.out
  simp only at b0 b1 b2 b3
  have hc1 := HPU.out w1 _ (HNN.out.on HB1.out) (HB.out.on HB1.out)
  clear hb1 BX HB0
  go_wp2_with fail
  refine hc1.mono ?_
  clear hc1 b0 b1 b2 b3
  rintro e w2 ⟨v5, rfl, hv5, hb2⟩
  have HB2 := Lib.hid (HB1.out.trans (hb2.mono HB1.out.size))
  have BX2 := Lib.hid (show NdB w2 g ⟨lo', ⟨ka, kn, kc⟩, ⟨na, nn, nc⟩, ⟨pa, pn, pc⟩⟩ from BX1.out.on hb2)
  obtain ⟨b0, b1, b2, b3⟩ := NdB.cells BX2.out
  simp only at b0 b1 b2 b3
  have HV5 := Lib.hid hv5
  have HGW := Lib.hid (show g < w2.heap.size from Box.lt BX2.out)
  clear hb2 BX1 HB1 hv5
  go_wp2
  go_loopw [5, 7] (fun v5 v7 wr => Hid (TakJ h lo' hi S T M w wr v5 v7) ∧ Below w2.heap.size w2 wr) (fun v5 _ _ => lenV v5)
  case atStart => exact ⟨⟨t.2, pushL t.1 ns, (HK.out.on HU.out HB2.out).mono gr_in, HV5.out, HJS.out⟩, Below.refl _ _⟩
  case round =>
    clear b0 b1 b2 b3 HV5 HJS HK HNN HB
    obtain ⟨HJ, hbr⟩ := hrel
    have HBR := Lib.hid hbr
    have hbs := hbr.size
    have HBW := Lib.hid (HB2.out.trans (hbr.mono HB2.out.size))
    obtain ⟨ks, W, hts, hnv, hlv, hpe, hse⟩ := HJ.out
    have hnv0 := hnv
    obtain ⟨B, d, rfl, _, _, _⟩ := hnv
    have hu := und_gr (w3 := w) (HU.out.on HBW.out)
    by_cases hlt : 6 < W.length
    · have hsk := HS lo' hi u7 _ ks W wr (Gr S w wr) hu hts hnv0 hlv (by omega) (by have := HM.out; omega)
      have hgt : decide ((6 : Int) < (W.length : Int)) = true := by simp; omega
      have HPE := Lib.hid (And.intro hpe hse)
      clear hts hnv0 hlv hpe hse hu HJ hlt
      obtain ⟨nw, hnw⟩ : ∃ nw, W.length = nw := ⟨_, rfl⟩
      have HNW := Lib.hid hnw
      rw [hnw] at hsk hgt ⊢
      clear hnw
      go_wp2_with fail
      refine hsk.mono ?_
      clear hsk
      rintro e w4 ⟨v', u', ks', W', rfl, ht', hn', hl', hw', hp', hs', hb4⟩
      have HBR4 := Lib.hid (HBR.out.trans (hb4.mono HBR.out.size))
      have HJ4 := Lib.hid (show TakJ h lo' hi S T M w w4 u' v' from ⟨ks', W', ht'.mono fun b hb => gr_trans HBW.out.size b hb hb4.size, hn', hl', by rw [hp']; exact HPE.out.1, by have h1 := HPE.out.2; have h2 := HNW.out; omega⟩)
      obtain ⟨B', d', rfl, _⟩ := hn'
      have HW' := Lib.hid hw'
      clear ht' hl' hw' hp' hs' hb4
      go_wp2
      go_roundw
      case rel => exact ⟨HJ4, HBR4.out⟩
      case measure => show lenV (.slice B' W'.length d') < lenV (.slice B nw d); exact HW'.out
    · have hle6 : W.length ≤ 6 := by omega
      have hgt : decide ((6 : Int) < (W.length : Int)) = false := by simp; omega
      have hkb : ks.length ≤ 1000 := by have := len_szK hlv.1; have := HM.out; omega
      have hbg := begun_v h lo' hu hts hlv.1 (by omega)
      have HLV := Lib.hid hlv
      have HPE := Lib.hid (And.intro hpe hse)
      have HL6 := Lib.hid (And.intro hle6 hkb)
      have HNV := Lib.hid hnv0
      have BX4 := Lib.hid (show NdB wr g ⟨lo', ⟨ka, kn, kc⟩, ⟨na, nn, nc⟩, ⟨pa, pn, pc⟩⟩ from Box.below (B := w2.heap.size) BX2.out hbr HGW.out)
      obtain ⟨b0, b1, b2, b3⟩ := NdB.cells BX4.out
      simp only at b0
      clear hts hnv0 hlv hpe hse HJ hlt b1 b2 b3 hkb hle6 hbr hbs
      have HUU := Lib.hid hu
      clear hu
      obtain ⟨nw, hnw⟩ : ∃ nw, W.length = nw := ⟨_, rfl⟩
      have HNW := Lib.hid hnw
      rw [hnw] at hgt ⊢
      clear hnw
      go_wp2_with fail
      refine hbg.mono ?_
      clear hbg b0
      rintro e w4 ⟨v4, rfl, ht4, hb4⟩
      have HB4 := Lib.hid (HBW.out.trans (hb4.mono HBW.out.size))
      have hlv4 : Lv h lo' hi (lowK h lo' ks) W := by
        obtain ⟨l1, l2, l3, l4, l5⟩ := HLV.out
        refine ⟨okK_low l1 fun k r e => (l5 k r e).1, l2, l3, fun e => l4 ?_, fun k r e => ?_⟩
        · cases ks with
          | nil => rfl
          | cons _ _ => cases e
        · cases ks with
          | nil => cases e
          | cons y ys =>
            injection e with e
            rw [← e]
            have h5 := l5 y ys rfl
            refine ⟨by show ¬ lo' < lo'; grind, fun n hn => ?_⟩
            have h6 := h5.2 n hn
            have h7 := h5.1
            show ¬ n.key < lo'
            grind
      have hlk : (lowK h lo' ks).length = ks.length := by cases ks <;> rfl
      have hn4 := HNV.out.on hb4
      have hov := over_v (und_gr (w3 := wr) (HUU.out.on hb4)) ht4 hn4 hlv4 HL6.out.1 (by rw [hlk]; have := HL6.out.2; omega)
      rw [HNW.out] at hov
      have HS4 := Lib.hid hb4.size
      clear ht4 hb4 hlv4 hlk hn4
      go_wp2_with fail
      refine hov.mono ?_
      clear hov
      rintro e w5 ⟨v', N, rfl, hts5, hok5, hkp5, hsz5, hln5, hfs5, hb5⟩
      have HTS := Lib.hid hts5
      have HR5 := Lib.hid (And.intro hok5 (And.intro hkp5 (And.intro hsz5 (And.intro hln5 hfs5))))
      clear hts5 hok5 hkp5 hsz5 hln5 hfs5
      go_wp2
      go_ret
      have hs5 := hb5.size
      obtain ⟨r1, r2, r3, r4, r5⟩ := HR5.out
      refine ⟨_, N, rfl, HTS.out.mono fun b hb => ?_, ⟨r1, ?_, ?_, ?_⟩, HB4.out.trans (hb5.mono HB4.out.size)⟩
      · rcases hb with hb | hb
        · exact gr_mono hs5 b (gr_trans HBW.out.size b hb HS4.out)
        · exact .inr ⟨by have := HB4.out.size; omega, hb.2⟩
      · cases ks with
        | nil =>
          left
          have : N.length = 0 := by rw [r4]; simp [lowK]
          exact List.length_eq_zero_iff.1 this
        | cons y ys =>
          right
          obtain ⟨x, r', e⟩ := r5 (lo', lowN h lo' y.2) ys rfl
          exact ⟨x, r', e⟩
      · rw [r2, kp_low]; exact HPE.out.1
      · rw [r3, szK_low]; have := HPE.out.2; rw [HNW.out] at this; exact this
theorem take_all : ∀ h, TakeC h
  | 0 => take_zero
  | h + 1 => take_succ h (sink_any h (take_all h))

end Go.Proofs.Yteddjmkoleclpaa

namespace Go.Proofs.Yteddjmkoleclpaa
open Go.RowKit

/-- A whole tree: none of its leaves is empty, but it may be one of none. -/
def Top : (h : Nat) → TrH h → Prop
  | 0, ps => List.length (α := Pr) ps = 0 ∨ okN 0 noB none ps
  | h + 1, t => okN (h + 1) noB none t
theorem top_of : ∀ {h : Nat} {t : TrH h}, okN h noB none t → Top h t
  | 0, _, h => .inr h
  | _ + 1, _, h => h
theorem top_ok : ∀ {h : Nat} {t : TrH h}, Top h t → okH h noB none t
  | 0, t, .inl h => by
    have e : t = ([] : List Pr) := List.length_eq_zero_iff.1 h
    subst e
    exact ⟨rfl, Nat.zero_le _, rfl, fun p hp => by cases hp⟩
  | 0, _, .inr h => (okN_okH 0 noB none _ h).1
  | h + 1, t, hk => (okN_okH (h + 1) noB none t hk).1
/-- A value that is a tree of these pairs, in blocks of those that S tells. -/
def TreeS (w : World) (S : Nat → Prop) (v : Value) (p : List Pr) (M H : Nat) : Prop := ∃ (h : Nat) (r : Nr) (t : TrH h), v = r.v ∧ NodeB h w S r noB t ∧ Top h t ∧ pairsH h t = p ∧ szH h t ≤ M ∧ h ≤ H
/-- A value that is a tree of these pairs. -/
def TreeV (w : World) (v : Value) (p : List Pr) (M H : Nat) : Prop := TreeS w (All w) v p M H
theorem TreeS.tv {w : World} {S : Nat → Prop} {v : Value} {p : List Pr} {M H : Nat} (h : TreeS w S v p M H) (hS : Und w S) : TreeV w v p M H := by
  obtain ⟨n, r, t, e, h1, h2⟩ := h
  exact ⟨n, r, t, e, h1.mono hS, h2⟩
theorem TreeV.on {w w' : World} {v : Value} {p : List Pr} {M H : Nat} (h : TreeV w v p M H) (hb : Below w.heap.size w w') : TreeV w' v p M H := by
  obtain ⟨n, r, t, e, h1, h2⟩ := h
  refine ⟨n, r, t, e, (h1.on (fun b h => h) hb).mono fun b h => ?_, h2⟩
  have h3 : b < w.heap.size := h
  have := hb.size
  show b < w'.heap.size
  omega
theorem TreeV.more {w : World} {v : Value} {p : List Pr} {M M' H H' : Nat} (h : TreeV w v p M H) (hM : M ≤ M') (hH : H ≤ H') : TreeV w v p M' H' := by
  obtain ⟨n, r, t, e, h1, h2, h3, h4, h5⟩ := h
  exact ⟨n, r, t, e, h1, h2, h3, by omega, by omega⟩

/-! How deep a node is, by what lies in memory. -/
def depthF : Nat → World → Value → Nat
  | 0, _, _ => 0
  | F + 1, w, v => match v with
    | .slice (some ad) n _ => if n = 0 then 0 else 1 + depthF F w ((w.cell? ⟨ad.block, ad.off + 1, none⟩).getD undef)
    | _ => 0
theorem depth_is : ∀ (F h : Nat) {w : World} {S : Nat → Prop} {r : Nr} {lo : ByteArray} {hi : Option ByteArray} {t : TrH h}, NodeB h w S r lo t → okN h lo hi t → h ≤ F → depthF F w (.slice r.k.a r.k.n r.k.c) = h
  | 0, 0, _, _, _, _, _, _, _, _, _ => rfl
  | F + 1, 0, w, S, r, lo, hi, t, hn, _, _ => by
    rw [hn.2.1]; rfl
  | F + 1, h + 1, w, S, r, lo, hi, t, hn, hok, hF => by
    obtain ⟨h1, h2, h3, rs, h4, h5⟩ := hn
    obtain ⟨_, _, _, _, ⟨x, r0, e⟩, h6⟩ := hok
    rw [e] at h5 h6
    cases rs with
    | nil => exact h5.elim
    | cons y ys =>
      obtain ⟨ad, ea, _, hc⟩ := h4.2.1 (by simp)
      have c1 := hc 0 (by simp) 1 (.slice y.k.a y.k.n y.k.c) rfl
      rw [Nat.zero_mul, Addr.add_zero', Addr.add_succ'] at c1
      have hn : r.k.n ≠ 0 := by rw [h4.1]; simp
      rw [ea]
      show (if r.k.n = 0 then 0 else 1 + depthF F w ((w.cell? ⟨ad.block, ad.off + 1, none⟩).getD undef)) = h + 1
      rw [if_neg hn, c1]
      show 1 + depthF F w (.slice y.k.a y.k.n y.k.c) = h + 1
      rw [depth_is F h h5.1 h6.1 (by omega)]
      omega

theorem NdB.put {w : World} {g : Nat} {t : TypeId} {r : Nr} (h : Box w g t #[.string r.low, .slice r.k.a r.k.n r.k.c, .slice r.n.a r.n.n r.n.c, .slice r.p.a r.p.n r.p.c]) (q : Nr) :
    Box ((((w.setCell ⟨g, 0, none⟩ (.string q.low)).setCell ⟨g, 1, none⟩ (.slice q.k.a q.k.n q.k.c)).setCell ⟨g, 2, none⟩ (.slice q.n.a q.n.n q.n.c)).setCell ⟨g, 3, none⟩ (.slice q.p.a q.p.n q.p.c)) g t #[.string q.low, .slice q.k.a q.k.n q.k.c, .slice q.n.a q.n.n q.n.c, .slice q.p.a q.p.n q.p.c] :=
  Box.set (Box.set (Box.set (Box.set h 0 _) 1 _) 2 _) 3 _

/-- What is kept while nodes get nodes over them. -/
def TreJ (S : Nat → Prop) (T : List Pr) (M H : Nat) (w wr : World) (v : Value) : Prop :=
  ∃ h ks, TsV h wr (Gr S w wr) v ks ∧ okK (okN h) none ks ∧ (ks = [] ∨ ∃ x r, ks = (noB, x) :: r) ∧ kp h ks = T ∧ szK h ks ≤ M ∧ h + ks.length ≤ H
/-- What is kept while a tree gets low again. -/
def LowJ (S : Nat → Prop) (T : List Pr) (M H : Nat) (g : Nat) (wr : World) : Prop :=
  ∃ h r t, Box wr g 30 #[.string r.low, .slice r.k.a r.k.n r.k.c, .slice r.n.a r.n.n r.n.c, .slice r.p.a r.p.n r.p.c] ∧ NodeB h wr S r noB t ∧ okN h noB none t ∧ pairsH h t = T ∧ szH h t ≤ M ∧ h ≤ H

set_option maxHeartbeats 4000000 in
set_option maxRecDepth 100000 in
theorem tree_any (S : Nat → Prop) (T : List Pr) (M H : Nat) (v : Value) (w : World) (hS : Und w S) (hJ : TreJ S T M H w w v) (hM : M ≤ 1000) :
    Calls Try.prog 23 #[v] w fun e w' => ∃ u, e = .returned u ∧ TreeS w' (Gr S w w') u T M H ∧ Below w.heap.size w w' := by
  obtain ⟨g2, hg2⟩ : ∃ g2, g2 = w.heap.size := ⟨_, rfl⟩
  obtain ⟨w1, hw1⟩ : ∃ w1, w1 = w.alloc (.cells #[.string noB, .slice none 0 0, .slice none 0 0, .slice none 0 0] 32) := ⟨_, rfl⟩
  have HB1 := Lib.hid (show Below w.heap.size w w1 from by rw [hw1]; exact (Below.refl _ _).alloc (Nat.le_refl _) _)
  have HX1 := Lib.hid (show Box w1 g2 32 #[.string noB, .slice none 0 0, .slice none 0 0, .slice none 0 0] from by rw [hw1]; exact Box.at_ w _ _ hg2)
  have HG2 := Lib.hid hg2
  have HU := Lib.hid hS
  have HJ0 := Lib.hid (show TreJ S T M H w1 w1 v from by
    obtain ⟨h, ks, j1, j2⟩ := hJ
    exact ⟨h, ks, (((j1.on (und_gr hS) HB1.out).mono fun b hb => by
      rcases hb with hb | hb
      · exact .inl hb
      · omega) : TsV h w1 (Gr S w1 w1) v ks), j2⟩)
  have HM := Lib.hid hM
  clear hS hJ hM
  go_enter Try.func23, Try.ntmps23
  go_upto_region 1 with fail
  rw [← hg2, ← hw1]
  clear hg2 hw1
  go_loopw [0] (fun v0 wr => Hid (TreJ S T M H w1 wr v0) ∧ Below w1.heap.size w1 wr) (fun v0 _ => lenV v0)
  case atStart => exact ⟨HJ0, Below.refl _ _⟩
  case round =>
    clear HJ0
    obtain ⟨HJ, hbr⟩ := hrel
    have HBR := Lib.hid hbr
    have HBW := Lib.hid (HB1.out.trans (hbr.mono HB1.out.size))
    have HUW := Lib.hid (und_gr (w3 := w1) (HU.out.on HBW.out))
    obtain ⟨h, ks, jts, jok, jf, jp, js, jh⟩ := HJ.out
    obtain ⟨⟨A1, n1, c1⟩, rs, rfl, hR, hN⟩ := jts
    have hlen : n1 = ks.length := hR.1.trans hN.len
    have hkb : ks.length ≤ 1000 := by have := len_szK jok; have := HM.out; omega
    by_cases h1 : 1 < n1
    · have hgt : decide ((1 : Int) < (n1 : Int)) = true := by simp; omega
      have hlv : Lv h noB none ks [] := by
        refine ⟨jok, rfl, fun n hn => (by cases hn), fun _ => rfl, fun k r e => ?_⟩
        rcases jf with rfl | ⟨x, r', rfl⟩
        · cases e
        · injection e with e
          rw [← e]
          exact ⟨by show ¬ noB < noB; grind, fun n hn => (by cases hn)⟩
      have hov := over_v (v := .slice A1 n1 c1) HUW.out ⟨⟨A1, n1, c1⟩, rs, rfl, hR, hN⟩ (NV.nil wr) hlv (by simp) (by omega)
      have HJJ := Lib.hid (And.intro jf (And.intro jp (And.intro js (And.intro jh (And.intro hlen h1)))))
      clear hR hN hlen hkb h1 hlv jok jf jp js jh HJ
      go_wp2_with fail
      refine hov.mono ?_
      clear hov
      rintro e w2 ⟨v2, N, rfl, ht2, hk2, hp2, hs2, hl2, hf2, hb2⟩
      have HBR2 := Lib.hid (HBR.out.trans (hb2.mono HBR.out.size))
      obtain ⟨jf, jp, js, jh, jl, jn⟩ := HJJ.out
      have hsl := ht2
      obtain ⟨⟨A3, n3, c3⟩, rs3, rfl, hR3, hN3⟩ := hsl
      have hn3 : n3 = N.length := hR3.1.trans hN3.len
      have HJ2 := Lib.hid (show TreJ S T M H w1 w2 (.slice A3 n3 c3) ∧ n3 < n1 from ⟨⟨h + 1, N, ht2.mono fun b hb => gr_trans HBR.out.size b hb hb2.size, hk2, by
        rcases jf with rfl | ⟨x, r', rfl⟩
        · left; exact List.length_eq_zero_iff.1 (by rw [hl2]; simp)
        · obtain ⟨y, r2, e⟩ := hf2 _ _ rfl
          exact .inr ⟨y, r2, e⟩, by rw [hp2]; exact jp, by rw [hs2]; simpa using js, by omega⟩, by omega⟩)
      clear ht2 hk2 hp2 hs2 hl2 hf2 hb2 hR3 hN3 hn3 jf jp js jh jl jn
      go_wp2
      go_roundw
      case rel => exact ⟨HJ2.out.1, HBR2.out⟩
      case measure => show n3 < n1; exact HJ2.out.2
    · have hgt : decide ((1 : Int) < (n1 : Int)) = false := by simp; omega
      by_cases h0 : n1 = 0
      · subst h0
        have hks : ks = [] := List.length_eq_zero_iff.1 hlen.symm
        have HT := Lib.hid (show T = [] from by rw [← jp, hks]; rfl)
        have hbx := Box.below (B := w1.heap.size) HX1.out hbr (Box.lt HX1.out)
        have HX := Lib.hid hbx
        have f0 := Box.free hbx 0
        have f1 := Box.free hbx 1
        have f2 := Box.free hbx 2
        have f3 := Box.free hbx 3
        have k0 := Box.cell hbx 0 rfl
        have k1 := Box.cell hbx 1 rfl
        have k2 := Box.cell hbx 2 rfl
        have k3 := Box.cell hbx 3 rfl
        clear hbx hR hN hlen hkb h1 hks jok jf jp js jh HJ hgt hbr
        go_wp2
        obtain ⟨wx, hx⟩ : ∃ wx, wx = ((((wr.setCell ⟨g2, 0, none⟩ (.string noB)).setCell ⟨g2, 1, none⟩ (.slice none 0 0)).setCell ⟨g2, 2, none⟩ (.slice none 0 0)).setCell ⟨g2, 3, none⟩ (.slice none 0 0)) := ⟨_, rfl⟩
        have hq : Box wx g2 32 #[.string noB, .slice none 0 0, .slice none 0 0, .slice none 0 0] := by rw [hx]; exact NdB.put (r := ⟨noB, nilS, nilS, nilS⟩) HX.out ⟨noB, nilS, nilS, nilS⟩
        have hw : Below w.heap.size w wx := by rw [hx]; exact below_put HBW.out (Nat.le_of_eq HG2.out.symm) _ _ _ _
        rw [← hx]
        have p0 := Box.cell hq 0 rfl
        have p1 := Box.cell hq 1 rfl
        have p2 := Box.cell hq 2 rfl
        have p3 := Box.cell hq 3 rfl
        exact bodyPost_ret (v := Nr.v ⟨noB, nilS, nilS, nilS⟩) (by simp [results, Try.results23, go_sem, Nr.v, nilS, p0, p1, p2, p3]) rfl ⟨_, rfl, ⟨0, ⟨noB, nilS, nilS, nilS⟩, ([] : List Pr), rfl, ⟨rfl, rfl, rfl, SlB.nil⟩, .inl rfl, by rw [HT.out]; rfl, Nat.zero_le _, Nat.zero_le _⟩, hw⟩
      · have hn1 : n1 = 1 := by omega
        subst hn1
        obtain ⟨k, rfl⟩ : ∃ k, ks = [k] := by
          match ks, hlen with
          | [k], _ => exact ⟨k, rfl⟩
        obtain ⟨r, rfl⟩ : ∃ r, rs = [r] := by
          have h2 := hN.len
          match rs, h2 with
          | [r], _ => exact ⟨r, rfl⟩
        have hk1 : k.1 = noB := by
          rcases jf with e | ⟨x, r', e⟩
          · cases e
          · injection e with e; rw [e]
        have hnd : NodeB h wr (Gr S w1 wr) r noB k.2 := by
          have h3 : NodeB h wr (Gr S w1 wr) r k.1 k.2 := hN.1
          rwa [hk1] at h3
        have hokk : okN h noB none k.2 := by
          have h3 : okN h k.1 none k.2 := jok.1
          rwa [hk1] at h3
        obtain ⟨ad, hea, hab, hca⟩ := (hR.2.1.lies HUW.out).seeK (by simp)
        simp only at hea
        subst hea
        obtain ⟨c0, c1', c2, c3⟩ := hca 0 (by simp)
        simp only [List.getElem_cons_zero] at c0 c1' c2 c3
        rw [Nat.zero_mul, Addr.add_zero'] at c0 c1' c2 c3
        have HP := Lib.hid (show pairsH h k.2 = T ∧ szH h k.2 ≤ M ∧ h ≤ H from by
          refine ⟨by rw [← jp]; show _ = pairsH h k.2 ++ []; rw [List.append_nil], ?_, by simp at jh; omega⟩
          have h3 : szK h [k] = szH h k.2 + 0 := rfl
          omega)
        obtain ⟨g3, hg3⟩ : ∃ g3, g3 = wr.heap.size := ⟨_, rfl⟩
        obtain ⟨w3, hw3⟩ : ∃ w3, w3 = wr.alloc (.cells #[.string r.low, .slice r.k.a r.k.n r.k.c, .slice r.n.a r.n.n r.n.c, .slice r.p.a r.p.n r.p.c] 30) := ⟨_, rfl⟩
        have HG3 := Lib.hid (show wr.heap.size ≤ g3 from Nat.le_of_eq hg3.symm)
        have HB3 := Lib.hid (show Below wr.heap.size wr w3 from by rw [hw3]; exact (Below.refl _ _).alloc (Nat.le_refl _) _)
        have HL0 := Lib.hid (show LowJ (Gr S w1 wr) T M H g3 w3 from ⟨h, r, k.2, by rw [hw3]; exact Box.at_ wr _ _ hg3, NodeB.on hnd HUW.out HB3.out, hokk, HP.out.1, HP.out.2.1, HP.out.2.2⟩)
        obtain ⟨lo', ⟨ka, kn, kc⟩, ⟨na, nn, nc⟩, ⟨pa, pn, pc⟩⟩ := r
        simp only at c0 c1' c2 c3
        have HBX2 := Lib.hid (show g2 < wr.heap.size from by have := Box.lt HX1.out; have := hbr.size; omega)
        have HX2 := Lib.hid (Box.below (B := w1.heap.size) HX1.out hbr (Box.lt HX1.out))
        clear hR hN hlen hkb h1 jok jf jp js jh HJ hgt hbr hk1 hnd hokk hca h0
        go_upto_region 6 with fail
        rw [← hg3, ← hw3]
        clear hg3 hw3 c0 c1' c2 c3
        obtain ⟨wb, hwb⟩ : ∃ wb, wb = wr := ⟨_, rfl⟩
        rw [← hwb] at HBW HUW HB3 HL0 HG3 HBX2 HX2
        clear hwb HBR HP hab
        go_loopw [] (fun wq => Hid (LowJ (Gr S w1 wb) T M H g3 wq) ∧ Below wb.heap.size wb wq) (fun wq => depthF H wq ((wq.cell? ⟨g3, 1, none⟩).getD undef))
        case atStart => exact ⟨HL0, HB3.out⟩
        case round =>
          clear HL0 HB3
          obtain ⟨HL, hbq⟩ := hrel
          have HBQ := Lib.hid hbq
          obtain ⟨h', r', t', lbx, lnd, lok, lp, ls, lh⟩ := HL.out
          have hdp := depth_is H h' lnd lok lh
          have k0 := Box.cell lbx 0 rfl
          have k1 := Box.cell lbx 1 rfl
          have k2 := Box.cell lbx 2 rfl
          have k3 := Box.cell lbx 3 rfl
          have HLB := Lib.hid lbx
          have HND := Lib.hid lnd
          have HLP := Lib.hid (And.intro lok (And.intro lp (And.intro ls (And.intro lh hdp))))
          obtain ⟨lo2, ⟨ka2, kn2, kc2⟩, ⟨na2, nn2, nc2⟩, ⟨pa2, pn2, pc2⟩⟩ := r'
          simp only at k0 k1 k2 k3
          clear lbx lnd lok lp ls lh hdp HL
          by_cases hgo : kn2 = 1 ∧ nn2 = 0
          · obtain ⟨hg1, hg2⟩ := hgo
            subst hg1 hg2
            cases h' with
            | zero =>
              have := HND.out.2.1
              injection this with _ e _
              cases e
            | succ h' =>
              obtain ⟨m1, m2, m3, rs', m4, m5⟩ := HND.out
              have hl1 : rs'.length = 1 := m4.1.symm
              obtain ⟨y, rfl⟩ : ∃ y, rs' = [y] := by
                match rs', hl1 with
                | [y], _ => exact ⟨y, rfl⟩
              obtain ⟨p1, p2, p3, p4, ⟨x5, r5, e5⟩, p6⟩ := HLP.out.1
              have hn0 : t'.1 = [] := List.length_eq_zero_iff.1 m2.1.symm
              rw [e5] at m5 p6
              have hr5 : r5 = [] := by
                have h3 := m5.2
                cases r5 with
                | nil => rfl
                | cons _ _ => exact h3.elim
              subst hr5
              obtain ⟨ad2, ea2, hab2, hca2⟩ := (m4.2.1.lies (B := wr.heap.size) (fun b hb => by
                have h3 := und_gr (w3 := w1) (HU.out.on HBW.out) b hb
                have := hbq.size
                omega)).seeK (by simp)
              simp only at ea2
              subst ea2
              obtain ⟨c0, c1, c2, c3⟩ := hca2 0 (by simp)
              simp only [List.getElem_cons_zero] at c0 c1 c2 c3
              rw [Nat.zero_mul, Addr.add_zero'] at c0 c1 c2 c3
              have HNY := Lib.hid (show NodeB h' wr (Gr S w1 wb) y noB x5 from m5.1)
              have HLY := Lib.hid (show okN h' noB none x5 ∧ pairsH h' x5 = T ∧ szH h' x5 ≤ M ∧ h' + 1 ≤ H from by
                obtain ⟨q1, q2, q3, q4, _⟩ := HLP.out
                have e6 : pairsH (h' + 1) t' = pairsH h' x5 := by
                  show foldOne (kp h' t'.2) t'.1 = _
                  rw [hn0, e5]
                  show pairsH h' x5 ++ [] = _
                  rw [List.append_nil]
                have e7 : szH (h' + 1) t' = szH h' x5 := by
                  show t'.1.length + szK h' t'.2 = _
                  rw [hn0, e5]
                  show 0 + (szH h' x5 + 0) = _
                  omega
                exact ⟨p6.1, by rw [← e6]; exact q2, by rw [← e7]; exact q3, q4⟩)
              have HDP := Lib.hid HLP.out.2.2.2.2
              have f0 := Box.free HLB.out 0
              have f1 := Box.free HLB.out 1
              have f2 := Box.free HLB.out 2
              have f3 := Box.free HLB.out 3
              obtain ⟨lo3, ⟨ka3, kn3, kc3⟩, ⟨na3, nn3, nc3⟩, ⟨pa3, pn3, pc3⟩⟩ := y
              simp only at c0 c1 c2 c3
              clear m1 m2 m3 m4 m5 p1 p2 p3 p4 e5 p6 hn0 hca2 hab2 hl1
              go_wp2
              obtain ⟨wx, hx⟩ : ∃ wx, wx = ((((wr.setCell ⟨g3, 0, none⟩ (.string lo3)).setCell ⟨g3, 1, none⟩ (.slice ka3 kn3 kc3)).setCell ⟨g3, 2, none⟩ (.slice na3 nn3 nc3)).setCell ⟨g3, 3, none⟩ (.slice pa3 pn3 pc3)) := ⟨_, rfl⟩
              have hq : Box wx g3 30 #[.string lo3, .slice ka3 kn3 kc3, .slice na3 nn3 nc3, .slice pa3 pn3 pc3] := by rw [hx]; exact NdB.put (r := ⟨lo2, ⟨some ad2, 1, kc2⟩, ⟨na2, 0, nc2⟩, ⟨pa2, pn2, pc2⟩⟩) HLB.out ⟨lo3, ⟨ka3, kn3, kc3⟩, ⟨na3, nn3, nc3⟩, ⟨pa3, pn3, pc3⟩⟩
              have hwq : Below wb.heap.size wb wx := by rw [hx]; exact below_put HBQ.out HG3.out _ _ _ _
              have hkp : ∀ p : Addr, Gr S w1 wb p.block → wx.cell? p = wr.cell? p := fun p hp => by
                have hlt : p.block < wb.heap.size := und_gr (w3 := w1) (HU.out.on HBW.out) _ hp
                rw [hwq.cell hlt, HBQ.out.cell hlt]
              have HLX := Lib.hid (show LowJ (Gr S w1 wb) T M H g3 wx from ⟨h', ⟨lo3, ⟨ka3, kn3, kc3⟩, ⟨na3, nn3, nc3⟩, ⟨pa3, pn3, pc3⟩⟩, x5, hq, NodeB.keep hkp (fun _ h => h) _ _ _ _ HNY.out, HLY.out.1, HLY.out.2.1, HLY.out.2.2.1, by have := HLY.out.2.2.2; omega⟩)
              have HMS := Lib.hid (show depthF H wx ((wx.cell? ⟨g3, 1, none⟩).getD undef) < depthF H wr ((wr.cell? ⟨g3, 1, none⟩).getD undef) from by
                have h3 := depth_is H h' (NodeB.keep hkp (fun _ h => h) _ _ _ _ HNY.out) HLY.out.1 (by have := HLY.out.2.2.2; omega)
                rw [Box.cell hq 1 rfl, Box.cell HLB.out 1 rfl]
                show depthF H wx (.slice ka3 kn3 kc3) < depthF H wr (.slice (some ad2) 1 kc2)
                have h4 := HDP.out
                simp only at h3 h4
                omega)
              rw [← hx]
              have HQ := Lib.hid hwq
              clear hq hwq hkp hx
              go_roundw
              case rel => exact ⟨HLX, HQ.out⟩
              case measure => exact HMS.out
          · have hbx := Box.below (B := wb.heap.size) HX2.out hbq HBX2.out
            have HX := Lib.hid hbx
            have f0 := Box.free hbx 0
            have f1 := Box.free hbx 1
            have f2 := Box.free hbx 2
            have f3 := Box.free hbx 3
            have j0 := Box.cell hbx 0 rfl
            have j1 := Box.cell hbx 1 rfl
            have j2 := Box.cell hbx 2 rfl
            have j3 := Box.cell hbx 3 rfl
            clear hbx
            have hfin : ∀ wx, wx = ((((wr.setCell ⟨g2, 0, none⟩ (.string lo2)).setCell ⟨g2, 1, none⟩ (.slice ka2 kn2 kc2)).setCell ⟨g2, 2, none⟩ (.slice na2 nn2 nc2)).setCell ⟨g2, 3, none⟩ (.slice pa2 pn2 pc2)) → Box wx g2 32 #[.string lo2, .slice ka2 kn2 kc2, .slice na2 nn2 nc2, .slice pa2 pn2 pc2] ∧ TreeS wx (Gr S w wx) (Nr.v ⟨lo2, ⟨ka2, kn2, kc2⟩, ⟨na2, nn2, nc2⟩, ⟨pa2, pn2, pc2⟩⟩) T M H ∧ Below w.heap.size w wx := fun wx hx => by
              have hq : Box wx g2 32 #[.string lo2, .slice ka2 kn2 kc2, .slice na2 nn2 nc2, .slice pa2 pn2 pc2] := by rw [hx]; exact NdB.put (r := ⟨noB, nilS, nilS, nilS⟩) HX.out ⟨lo2, ⟨ka2, kn2, kc2⟩, ⟨na2, nn2, nc2⟩, ⟨pa2, pn2, pc2⟩⟩
              have hwq : Below w.heap.size w wx := by rw [hx]; exact below_put (HBW.out.trans (HBQ.out.mono HBW.out.size)) (Nat.le_of_eq HG2.out.symm) _ _ _ _
              have hsz : wx.heap.size = wr.heap.size := by rw [hx]; simp
              refine ⟨hq, ⟨h', _, t', rfl, NodeB.keep (fun p hp => ?_) (fun b hb => ?_) _ _ _ _ HND.out, top_of HLP.out.1, HLP.out.2.1, HLP.out.2.2.1, HLP.out.2.2.2.1⟩, hwq⟩
              · have hne : p.block ≠ g2 := fun e => by
                  rw [e] at hp
                  have h3 := HG2.out
                  have h4 := Box.lt HX1.out
                  rcases hp with hp | hp
                  · have := HU.out _ hp; omega
                  · omega
                rw [hx]
                simp only [World.cell?]
                rw [Below.heap_setCell _ _ _ _ (show p.block ≠ (⟨g2, 3, none⟩ : Addr).block from hne), Below.heap_setCell _ _ _ _ (show p.block ≠ (⟨g2, 2, none⟩ : Addr).block from hne), Below.heap_setCell _ _ _ _ (show p.block ≠ (⟨g2, 1, none⟩ : Addr).block from hne), Below.heap_setCell _ _ _ _ (show p.block ≠ (⟨g2, 0, none⟩ : Addr).block from hne)]
              · have h5 := HBQ.out.size
                rcases hb with hb | hb
                · exact .inl hb
                · exact .inr ⟨by have := HB1.out.size; omega, by omega⟩
            have HFIN := Lib.hid hfin
            clear hfin
            by_cases hk1 : kn2 = 1
            · subst hk1
              have hnn : ¬ nn2 = 0 := fun e => hgo ⟨rfl, e⟩
              have hz0 : ((nn2 : Int) == 0) = false := by simp; omega
              clear hgo
              go_wp2
              obtain ⟨wx, hx⟩ : ∃ wx, wx = ((((wr.setCell ⟨g2, 0, none⟩ (.string lo2)).setCell ⟨g2, 1, none⟩ (.slice ka2 1 kc2)).setCell ⟨g2, 2, none⟩ (.slice na2 nn2 nc2)).setCell ⟨g2, 3, none⟩ (.slice pa2 pn2 pc2)) := ⟨_, rfl⟩
              obtain ⟨hq, ht, hw⟩ := HFIN.out wx hx
              rw [← hx]
              have p0 := Box.cell hq 0 rfl
              have p1 := Box.cell hq 1 rfl
              have p2 := Box.cell hq 2 rfl
              have p3 := Box.cell hq 3 rfl
              exact bodyPost_ret (v := Nr.v ⟨lo2, ⟨ka2, 1, kc2⟩, ⟨na2, nn2, nc2⟩, ⟨pa2, pn2, pc2⟩⟩) (by simp [results, Try.results23, go_sem, Nr.v, p0, p1, p2, p3]) rfl ⟨_, rfl, ht, hw⟩
            · have hz0 : ((kn2 : Int) == 1) = false := by simp; omega
              clear hgo
              go_wp2
              obtain ⟨wx, hx⟩ : ∃ wx, wx = ((((wr.setCell ⟨g2, 0, none⟩ (.string lo2)).setCell ⟨g2, 1, none⟩ (.slice ka2 kn2 kc2)).setCell ⟨g2, 2, none⟩ (.slice na2 nn2 nc2)).setCell ⟨g2, 3, none⟩ (.slice pa2 pn2 pc2)) := ⟨_, rfl⟩
              obtain ⟨hq, ht, hw⟩ := HFIN.out wx hx
              rw [← hx]
              have p0 := Box.cell hq 0 rfl
              have p1 := Box.cell hq 1 rfl
              have p2 := Box.cell hq 2 rfl
              have p3 := Box.cell hq 3 rfl
              exact bodyPost_ret (v := Nr.v ⟨lo2, ⟨ka2, kn2, kc2⟩, ⟨na2, nn2, nc2⟩, ⟨pa2, pn2, pc2⟩⟩) (by simp [results, Try.results23, go_sem, Nr.v, p0, p1, p2, p3]) rfl ⟨_, rfl, ht, hw⟩

end Go.Proofs.Yteddjmkoleclpaa
