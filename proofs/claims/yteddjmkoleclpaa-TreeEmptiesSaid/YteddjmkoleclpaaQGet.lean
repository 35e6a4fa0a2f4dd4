/- The walks of kid and get, and of Get. -/
import Derived.Test.YteddjmkoleclpaaQApply
import Derived.Test.YteddjmkoleclpaaPF2
import Derived.Test.YteddjmkoleclpaaWBoth
set_option linter.unusedVariables false
set_option linter.unusedSimpArgs false
namespace Go.Proofs.Yteddjmkoleclpaa
open Go.RowKit

theorem lowsOf_get {α : Type} {ks : List (ByteArray × α)} {i : Nat} (h : i < ks.length) : (lowsOf ks).getD i noB = ks[i].1 := by
  rw [List.getD_eq_getElem?_getD, List.getElem?_map, List.getElem?_eq_getElem h]; rfl
/-- The kid that has a key. -/
theorem kid_plain {h : Nat} {lo : ByteArray} {hi : Option ByteArray} {t : TrH (h + 1)} (hok : okN (h + 1) lo hi t) {key : ByteArray} (hin : inLow lo hi key = true) :
    ∃ hl : partN' key (lowsOf t.2) < t.2.length, inLow (t.2[partN' key (lowsOf t.2)]'hl).1 (nextLo hi (t.2.drop (partN' key (lowsOf t.2) + 1))) key = true ∧ okN h (t.2[partN' key (lowsOf t.2)]'hl).1 (nextLo hi (t.2.drop (partN' key (lowsOf t.2) + 1))) (t.2[partN' key (lowsOf t.2)]'hl).2 ∧
      getL (kp h t.2) key = getL (pairsH h (t.2[partN' key (lowsOf t.2)]'hl).2) key := by
  obtain ⟨h1, h2, h3, h4, ⟨x, r, e⟩, h5⟩ := hok
  obtain ⟨i, hi0⟩ : ∃ i, i = partN' key (lowsOf t.2) := ⟨_, rfl⟩
  have hlen : (lowsOf t.2).length = t.2.length := by simp
  have hpos : 0 < t.2.length := by rw [e]; simp
  have hl : i < t.2.length := by rw [hi0]; have := part_lt key (lowsOf t.2) (lowsOf t.2).length (by omega); unfold partN'; omega
  have hpa := part_at (key := key) (lows := lowsOf t.2) (m := (lowsOf t.2).length) (i := i) (by omega) (by rw [hi0]; rfl)
  rw [← hi0]
  refine ⟨hl, ?_⟩
  have hbelow : belowH (nextLo hi (t.2.drop (i + 1))) key = true := by
    by_cases hj : i + 1 < t.2.length
    · rw [List.drop_eq_getElem_cons hj]
      have h6 := hpa.2 (i + 1) (by omega) (by omega)
      rw [lowsOf_get hj] at h6
      show decide (key < _) = true
      rw [decide_eq_true_eq]
      grind
    · rw [List.drop_of_length_le (by omega)]
      exact (inLow_iff.1 hin).2
  have hge : ¬ key < t.2[i].1 := by
    rcases hpa.1 with h0 | h6
    · subst h0
      have h7 : t.2[0].1 = lo := by simp only [e, List.getElem_cons_zero]
      rw [h7]; exact (inLow_iff.1 hin).1
    · rw [lowsOf_get hl] at h6
      grind
  have hk2 : inLow t.2[i].1 (nextLo hi (t.2.drop (i + 1))) key = true := inLow_iff.2 ⟨hge, hbelow⟩
  have eks : t.2 = t.2.take i ++ t.2[i] :: t.2.drop (i + 1) := by rw [← List.drop_eq_getElem_cons hl, List.take_append_drop]
  have h5' := h5
  rw [eks] at h5'
  obtain ⟨h8, h9⟩ := okK_append.1 h5'
  refine ⟨hk2, h9.1, ?_⟩
  have ek : kp h t.2 = kp h (t.2.take i) ++ (pairsH h t.2[i].2 ++ kp h (t.2.drop (i + 1))) := by
    conv => lhs; rw [eks]
    unfold kp
    rw [List.flatMap_append, List.flatMap_cons]
  rw [ek, getL_append, getL_append]
  have n1 : getL (kp h (t.2.take i)) key = none := getL_none fun p hp ep => by
    obtain ⟨y, hy, hp⟩ := List.mem_flatMap.1 hp
    obtain ⟨b, hb, hle⟩ := (okNK_mem h8).1 y hy
    have h10 := inLow_le hle (show ¬ y.1 < y.1 by grind) (pairs_in h _ _ _ (okN_okH h _ _ _ hb).1 p hp)
    have h11 := in_lt h10 hk2 (leO_rfl _)
    rw [ep] at h11
    grind
  have n2 : getL (kp h (t.2.drop (i + 1))) key = none := getL_none fun p hp ep => by
    obtain ⟨y, hy, hp⟩ := List.mem_flatMap.1 hp
    obtain ⟨b, hb, _⟩ := (okNK_mem h9.2).1 y hy
    have h11 := kid_less (okN_lo h) h9 hy hk2 (pairs_in h _ _ _ (okN_okH h _ _ _ hb).1 p hp)
    rw [ep] at h11
    grind
  rw [n1, n2, Option.none_or, Option.or_none]
/-- What a node's notes make of what its kid tells. -/
theorem get_plain {h : Nat} {lo : ByteArray} {hi : Option ByteArray} {t : TrH (h + 1)} (hok : okN (h + 1) lo hi t) {key : ByteArray} {o : Option ByteArray} (ho : getL (kp h t.2) key = o) :
    doneL (hasOf o).1 (hasOf o).2 [(findA t.1 key).1] = hasOf (getL (pairsH (h + 1) t) key) := by
  have hs := wellN_sorted hok.1
  have e1 : getL (pairsH (h + 1) t) key = stepsO o (getN t.1 key).toList := by
    show getL (foldOne (kp h t.2) t.1) key = _
    rw [getL_fold, ho, filter_getN hs]
  rw [e1, done_hasOf]
  congr 1
  unfold findA
  rw [hok.1, if_pos rfl]
  cases getN t.1 key with
  | some x => rfl
  | none =>
    show stepsO o [nt0] = stepsO o []
    rw [stepsO_nil]
    show optOf (step (hasOf o) nt0) = o
    rw [step0 _ _ (by decide) (by decide) (by decide), opt_has]

/-- Where a leaf may be one of none. -/
def okG : (h : Nat) → ByteArray → Option ByteArray → TrH h → Prop
  | 0, lo, hi, ps => okH 0 lo hi ps
  | h + 1, lo, hi, t => okN (h + 1) lo hi t
theorem okG_of : ∀ {h : Nat} {lo : ByteArray} {hi : Option ByteArray} {t : TrH h}, okN h lo hi t → okG h lo hi t
  | 0, _, _, _, hk => (okN_okH 0 _ _ _ hk).1
  | _ + 1, _, _, _, hk => hk
theorem okG_top : ∀ {h : Nat} {t : TrH h}, Top h t → okG h noB none t
  | 0, _, ht => top_ok ht
  | _ + 1, _, ht => ht

set_option maxHeartbeats 2000000 in
set_option maxRecDepth 100000 in
theorem kid_any (r : Nr) (rs : List Nr) (key : ByteArray) (w : World) (S : Nat → Prop) (hS : Und w S) (hR : SlB Nr.cells 4 w S r.k rs) (h0 : 0 < rs.length) (hmax : rs.length ≤ 1000) :
    Calls Try.prog 53 #[r.v, .string key] w fun e w' => ∃ y, e = .returned y.v ∧ rs[partN' key (rs.map Nr.low)]? = some y ∧ Below w.heap.size w w' := by
  obtain ⟨lo, ⟨ka, kn, kc⟩, ⟨na, nn, nc⟩, ⟨pa, pn, pc⟩⟩ := r
  obtain ⟨e1, hl, _, _⟩ := hR
  simp only at e1 hl
  obtain ⟨ad, ea, hab, hca⟩ := (hl.lies hS).seeK h0
  subst ea
  obtain ⟨n, hn⟩ : ∃ n, n = rs.length := ⟨_, rfl⟩
  rw [← hn] at e1 h0 hmax
  subst e1
  obtain ⟨g, hg⟩ : ∃ g, g = w.heap.size := ⟨_, rfl⟩
  obtain ⟨g2, hg2⟩ : ∃ g2, g2 = g + 1 := ⟨_, rfl⟩
  obtain ⟨w0, hw0⟩ : ∃ w0, w0 = (w.alloc (.cells #[.string lo, .slice (some ad) kn kc, .slice na nn nc, .slice pa pn pc] 30)).alloc (.cells #[.string noB, .slice none 0 0, .slice none 0 0, .slice none 0 0] 30) := ⟨_, rfl⟩
  have HB0 := Lib.hid (show Below w.heap.size w w0 from by rw [hw0]; exact ((Below.refl _ _).alloc (Nat.le_refl _) _).alloc (by simp) _)
  have HX1 := Lib.hid (show NdB w0 g ⟨lo, ⟨some ad, kn, kc⟩, ⟨na, nn, nc⟩, ⟨pa, pn, pc⟩⟩ from by rw [hw0]; exact (Box.at_ w _ _ hg).push _)
  have HX2 := Lib.hid (show NdB w0 g2 ⟨noB, nilS, nilS, nilS⟩ from by rw [hw0]; exact Box.at_ _ _ _ (by rw [hg2, hg]; simp))
  have HG := Lib.hid (show w.heap.size ≤ g2 from by omega)
  have HN := Lib.hid hn
  have HCA := Lib.hid hca
  have HG2 := Lib.hid (show g < w0.heap.size ∧ g2 < w0.heap.size from ⟨Box.lt HX1.out, Box.lt HX2.out⟩)
  show Calls Try.prog 53 #[.agg #[.string lo, .slice (some ad) kn kc, .slice na nn nc, .slice pa pn pc], .string key] w fun e w' => ∃ y, e = .returned y.v ∧ rs[partN' key (rs.map Nr.low)]? = some y ∧ Below w.heap.size w w'
  clear hl hab hca hn hS
  go_enter Try.func53, Try.ntmps53
  go_upto_region 1 with fail
  rw [← hg, ← hg2, ← hw0]
  clear hg hg2 hw0
  obtain ⟨b0, b1, b2, b3⟩ := NdB.cells HX1.out
  simp only at b0 b1 b2 b3
  go_wp2
  go_loopw [5, 11] (fun a i wr => ∃ k m : Nat, i = .int .i64 k ∧ a = .int .i64 m ∧ k ≤ kn ∧ m ≤ kn ∧ Hid (m = partTo key (rs.map Nr.low) k) ∧ Below w0.heap.size w0 wr) (fun _ i _ => (kn - intOf i).toNat)
  case atStart => exact ⟨0, 0, rfl, rfl, by omega, by omega, by show _ = _; rfl, Below.refl _ _⟩
  case round =>
    clear b0 b1 b2 b3
    obtain ⟨k, m, rfl, rfl, hk, hmk, HM, hbr⟩ := hrel
    have hbs := hbr.size
    have hbw := HB0.out.trans (hbr.mono HB0.out.size)
    by_cases hlt : k < kn
    · have hkl : k < rs.length := by rw [← HN.out]; exact hlt
      obtain ⟨c0, c1, c2, c3⟩ := HCA.out k hkl
      replace c0 := (hbw.cell (lt_of_cell c0)).trans c0
      replace c1 := (hbw.cell (lt_of_cell c1)).trans c1
      replace c2 := (hbw.cell (lt_of_cell c2)).trans c2
      replace c3 := (hbw.cell (lt_of_cell c3)).trans c3
      have hst : partTo key (rs.map Nr.low) (k + 1) = if rs[k].low ≤ key then k else partTo key (rs.map Nr.low) k := by
        show (if (rs.map Nr.low).getD k noB ≤ key then k else _) = _
        rw [List.getD_eq_getElem?_getD, List.getElem?_map, List.getElem?_eq_getElem hkl]; rfl
      obtain ⟨x, hx⟩ : ∃ x, x = rs[k]'hkl := ⟨_, rfl⟩
      rw [← hx] at c0 c1 c2 c3 hst
      have HST := Lib.hid hst
      clear hx hst
      obtain ⟨xl, ⟨xa, xn, xc⟩, ⟨ya, yn, yc⟩, ⟨za, zn, zc⟩⟩ := x
      simp only at c0 c1 c2 c3 HST
      have HBR := Lib.hid hbr
      clear hbw
      cases h1 : (Op.bytesLess xl.toList key.toList || xl.toList == key.toList) with
      | true =>
        have HF := Lib.hid (show k = partTo key (rs.map Nr.low) (k + 1) from by
          have h2 : xl ≤ key := by
            have h3 : leS xl key = true := h1
            rw [leS_eq] at h3
            exact of_decide_eq_true h3
          rw [HST.out, if_pos h2])
        go_wp2
        go_roundw
        case rel => exact ⟨k + 1, k, by first | rfl | go_num, by first | rfl | trivial, by omega, by omega, HF, HBR.out.alloc HBR.out.size _⟩
        case measure => simp [intOf]; omega
      | false =>
        have HF := Lib.hid (show m = partTo key (rs.map Nr.low) (k + 1) from by
          have h2 : ¬ xl ≤ key := by
            have h3 : leS xl key = false := h1
            rw [leS_eq] at h3
            exact of_decide_eq_false h3
          rw [HST.out, if_neg h2]; exact HM.out)
        go_wp2
        go_roundw
        case rel => exact ⟨k + 1, m, by first | rfl | go_num, by first | rfl | trivial, by omega, by omega, HF, HBR.out.alloc HBR.out.size _⟩
        case measure => simp [intOf]; omega
    · have hkn : k = kn := by omega
      have hml : m < rs.length := by
        rw [HM.out, hkn]
        have := part_lt key (rs.map Nr.low) kn h0
        have := HN.out
        omega
      have hmk2 : m < kn := by have := HN.out; omega
      have HP := Lib.hid (show rs[partN' key (rs.map Nr.low)]? = some rs[m] from by
        unfold partN'
        rw [show (rs.map Nr.low).length = kn by rw [List.length_map]; exact HN.out.symm, ← hkn, ← HM.out]
        exact List.getElem?_eq_getElem hml)
      obtain ⟨c0, c1, c2, c3⟩ := HCA.out m hml
      replace c0 := (hbw.cell (lt_of_cell c0)).trans c0
      replace c1 := (hbw.cell (lt_of_cell c1)).trans c1
      replace c2 := (hbw.cell (lt_of_cell c2)).trans c2
      replace c3 := (hbw.cell (lt_of_cell c3)).trans c3
      obtain ⟨x, hx⟩ : ∃ x, x = rs[m]'hml := ⟨_, rfl⟩
      rw [← hx] at c0 c1 c2 c3 HP
      clear hx
      have hbx := Box.below (B := w0.heap.size) HX1.out hbr HG2.out.1
      have hby := Box.below (B := w0.heap.size) HX2.out hbr HG2.out.2
      have b1 := Box.cell hbx 1 rfl
      have f0 := Box.free hby 0
      have f1 := Box.free hby 1
      have f2 := Box.free hby 2
      have f3 := Box.free hby 3
      have k0 := Box.cell hby 0 rfl
      have k1 := Box.cell hby 1 rfl
      have k2 := Box.cell hby 2 rfl
      have k3 := Box.cell hby 3 rfl
      have HY := Lib.hid hby
      have HBW := Lib.hid hbw
      obtain ⟨xl, ⟨xa, xn, xc⟩, ⟨ya, yn, yc⟩, ⟨za, zn, zc⟩⟩ := x
      simp only at c0 c1 c2 c3 b1
      clear hbx hby hkn hbw hbs hml HCA
      go_wp2
      obtain ⟨wx, hx⟩ : ∃ wx, wx = ((((wr.setCell ⟨g2, 0, none⟩ (.string xl)).setCell ⟨g2, 1, none⟩ (.slice xa xn xc)).setCell ⟨g2, 2, none⟩ (.slice ya yn yc)).setCell ⟨g2, 3, none⟩ (.slice za zn zc)) := ⟨_, rfl⟩
      have hq : Box wx g2 30 #[.string xl, .slice xa xn xc, .slice ya yn yc, .slice za zn zc] := by rw [hx]; exact NdB.put (r := ⟨noB, nilS, nilS, nilS⟩) HY.out ⟨xl, ⟨xa, xn, xc⟩, ⟨ya, yn, yc⟩, ⟨za, zn, zc⟩⟩
      have hw : Below w.heap.size w wx := by rw [hx]; exact below_put HBW.out HG.out _ _ _ _
      rw [← hx]
      have p0 := Box.cell hq 0 rfl
      have p1 := Box.cell hq 1 rfl
      have p2 := Box.cell hq 2 rfl
      have p3 := Box.cell hq 3 rfl
      exact bodyPost_ret (v := Nr.v ⟨xl, ⟨xa, xn, xc⟩, ⟨ya, yn, yc⟩, ⟨za, zn, zc⟩⟩) (by simp [results, Try.results53, go_sem, Nr.v, p0, p1, p2, p3]) rfl ⟨_, rfl, HP.out, hw⟩

/-- What get tells, h above the leaves. -/
def GetC (h : Nat) : Prop := ∀ (r : Nr) (lo : ByteArray) (hi : Option ByteArray) (t : TrH h) (key : ByteArray) (w : World) (S : Nat → Prop), Und w S → NodeB h w S r lo t → okG h lo hi t → inLow lo hi key = true →
  Calls Try.prog 30 #[r.v, .string key] w fun e w' => e = .returned (.tuple #[.string (hasOf (getL (pairsH h t) key)).1, .bool (hasOf (getL (pairsH h t) key)).2]) ∧ Below w.heap.size w w'

set_option maxHeartbeats 2000000 in
set_option maxRecDepth 100000 in
theorem get_zero : GetC 0 := by
  intro r lo hi t key w S hS hN hok hin
  have hget := fun wx (hb : Below w.heap.size w wx) => get_v ((hN.2.2.2.pv hS).on hb) key (by have := hok.2.1; show List.length (α := Pr) t ≤ _; omega)
  have e1 : getA t key = hasOf (getL (pairsH 0 t) key) := by unfold getA; rw [hok.1]; rfl
  rw [e1] at hget
  have hlf := fun wx => isleaf_any r wx
  rw [show r.k.n = 0 from by rw [hN.2.1]; rfl] at hlf
  have HGE := Lib.hid hget
  clear hS hN hok hin hget e1
  generalize hasOf (getL (pairsH 0 t) key) = R at *
  obtain ⟨lo', ⟨ka, kn, kc⟩, ⟨na, nn, nc⟩, ⟨pa, pn, pc⟩⟩ := r
  have hl0 : ∀ wx, Calls Try.prog 43 #[.agg #[.string lo', .slice ka kn kc, .slice na nn nc, .slice pa pn pc]] wx fun e w' => e = .returned (.bool true) ∧ Below wx.heap.size wx w' := hlf
  obtain ⟨w0, hw0⟩ : ∃ w0, w0 = w.alloc (.cells #[.string lo', .slice ka kn kc, .slice na nn nc, .slice pa pn pc] 30) := ⟨_, rfl⟩
  obtain ⟨g, hg⟩ : ∃ g, g = w.heap.size := ⟨_, rfl⟩
  have HB0 := Lib.hid (show Below w.heap.size w w0 from by rw [hw0]; exact (Below.refl _ _).alloc (Nat.le_refl _) _)
  have BX := Lib.hid (show NdB w0 g ⟨lo', ⟨ka, kn, kc⟩, ⟨na, nn, nc⟩, ⟨pa, pn, pc⟩⟩ from by rw [hw0]; exact Box.at_ w _ _ hg)
  have HL0 := Lib.hid hl0
  clear hl0 hlf
  show Calls Try.prog 30 #[.agg #[.string lo', .slice ka kn kc, .slice na nn nc, .slice pa pn pc], .string key] w fun e w' => e = .returned (.tuple #[.string R.1, .bool R.2]) ∧ Below w.heap.size w w'
  obtain ⟨Rv, Rb⟩ := R
  simp only at HGE ⊢
  go_enter Try.func30, Try.ntmps30
  go_upto_region 1 with fail
  rw [← hg, ← hw0]
  clear hg hw0
  obtain ⟨b0, b1, b2, b3⟩ := NdB.cells BX.out
  simp only at b0 b1 b2 b3
  go_wp2_with fail
  refine (HL0.out w0).mono ?_
  clear b0 b1 b2 b3
  rintro e w1 ⟨rfl, hb1⟩
  have HB1 := Lib.hid (HB0.out.trans (hb1.mono HB0.out.size))
  have BX1 := Lib.hid (show NdB w1 g ⟨lo', ⟨ka, kn, kc⟩, ⟨na, nn, nc⟩, ⟨pa, pn, pc⟩⟩ from BX.out.on hb1)
  obtain ⟨b0, b1, b2, b3⟩ := NdB.cells BX1.out
  simp only at b0 b1 b2 b3
  clear hb1 BX
  go_wp2_with fail
  refine (HGE.out w1 HB1.out).mono ?_
  clear b0 b1 b2 b3
  rintro e w2 ⟨rfl, hb2⟩
  have HB2 := Lib.hid (HB1.out.trans (hb2.mono HB1.out.size))
  clear hb2
  go_wp2
  go_ret2
  exact ⟨rfl, HB2.out⟩

set_option maxHeartbeats 2000000 in
set_option maxRecDepth 100000 in
theorem get_succ (h : Nat) (IH : GetC h) : GetC (h + 1) := by
  intro r lo hi t key w S hS hN hok hin
  obtain ⟨hkl, hki, hkok, hkg⟩ := kid_plain hok hin
  have hgp := get_plain hok hkg
  obtain ⟨n1, n2, n3, rs, n4, n5⟩ := hN
  obtain ⟨i, hi0⟩ : ∃ i, i = partN' key (lowsOf t.2) := ⟨_, rfl⟩
  have hlr : rs.length = t.2.length := AllN.len n5
  have hlows : rs.map Nr.low = lowsOf t.2 := NodesR.lows n5
  have h4 : t.2.length ≤ 4 := hok.2.2.2.1
  have hkid := fun wx (hb : Below w.heap.size w wx) => kid_any r rs key wx S (hS.on hb) (n4.on hS hb) (by omega) (by omega)
  rw [hlows] at hkid
  rw [← hi0] at hkid
  have hir : i < rs.length := by rw [hi0, hlr]; exact hkl
  have hit : i < t.2.length := by omega
  rw [List.getElem?_eq_getElem hir] at hkid
  have hnd : NodeB h w S rs[i] t.2[i].1 t.2[i].2 := AllN.get n5 i hir hit
  have hrec : ∀ (wx : World), Below w.heap.size w wx → Calls Try.prog 30 #[(rs[i]).v, .string key] wx fun e w' => e = .returned (.tuple #[.string (hasOf (getL (pairsH h t.2[i].2) key)).1, .bool (hasOf (getL (pairsH h t.2[i].2) key)).2]) ∧ Below wx.heap.size wx w' := fun wx hb =>
    IH rs[i] t.2[i].1 (nextLo hi (t.2.drop (i + 1))) t.2[i].2 key wx S (hS.on hb) (NodeB.on hnd hS hb) (okG_of (by subst hi0; exact hkok)) (by subst hi0; exact hki)
  have hgp2 : doneL (hasOf (getL (pairsH h t.2[i].2) key)).1 (hasOf (getL (pairsH h t.2[i].2) key)).2 [(findA t.1 key).1] = hasOf (getL (pairsH (h + 1) t) key) := by subst hi0; exact hgp
  have hfi := fun wx (hb : Below w.heap.size w wx) => pfind_v ((n2.nv hS).on hb) key (by have := hok.2.1; omega)
  have hlf := fun wx => isleaf_any r wx
  have hkn : r.k.n ≠ 0 := by have := n4.1; omega
  rw [decide_eq_false hkn] at hlf
  obtain ⟨y, hy⟩ : ∃ y, y = rs[i] := ⟨_, rfl⟩
  rw [← hy] at hkid hrec
  rw [← hgp2]
  clear hgp hgp2 hkg hki hkok hkl
  generalize hasOf (getL (pairsH h t.2[i].2) key) = R at *
  generalize findA t.1 key = F at *
  have HKI := Lib.hid hkid
  have HRE := Lib.hid hrec
  have HFI := Lib.hid hfi
  clear hS hok hin n1 n2 n3 n4 n5 hkid hrec hfi hkn hnd hy hir hit hi0 hlr hlows h4
  obtain ⟨lo', ⟨ka, kn, kc⟩, ⟨na, nn, nc⟩, ⟨pa, pn, pc⟩⟩ := r
  obtain ⟨yl, ⟨ya, yn, yc⟩, ⟨ua, un, uc⟩, ⟨za, zn, zc⟩⟩ := y
  obtain ⟨⟨fk, fe, fv, fn⟩, fb⟩ := F
  obtain ⟨Rv, Rb⟩ := R
  simp only at HRE HFI ⊢
  have hl0 : ∀ wx, Calls Try.prog 43 #[.agg #[.string lo', .slice ka kn kc, .slice na nn nc, .slice pa pn pc]] wx fun e w' => e = .returned (.bool false) ∧ Below wx.heap.size wx w' := hlf
  have hk0 : ∀ wx, Below w.heap.size w wx → Calls Try.prog 53 #[.agg #[.string lo', .slice ka kn kc, .slice na nn nc, .slice pa pn pc], .string key] wx fun e w' => e = .returned (.agg #[.string yl, .slice ya yn yc, .slice ua un uc, .slice za zn zc]) ∧ Below wx.heap.size wx w' := fun wx hb => by
    refine (HKI.out wx hb).mono ?_
    rintro e w' ⟨y2, rfl, e2, hb2⟩
    injection e2 with e2
    rw [← e2]
    exact ⟨rfl, hb2⟩
  have hr0 : ∀ wx, Below w.heap.size w wx → Calls Try.prog 30 #[.agg #[.string yl, .slice ya yn yc, .slice ua un uc, .slice za zn zc], .string key] wx fun e w' => e = .returned (.tuple #[.string Rv, .bool Rb]) ∧ Below wx.heap.size wx w' := HRE.out
  have hf0 : ∀ wx, Below w.heap.size w wx → Calls Try.prog 54 #[.slice na nn nc, .string key] wx fun e w' => e = .returned (.tuple #[.agg #[.int .i64 fk, .string fe, .string fv, .int .u64 (fn.toNat : Int)], .bool fb]) ∧ Below wx.heap.size wx w' := HFI.out
  obtain ⟨w0, hw0⟩ : ∃ w0, w0 = w.alloc (.cells #[.string lo', .slice ka kn kc, .slice na nn nc, .slice pa pn pc] 30) := ⟨_, rfl⟩
  obtain ⟨g, hg⟩ : ∃ g, g = w.heap.size := ⟨_, rfl⟩
  have HB0 := Lib.hid (show Below w.heap.size w w0 from by rw [hw0]; exact (Below.refl _ _).alloc (Nat.le_refl _) _)
  have BX := Lib.hid (show NdB w0 g ⟨lo', ⟨ka, kn, kc⟩, ⟨na, nn, nc⟩, ⟨pa, pn, pc⟩⟩ from by rw [hw0]; exact Box.at_ w _ _ hg)
  have HL0 := Lib.hid hl0
  have HK0 := Lib.hid hk0
  have HR0 := Lib.hid hr0
  have HF0 := Lib.hid hf0
  clear hl0 hlf hk0 hr0 hf0 HKI HRE HFI
  show Calls Try.prog 30 #[.agg #[.string lo', .slice ka kn kc, .slice na nn nc, .slice pa pn pc], .string key] w fun e w' => e = .returned (.tuple #[.string (doneL Rv Rb [⟨fk, fe, fv, fn⟩]).1, .bool (doneL Rv Rb [⟨fk, fe, fv, fn⟩]).2]) ∧ Below w.heap.size w w'
  have HDN := Lib.hid (fun (wx : World) (q : Nat) (hq : q = wx.heap.size) => done_lit1 Rv Rb ⟨fk, fe, fv, fn⟩ wx q hq)
  obtain ⟨Dv, hDv⟩ : ∃ D, D = doneL Rv Rb [⟨fk, fe, fv, fn⟩] := ⟨_, rfl⟩
  rw [← hDv] at HDN ⊢
  clear hDv
  go_enter Try.func30, Try.ntmps30
  go_upto_region 1 with fail
  rw [← hg, ← hw0]
  clear hg hw0
  obtain ⟨b0, b1, b2, b3⟩ := NdB.cells BX.out
  simp only at b0 b1 b2 b3
  go_wp2_with fail
  refine (HL0.out w0).mono ?_
  clear b0 b1 b2 b3
  rintro e w1 ⟨rfl, hb1⟩
  have HB1 := Lib.hid (HB0.out.trans (hb1.mono HB0.out.size))
  have BX1 := Lib.hid (show NdB w1 g ⟨lo', ⟨ka, kn, kc⟩, ⟨na, nn, nc⟩, ⟨pa, pn, pc⟩⟩ from BX.out.on hb1)
  obtain ⟨b0, b1, b2, b3⟩ := NdB.cells BX1.out
  simp only at b0 b1 b2 b3
  clear hb1 BX
  go_wp2_with fail
  refine (HK0.out w1 HB1.out).mono ?_
  clear b0 b1 b2 b3
  rintro e w2 ⟨rfl, hb2⟩
  have HB2 := Lib.hid (HB1.out.trans (hb2.mono HB1.out.size))
  have BX2 := Lib.hid (show NdB w2 g ⟨lo', ⟨ka, kn, kc⟩, ⟨na, nn, nc⟩, ⟨pa, pn, pc⟩⟩ from BX1.out.on hb2)
  clear hb2 BX1
  go_wp2_with fail
  refine (HR0.out w2 HB2.out).mono ?_
  rintro e w3 ⟨rfl, hb3⟩
  have HB3 := Lib.hid (HB2.out.trans (hb3.mono HB2.out.size))
  have BX3 := Lib.hid (show NdB w3 g ⟨lo', ⟨ka, kn, kc⟩, ⟨na, nn, nc⟩, ⟨pa, pn, pc⟩⟩ from BX2.out.on hb3)
  obtain ⟨b0, b1, b2, b3⟩ := NdB.cells BX3.out
  simp only at b0 b1 b2 b3
  clear hb3 BX2
  go_wp2_with fail
  refine (HF0.out w3 HB3.out).mono ?_
  clear b0 b1 b2 b3
  rintro e w4 ⟨rfl, hb4⟩
  have HB4 := Lib.hid (HB3.out.trans (hb4.mono HB3.out.size))
  clear hb4
  go_wp2_with fail
  refine (HDN.out (w4.alloc (.cells #[.int .i64 fk, .string fe, .string fv, .int .u64 (fn.toNat : Int)] 52)) _ (by simp)).mono ?_
  rintro e w5 ⟨rfl, hb5⟩
  have HB5 := Lib.hid (HB4.out.trans ((below1 hb5).mono HB4.out.size))
  clear hb5
  go_wp2
  go_ret2
  exact ⟨rfl, HB5.out⟩
theorem get_all : ∀ h, GetC h
  | 0 => get_zero
  | h + 1 => get_succ h (get_all h)

set_option maxHeartbeats 1000000 in
set_option maxRecDepth 100000 in
theorem tget_any (v : Value) (p : List Pr) (M H : Nat) (key : ByteArray) (w : World) (hV : TreeV w v p M H) :
    Calls Try.prog 14 #[v, .string key] w fun e w' => e = .returned (.tuple #[.string (hasOf (getL p key)).1, .bool (hasOf (getL p key)).2]) ∧ Below w.heap.size w w' := by
  obtain ⟨h, r, t, rfl, hN, hT, hp, hm, hh⟩ := hV
  have hg0 := fun wx (hb : Below w.heap.size w wx) => get_all h r noB none t key wx (All w) (fun b hb2 => by have h3 : b < w.heap.size := hb2; have := hb.size; show b < wx.heap.size; omega) (NodeB.on hN (fun b h => h) hb) (okG_top hT) (inLow_iff.2 ⟨by have h : noS ≤ key := noS_le key; show ¬ key < noS; grind, rfl⟩)
  rw [hp] at hg0
  have HG0 := Lib.hid hg0
  clear hN hT hp hm hh hg0
  obtain ⟨Rv, hR⟩ : ∃ R, R = hasOf (getL p key) := ⟨_, rfl⟩
  rw [← hR] at HG0 ⊢
  clear hR
  obtain ⟨lo, ⟨ka, kn, kc⟩, ⟨na, nn, nc⟩, ⟨pa, pn, pc⟩⟩ := r
  have hg1 : ∀ wx, Below w.heap.size w wx → Calls Try.prog 30 #[.agg #[.string lo, .slice ka kn kc, .slice na nn nc, .slice pa pn pc], .string key] wx fun e w' => e = .returned (.tuple #[.string Rv.1, .bool Rv.2]) ∧ Below wx.heap.size wx w' := HG0.out
  have HG1 := Lib.hid hg1
  show Calls Try.prog 14 #[.agg #[.string lo, .slice ka kn kc, .slice na nn nc, .slice pa pn pc], .string key] w fun e w' => e = .returned (.tuple #[.string Rv.1, .bool Rv.2]) ∧ Below w.heap.size w w'
  clear hg1 HG0
  go_enter Try.func14, Try.ntmps14
  go_wp2_with fail
  refine (HG1.out _ ((Below.refl _ _).alloc (Nat.le_refl _) _)).mono ?_
  rintro e w1 ⟨rfl, hb1⟩
  have HB1 := Lib.hid (below1 hb1)
  clear hb1
  go_wp2
  go_ret2
  exact ⟨rfl, HB1.out⟩

end Go.Proofs.Yteddjmkoleclpaa
