/- The walk of the law JournalAnew. -/
import Derived.Test.YtdgjnjhmjgdhnaaDoorLNeeds
import Derived.Test.YtdgjnjhmjgdhnaaDoorWPutF
namespace Go.Proofs.YtdgjnjhmjgdhnaaDoor
open Go.RowKit

/-- Of another Gen nothing is told. -/
theorem stand_other {g k : Nat} {J us : List ByteArray} (h : Stand k J us) (h0 : 0 < us.length) (hg : g ≤ 2147483647) (hk : k ≤ 2147483647) (hne : g ≠ k) : Told g 0 J [] := by
  obtain ⟨m, hm⟩ := h.prefix_
  have hl : 0 < (chainL k 0 us).length := by
    rw [chain_len]
    have := needs_ge us
    omega
  obtain ⟨b, r, e⟩ := chain_gen (List.getElem_mem hl)
  refine Told.nil ?_
  subst hm
  cases hc : chainL k 0 us with
  | nil => rw [hc] at hl; simp at hl
  | cons x L =>
    simp only [hc, List.getElem_cons_zero] at e
    rw [List.cons_append]
    refine recF_bad ?_
    rw [e, pcS_list, rd_other (by omega) (by omega) hne]
    rfl
theorem anew_stand {g : Nat} {us ts : List ByteArray} (hg : 1 ≤ g) (hg2 : g ≤ 2147483646) (ht : ∀ t ∈ ts, t.size ≤ 1000) (h1 : needs us ≤ 128) (h2 : needs ts ≤ 128) :
    Stand (g + 1) (jou S0 (([] ++ putL (2 + ((0 : Nat) : Int)) (chainL g 0 us)) ++ putL (2 + ((0 : Nat) : Int)) (chainL (g + 1) 0 ts))) ts := by
  have hb : Bare (g + 1) (jou S0 ([] ++ putL (2 + ((0 : Nat) : Int)) (chainL g 0 us))) := bare_other (a := 0) S0_ge (by omega) (by omega) (by omega) (by omega) (bare_zero (by omega) (by omega))
  have hs := Stand.append (S := S0) (ts := []) (us := ts) S0_ge (Stand.nil (jou_len S0_ge) hb) ht (by show 0 + needs ts ≤ 128; omega)
  exact hs
theorem ch_right0 {S : List ByteArray} {W : List Wr} {g : Nat} {ts : List ByteArray} (hR : rightB S W = true) (h : 130 ≤ S.length) (hl : needs ts ≤ 128) : rightB S (W ++ putL (2 + ((0 : Nat) : Int)) (chainL g 0 ts)) = true := ch_right (a := 0) hR h (by omega)

set_option maxHeartbeats 8000000 in
set_option maxRecDepth 100000 in
theorem anew_walk (n0 : Nat) (A1 : Option Addr) (c1 : Nat) (l1 : List ByteArray) (A2 : Option Addr) (c2 : Nat) (l2 : List ByteArray) (w : World) (h0 : n0 < 4294967296) (hv1 : AV w A1 c1 l1) (hv2 : AV w A2 c2 l2) :
    Calls Tryd.prog 9 #[.int .u32 n0, .slice A1 l1.length c1, .slice A2 l2.length c2] w fun e w' => e = .returned (.bool true) ∧ Below w.heap.size w w' := by
  have hlen1 := hv1.len
  have hlen2 := hv2.len
  obtain ⟨hA1, hc1, hcc1, hs1, hn1⟩ := hv1
  obtain ⟨hA2, hc2, hcc2, hs2, hn2⟩ := hv2
  unfold maxLen at hcc1 hcc2 hlen1 hlen2
  have HA1 := Lib.hid hA1
  have HA2 := Lib.hid hA2
  have HN1 := Lib.hid hn1
  have HN2 := Lib.hid hn2
  have HS := Lib.hid (show ∀ x ∈ l1 ++ l2, x.size ≤ maxLen from fun x hx => (List.mem_append.1 hx).elim (hs1 x) (hs2 x))
  have HSV1 := Lib.hid (fun (wx : World) (hb : Below w.heap.size w wx) => show SV wx (.slice A1 l1.length c1) l1 from ⟨A1, c1, rfl, (hA1.below hb).more hb.size⟩)
  have HSV2 := Lib.hid (fun (wx : World) (hb : Below w.heap.size w wx) => show SV wx (.slice A2 l2.length c2) l2 from ⟨A2, c2, rfl, (hA2.below hb).more hb.size⟩)
  have HSN := Lib.hid (fun k x (h : (l1 ++ l2)[k]? = some x) (h2 : ∀ x ∈ (l1 ++ l2).take k, x.size ≤ 300) (h3 : x.size ≤ 300) => show ∀ x ∈ (l1 ++ l2).take (k + 1), x.size ≤ 300 by
    obtain ⟨h1, rfl⟩ := List.getElem?_eq_some_iff.1 h
    exact sizes_snoc h1 h2 h3)
  have HLL := Lib.hid (show (l1 ++ l2).length = l1.length + l2.length from List.length_append)
  generalize hq1 : l1.length = q1 at *
  generalize hq2 : l2.length = q2 at *
  have HQ1 := Lib.hid hq1
  have HQ2 := Lib.hid hq2
  clear hA1 hA2 hs1 hs2 hn1 hn2 hq1 hq2 hlen1 hlen2
  by_cases hsz : q1 ≤ 10 ∧ q2 ≤ 10 ∧ 0 < q2
  · obtain ⟨g1, g2, g3⟩ := hsz
    have hd1 : decide ((10 : Int) < q1) = false := decide_eq_false (by omega)
    have hd2 : decide (10 < q1) = false := decide_eq_false (by omega)
    have hd3 : decide ((10 : Int) < q2) = false := decide_eq_false (by omega)
    have hd4 : decide (10 < q2) = false := decide_eq_false (by omega)
    have he0 : ((q2 : Int) == 0) = false := by simp; omega
    obtain ⟨p, hp⟩ : ∃ p : Nat, p = n0 % 2147483645 := ⟨_, rfl⟩
    have hp1 : p ≤ 2147483644 := by omega
    have e1 : (n0 : Int) % 2147483645 = p := by omega
    have hw1 : IntKind.i64.wrap ((1 : Int) + p) = ((1 + p : Nat) : Int) := by rw [IntWalk.i64_in _ (by omega)]; omega
    have hw2 : IntKind.i64.wrap ((1 : Int) + p + 1) = ((1 + p + 1 : Nat) : Int) := by rw [IntWalk.i64_in _ (by omega)]; omega
    clear hp
    go_enter Tryd.func9, Tryd.ntmps9
    have hown0 : (w.alloc (.cells #[] 9)).ownsRow w.heap.size 9 1 (.slice (some ⟨w.heap.size, 0, none⟩) 0 0) 0 [] := World.ownsRow_made w #[] 0 (Nat.le_refl _) (Nat.zero_le _) rfl
    have HB0 := Lib.hid ((Below.refl w.heap.size w).alloc (Nat.le_refl _) (.cells #[] 9))
    have HA1a := Lib.hid ((HA1.out.below HB0.out).more HB0.out.size)
    go_wp2_with (at_builtin; refine append_strs _ rfl _ _ rfl w.heap.size _ 0 _ rfl hown0 _ A1 q1 c1 l1 rfl HQ1.out HA1a.out HN1.out (by omega) HB0.out.size ?_)
    intro v1 wa hown1 hg1
    have HB1 := Lib.hid (show Below w.heap.size w wa from HB0.out.grown hg1 HB0.out.size (fun k hk => (hown0.lt k hk).1))
    have HA2a := Lib.hid ((HA2.out.below HB1.out).more HB1.out.size)
    obtain ⟨A9, c9, rfl⟩ := own_shape hown1
    clear hg1 hown0
    go_wp2_with (at_builtin; refine append_strs _ rfl _ _ rfl w.heap.size _ q1 _ rfl hown1 _ A2 q2 c2 l2 rfl HQ2.out HA2a.out HN2.out (by omega) HB1.out.size ?_)
    intro v2 wb hown2 hg2
    have HB2 := Lib.hid (show Below w.heap.size w wb from HB1.out.grown hg2 HB1.out.size (fun k hk => (hown1.lt k hk).1))
    obtain ⟨A3, c3, rfl⟩ := own_shape hown2
    have HR := Lib.hid (show Strs wb wb.heap.size A3 (l1 ++ l2) by
      have h := hown2
      rw [← List.map_append] at h
      exact Strs.own (n := q1 + q2) (c := c3) (by rw [HLL.out]; exact h))
    clear hg2 hown1 hown2 HA1a HA2a HB0 HB1
    go_wp2
    go_loopw [42] (fun i wr => ∃ k : Nat, i = .int .i64 k ∧ k ≤ q1 + q2 ∧ (∀ x ∈ (l1 ++ l2).take k, x.size ≤ 300) ∧ wr = wb) (fun i _ => (q1 + q2 - intOf i).toNat)
    case atStart => exact ⟨0, rfl, by omega, by simp, rfl⟩
    case round =>
      obtain ⟨k, rfl, hk, hall, rfl⟩ := hrel
      have HALL := Lib.hid hall
      clear hall
      by_cases hlt : k < q1 + q2
      · obtain ⟨a1, rfl, hab, hca⟩ := HR.out (by rw [HLL.out]; omega)
        have c1' := hca k (by rw [HLL.out]; omega)
        have hm := HS.out _ (List.getElem_mem (by rw [HLL.out]; omega : k < (l1 ++ l2).length))
        have hgx := List.getElem?_eq_getElem (l := l1 ++ l2) (i := k) (by rw [HLL.out]; omega)
        generalize (l1 ++ l2)[k]'(by rw [HLL.out]; omega) = x at *
        unfold maxLen at hm
        have hkk : decide ((k : Int) < q1 + q2) = true := decide_eq_true (by omega)
        clear hca
        by_cases hx : x.size ≤ 300
        · have hd5 : decide ((300 : Int) < x.size) = false := decide_eq_false (by omega)
          have hd6 : decide (300 < x.size) = false := decide_eq_false (by omega)
          have HSN1 := Lib.hid (HSN.out k x hgx HALL.out hx)
          clear hgx
          go_wp2
          go_roundw
          case rel => exact ⟨k + 1, by go_num, by omega, HSN1.out, by trivial⟩
          case measure => simp [intOf]; omega
        · have hd5 : decide ((300 : Int) < x.size) = true := decide_eq_true (by omega)
          have hd6 : decide (300 < x.size) = true := decide_eq_true (by omega)
          clear hgx
          go_wp2_with fail
          refine (awake_true _).mono ?_
          rintro e w9 ⟨rfl, hb9⟩
          go_wp2
          go_ret
          exact ⟨rfl, HB2.out.trans (hb9.mono HB2.out.size)⟩
      · obtain rfl : k = q1 + q2 := by omega
        have hall := HALL.out
        rw [← HLL.out, List.take_length] at hall
        have HS1 := Lib.hid (show ∀ x ∈ l1, x.size ≤ 1000 from fun x hx => Nat.le_trans (hall x (List.mem_append_left _ hx)) (by decide))
        have HS2 := Lib.hid (show ∀ x ∈ l2, x.size ≤ 1000 from fun x hx => Nat.le_trans (hall x (List.mem_append_right _ hx)) (by decide))
        have hkk : decide (((q1 : Int) + q2) < q1 + q2) = false := decide_eq_false (by omega)
        clear hall HALL HSN HS
        go_wp2_with fail
        refine (aw_new _).mono ?_
        rintro e w1 ⟨v1, rfl, ⟨Ad, cd, Bd, dd, rfl, hAd, hBd⟩, hb1⟩
        have hvd : DV w1 _ S0 [] := ⟨Ad, cd, Bd, dd, rfl, hAd, hBd⟩
        rw [S0_len, show ([] : List Wr).length = 0 from rfl] at hvd ⊢
        have H1 := Lib.hid (Holds.fresh (w0 := w) hvd (HB2.out.trans (hb1.mono HB2.out.size)))
        clear hvd hb1 hAd hBd
        obtain ⟨t1, ht1⟩ : ∃ t1, t1 = needs l1 := ⟨_, rfl⟩
        obtain ⟨t2, ht2⟩ : ∃ t2, t2 = needs l2 := ⟨_, rfl⟩
        have HT1 := Lib.hid ht1
        have HT2 := Lib.hid ht2
        clear ht1 ht2
        obtain ⟨k0, k1⟩ := DBlk.cells H1.out.blk
        have hz := Box.lt H1.out.blk
        by_cases hf1 : t1 ≤ 128
        · by_cases hf2 : t2 ≤ 128
          · obtain ⟨W1, hW1⟩ : ∃ W1, W1 = [] ++ putL (2 + ((0 : Nat) : Int)) (chainL (1 + p) 0 l1) := ⟨_, rfl⟩
            have HL1 := Lib.hid (show W1.length = t1 by rw [hW1, List.nil_append, put_len, chain_len, HT1.out])
            have HJ1 := Lib.hid (show jB S0 W1 = true from jB_of (by rw [hW1]; exact ch_right0 S0_right S0_ge (by rw [← HT1.out]; exact hf1)) S0_ge)
            have hap := append_inF (W' := W1) (n := t1) (1 + p) 0 l1 H1.out.dv (HSV1.out _ H1.out.below) (by rw [HQ1.out]; omega) HS1.out (by decide) aw_j0 (by omega) (by omega) (by have := HT1.out; omega) hW1 (by have := HT1.out; omega)
            have HW1 := Lib.hid hW1
            clear hW1
            go_wp2_with fail
            refine hap.mono ?_
            clear hap k0 k1 hz
            rintro e wc ⟨vc, rfl, ⟨Ae, ce, Be, de, rfl, hAe, hBe, _, _⟩, hbc⟩
            have hve : DV wc _ S0 W1 := ⟨Ae, ce, Be, de, rfl, hAe, hBe⟩
            rw [S0_len, HL1.out] at hve ⊢
            have HX := Lib.hid (H1.out.on hbc)
            have H2 := Lib.hid (HX.out.put hve)
            clear hve hAe hBe hbc H1
            have f0 := Box.free HX.out.blk 0
            have f1 := Box.free HX.out.blk 1
            obtain ⟨k0, k1⟩ := DBlk.cells HX.out.blk
            have hz := Box.lt HX.out.blk
            obtain ⟨W2, hW2⟩ : ∃ W2, W2 = W1 ++ putL (2 + ((0 : Nat) : Int)) (chainL (1 + p + 1) 0 l2) := ⟨_, rfl⟩
            have HL2 := Lib.hid (show W2.length = t1 + t2 by rw [hW2, List.length_append, put_len, chain_len, ← HT2.out]; rw [HL1.out])
            have hap := append_inF (W' := W2) (n := t2) (1 + p + 1) 0 l2 H2.out.dv (HSV2.out _ H2.out.below) (by rw [HQ2.out]; omega) HS2.out (by rw [HL1.out]; omega) HJ1.out (by omega) (by omega) (by have := HT2.out; omega) hW2 (by have := HT2.out; omega)
            have HW2 := Lib.hid hW2
            clear hW2
            go_wp2_with fail
            refine hap.mono ?_
            clear hap k0 k1 hz f0 f1
            rintro e we ⟨ve, rfl, ⟨Af, cf, Bf, df, rfl, hAf, hBf, _, _⟩, hbe⟩
            have hvf : DV we _ S0 W2 := ⟨Af, cf, Bf, df, rfl, hAf, hBf⟩
            rw [S0_len, HL2.out] at hvf ⊢
            have HY := Lib.hid (H2.out.on hbe)
            have H3 := Lib.hid (HY.out.put hvf)
            clear hvf hAf hBf hbe H2 HX
            have f0 := Box.free HY.out.blk 0
            have f1 := Box.free HY.out.blk 1
            obtain ⟨k0, k1⟩ := DBlk.cells HY.out.blk
            have hz := Box.lt HY.out.blk
            have HJ2 := Lib.hid (show jB S0 W2 = true from jB_of (by rw [HW2.out, HW1.out]; exact ch_right0 (ch_right0 S0_right S0_ge (by rw [← HT1.out]; exact hf1)) S0_ge (by rw [← HT2.out]; exact hf2)) S0_ge)
            have HST := Lib.hid (show Stand (1 + p + 1) (jou S0 W2) l2 by rw [HW2.out, HW1.out]; exact anew_stand (by omega) (by omega) HS2.out (by rw [← HT1.out]; exact hf1) (by rw [← HT2.out]; exact hf2))
            have htx := texts_ok ((1 + p + 1 : Nat) : Int) H3.out.dv (by rw [HL2.out]; omega) HJ2.out
            go_wp2_with fail
            refine htx.mono ?_
            clear htx f0 f1 k0 k1 hz
            rintro e wf ⟨vf, ts, rfl, hvf, ht, hbf⟩
            obtain rfl := Told.only ((ToldP.of (by omega) (by omega) (by rw [jou_len S0_ge]; exact Nat.le_refl _)).1 ht) HST.out.told
            have H4 := Lib.hid (H3.out.on hbf)
            have HV4 := Lib.hid hvf.sv
            obtain ⟨A4, c4, rfl, _, _⟩ := hvf
            rw [HQ2.out] at HV4 ⊢
            rw [← HT2.out]
            clear hbf ht H3 HY
            obtain ⟨k0, k1⟩ := DBlk.cells H4.out.blk
            have hz := Box.lt H4.out.blk
            have htx := texts_ok ((1 + p : Nat) : Int) H4.out.dv (by rw [HL2.out]; omega) HJ2.out
            go_wp2_with fail
            refine htx.mono ?_
            clear htx k0 k1 hz
            rintro e wh ⟨vh, ts2, rfl, hvh, ht, hbh⟩
            obtain rfl := Told.only ((ToldP.of (by omega) (by omega) (by rw [jou_len S0_ge]; exact Nat.le_refl _)).1 ht) (stand_other HST.out (by rw [HQ2.out]; exact g3) (by omega) (by omega) (by omega))
            have H5 := Lib.hid (H4.out.on hbh)
            have HV5 := Lib.hid (HV4.out.on hbh)
            obtain ⟨A5, c5, rfl, _, _⟩ := hvh
            rw [show needs [] = 0 from rfl, show ([] : List ByteArray).length = 0 from rfl]
            clear hbh ht H4 HV4
            have hsm := same_eq HV5.out (HSV2.out _ H5.out.below) rfl (by rw [HQ2.out]; unfold maxLen; omega)
            have htt : ((t2 : Int) == (t2 : Int)) = true := by simp
            go_wp2_with fail
            refine hsm.mono ?_
            clear hsm
            rintro e wi ⟨rfl, hbi⟩
            have H6 := Lib.hid (H5.out.on hbi)
            clear hbi H5 HV5
            go_wp2_with fail
            refine (awake_true _).mono ?_
            rintro e w9 ⟨rfl, hb9⟩
            go_wp2
            go_ret
            exact ⟨rfl, H6.out.below.trans (hb9.mono H6.out.below.size)⟩
          · obtain ⟨W1, hW1⟩ : ∃ W1, W1 = [] ++ putL (2 + ((0 : Nat) : Int)) (chainL (1 + p) 0 l1) := ⟨_, rfl⟩
            have HL1 := Lib.hid (show W1.length = t1 by rw [hW1, List.nil_append, put_len, chain_len, HT1.out])
            have HJ1 := Lib.hid (show jB S0 W1 = true from jB_of (by rw [hW1]; exact ch_right0 S0_right S0_ge (by rw [← HT1.out]; exact hf1)) S0_ge)
            have hap := append_inF (W' := W1) (n := t1) (1 + p) 0 l1 H1.out.dv (HSV1.out _ H1.out.below) (by rw [HQ1.out]; omega) HS1.out (by decide) aw_j0 (by omega) (by omega) (by have := HT1.out; omega) hW1 (by have := HT1.out; omega)
            have HW1 := Lib.hid hW1
            clear hW1
            go_wp2_with fail
            refine hap.mono ?_
            clear hap k0 k1 hz
            rintro e wc ⟨vc, rfl, ⟨Ae, ce, Be, de, rfl, hAe, hBe, _, _⟩, hbc⟩
            have hve : DV wc _ S0 W1 := ⟨Ae, ce, Be, de, rfl, hAe, hBe⟩
            rw [S0_len, HL1.out] at hve ⊢
            have HX := Lib.hid (H1.out.on hbc)
            have H2 := Lib.hid (HX.out.put hve)
            clear hve hAe hBe hbc H1
            have f0 := Box.free HX.out.blk 0
            have f1 := Box.free HX.out.blk 1
            obtain ⟨k0, k1⟩ := DBlk.cells HX.out.blk
            have hz := Box.lt HX.out.blk
            have hap := append_outF (1 + p + 1) 0 l2 H2.out.dv (HSV2.out _ H2.out.below) (by rw [HQ2.out]; omega) HS2.out (by rw [HL1.out]; omega) HJ1.out (by omega) (by omega) (by omega) (by have := HT2.out; omega)
            go_wp2_with fail
            refine hap.mono ?_
            clear hap k0 k1 hz f0 f1
            rintro e we ⟨rfl, hbe⟩
            have HY := Lib.hid (H2.out.on hbe)
            have H3 := Lib.hid (HY.out.put HY.out.dv)
            clear hbe H2 HX
            have f0 := Box.free HY.out.blk 0
            have f1 := Box.free HY.out.blk 1
            obtain ⟨k0, k1⟩ := DBlk.cells HY.out.blk
            have hz := Box.lt HY.out.blk
            go_wp2_with fail
            refine (awake_true _).mono ?_
            rintro e w9 ⟨rfl, hb9⟩
            go_wp2
            go_ret
            exact ⟨rfl, H3.out.below.trans (hb9.mono H3.out.below.size)⟩
        · by_cases hf2 : t2 ≤ 128
          · have hap := append_outF (1 + p) 0 l1 H1.out.dv (HSV1.out _ H1.out.below) (by rw [HQ1.out]; omega) HS1.out (by decide) aw_j0 (by omega) (by omega) (by omega) (by have := HT1.out; omega)
            go_wp2_with fail
            refine hap.mono ?_
            clear hap k0 k1 hz
            rintro e wc ⟨rfl, hbc⟩
            have HX := Lib.hid (H1.out.on hbc)
            have H2 := Lib.hid (HX.out.put HX.out.dv)
            clear hbc H1
            have f0 := Box.free HX.out.blk 0
            have f1 := Box.free HX.out.blk 1
            obtain ⟨k0, k1⟩ := DBlk.cells HX.out.blk
            have hz := Box.lt HX.out.blk
            obtain ⟨W2, hW2⟩ : ∃ W2, W2 = [] ++ putL (2 + ((0 : Nat) : Int)) (chainL (1 + p + 1) 0 l2) := ⟨_, rfl⟩
            have HL2 := Lib.hid (show W2.length = t2 by rw [hW2, List.length_append, put_len, chain_len, ← HT2.out]; simp)
            have hap := append_inF (W' := W2) (n := t2) (1 + p + 1) 0 l2 H2.out.dv (HSV2.out _ H2.out.below) (by rw [HQ2.out]; omega) HS2.out (by decide) aw_j0 (by omega) (by omega) (by have := HT2.out; omega) hW2 (by have := HT2.out; omega)
            have HW2 := Lib.hid hW2
            clear hW2
            go_wp2_with fail
            refine hap.mono ?_
            clear hap k0 k1 hz f0 f1
            rintro e we ⟨ve, rfl, ⟨Af, cf, Bf, df, rfl, hAf, hBf, _, _⟩, hbe⟩
            have hvf : DV we _ S0 W2 := ⟨Af, cf, Bf, df, rfl, hAf, hBf⟩
            rw [S0_len, HL2.out] at hvf ⊢
            have HY := Lib.hid (H2.out.on hbe)
            have H3 := Lib.hid (HY.out.put hvf)
            clear hvf hAf hBf hbe H2 HX
            have f0 := Box.free HY.out.blk 0
            have f1 := Box.free HY.out.blk 1
            obtain ⟨k0, k1⟩ := DBlk.cells HY.out.blk
            have hz := Box.lt HY.out.blk
            go_wp2_with fail
            refine (awake_true _).mono ?_
            rintro e w9 ⟨rfl, hb9⟩
            go_wp2
            go_ret
            exact ⟨rfl, H3.out.below.trans (hb9.mono H3.out.below.size)⟩
          · have hap := append_outF (1 + p) 0 l1 H1.out.dv (HSV1.out _ H1.out.below) (by rw [HQ1.out]; omega) HS1.out (by decide) aw_j0 (by omega) (by omega) (by omega) (by have := HT1.out; omega)
            go_wp2_with fail
            refine hap.mono ?_
            clear hap k0 k1 hz
            rintro e wc ⟨rfl, hbc⟩
            have HX := Lib.hid (H1.out.on hbc)
            have H2 := Lib.hid (HX.out.put HX.out.dv)
            clear hbc H1
            have f0 := Box.free HX.out.blk 0
            have f1 := Box.free HX.out.blk 1
            obtain ⟨k0, k1⟩ := DBlk.cells HX.out.blk
            have hz := Box.lt HX.out.blk
            have hap := append_outF (1 + p + 1) 0 l2 H2.out.dv (HSV2.out _ H2.out.below) (by rw [HQ2.out]; omega) HS2.out (by decide) aw_j0 (by omega) (by omega) (by omega) (by have := HT2.out; omega)
            go_wp2_with fail
            refine hap.mono ?_
            clear hap k0 k1 hz f0 f1
            rintro e we ⟨rfl, hbe⟩
            have HY := Lib.hid (H2.out.on hbe)
            have H3 := Lib.hid (HY.out.put HY.out.dv)
            clear hbe H2 HX
            have f0 := Box.free HY.out.blk 0
            have f1 := Box.free HY.out.blk 1
            obtain ⟨k0, k1⟩ := DBlk.cells HY.out.blk
            have hz := Box.lt HY.out.blk
            go_wp2_with fail
            refine (awake_true _).mono ?_
            rintro e w9 ⟨rfl, hb9⟩
            go_wp2
            go_ret
            exact ⟨rfl, H3.out.below.trans (hb9.mono H3.out.below.size)⟩
  · have hdn : (decide (10 < q1) || (decide (10 < q2) || decide (q2 = 0))) = true := by
      by_cases x1 : 10 < q1
      · rw [decide_eq_true x1]; rfl
      · by_cases x2 : 10 < q2
        · rw [decide_eq_true x2]; simp
        · rw [decide_eq_true (show q2 = 0 by omega)]; simp
    by_cases x1 : 10 < q1
    · have hd1 : decide ((10 : Int) < q1) = true := decide_eq_true (by omega)
      have hd2 : decide (10 < q1) = true := decide_eq_true x1
      clear hdn
      go_enter Tryd.func9, Tryd.ntmps9
      go_wp2_with fail
      refine (awake_true _).mono ?_
      rintro e w1 ⟨rfl, hb1⟩
      go_wp2
      go_ret
      exact ⟨rfl, hb1⟩
    · have hd1 : decide ((10 : Int) < q1) = false := decide_eq_false (by omega)
      have hd2 : decide (10 < q1) = false := decide_eq_false x1
      by_cases x2 : 10 < q2
      · have hd3 : decide ((10 : Int) < q2) = true := decide_eq_true (by omega)
        have hd4 : decide (10 < q2) = true := decide_eq_true x2
        clear hdn
        go_enter Tryd.func9, Tryd.ntmps9
        go_wp2_with fail
        refine (awake_true _).mono ?_
        rintro e w1 ⟨rfl, hb1⟩
        go_wp2
        go_ret
        exact ⟨rfl, hb1⟩
      · have hd3 : decide ((10 : Int) < q2) = false := decide_eq_false (by omega)
        have hd4 : decide (10 < q2) = false := decide_eq_false x2
        obtain rfl : q2 = 0 := by omega
        clear hdn
        go_enter Tryd.func9, Tryd.ntmps9
        go_wp2_with fail
        refine (awake_true _).mono ?_
        rintro e w1 ⟨rfl, hb1⟩
        go_wp2
        go_ret
        exact ⟨rfl, hb1⟩

end Go.Proofs.YtdgjnjhmjgdhnaaDoor
