/- The walk of Put, of a disk that is right: what it answers lies in memory of the call's own (layer 4's put_ok, with more said); Append's and New's likewise. -/
import Derived.Test.YtdgjnjhmjgdhnaaDoorWTexts
namespace Go.Proofs.YtdgjnjhmjgdhnaaDoor
open Go.RowKit

/-- A value that is a disk, whose memory is no older than the block base. -/
def DVF (base : Nat) (w : World) (v : Value) (S : List ByteArray) (W : List Wr) : Prop := ∃ A c B d, v = .agg #[.slice A S.length c, .slice B W.length d] ∧ Strs w w.heap.size A S ∧ Wrs w w.heap.size B W ∧ (∀ ad, A = some ad → base ≤ ad.block) ∧ (∀ ad, B = some ad → base ≤ ad.block)
theorem DVF.dv {base : Nat} {w : World} {v : Value} {S : List ByteArray} {W : List Wr} (h : DVF base w v S W) : DV w v S W := by
  obtain ⟨A, c, B, d, e, h1, h2, _⟩ := h
  exact ⟨A, c, B, d, e, h1, h2⟩
theorem DVF.less {base base' : Nat} {w : World} {v : Value} {S : List ByteArray} {W : List Wr} (h : DVF base w v S W) (hb : base' ≤ base) : DVF base' w v S W := by
  obtain ⟨A, c, B, d, e, h1, h2, h3, h4⟩ := h
  exact ⟨A, c, B, d, e, h1, h2, fun ad h => Nat.le_trans hb (h3 ad h), fun ad h => Nat.le_trans hb (h4 ad h)⟩
theorem own_addr {w : World} {base e n k c : Nat} {A : Option Addr} {xs : List Value} (h : w.ownsRow base e k (.slice A n c) n xs) : ∀ ad, A = some ad → base ≤ ad.block := by
  intro ad hA
  subst hA
  rcases h.2 with ⟨hv, _⟩ | ⟨g, cap, cur, hv, hb, _⟩
  · injection hv with h1
    cases h1
  · injection hv with h1
    injection h1 with h1
    rw [h1]
    exact hb
/-- A disk that is younger than a row is none of it. -/
theorem DVF.grown {base g : Nat} {w w' : World} {v : Value} {S : List ByteArray} {W : List Wr} (h : DVF base w v S W) (hg : w.grownBy w' (some g)) (hlt : g < base) : DV w' v S W := by
  obtain ⟨A, c, B, d, e, h1, h2, h3, h4⟩ := h
  refine ⟨A, c, B, d, e, fun hl => ?_, fun hl => ?_⟩
  · obtain ⟨ad, rfl, hb, hc⟩ := h1 hl
    have h5 := h3 ad rfl
    refine ⟨ad, rfl, Nat.lt_of_lt_of_le hb hg.size, fun i hi => ?_⟩
    rw [← hc i hi]
    refine World.cell?_of_block ?_
    rw [block_of_add]
    exact hg.block ad.block hb (fun e => by injection e with e; omega)
  · obtain ⟨ad, rfl, hb, hc⟩ := h2 hl
    have h5 := h4 ad rfl
    refine ⟨ad, rfl, Nat.lt_of_lt_of_le hb hg.size, fun i hi j u hu => ?_⟩
    rw [← hc i hi j u hu]
    have hbk : ∀ p : Addr, p.block = ad.block → w'.cell? p = w.cell? p := fun p hp => World.cell?_of_block (by
      rw [hp]
      exact hg.block ad.block hb (fun e => by injection e with e; omega))
    exact hbk _ (by simp only [block_of_add])

set_option maxHeartbeats 2000000 in
theorem put_okF (A : Option Addr) (c : Nat) (S : List ByteArray) (B : Option Addr) (d : Nat) (W : List Wr) (a : Int) (T : Option Addr) (tc : Nat) (l : List ByteArray) (w : World) (hA : Strs w w.heap.size A S) (hB : Wrs w w.heap.size B W) (hT : Strs w w.heap.size T l) (hm : W.length ≤ 100000) (hl : l.length ≤ 100000) (hR : rightB S W = true)
    (hf : fillB l = true) (hh : hasB S.length a l.length = true) :
    Calls Tryd.prog 41 #[.agg #[.slice A S.length c, .slice B W.length d], .int .i64 a, .slice T l.length tc] w fun e w' => ∃ v', e = .returned (.tuple #[v', .int .i64 0]) ∧ DVF w.heap.size w' v' S (W ++ putL a l) ∧ Below w.heap.size w w' := by
  obtain ⟨r1, r2, r3, r4⟩ := right_parts hR
  have hA0 := hA.on (below_two w (.cells #[.slice A S.length c, .slice B W.length d] 36) (.cells #[.slice none 0 0, .slice none 0 0] 36))
  have hB0 := Lies.on hB (below_two w (.cells #[.slice A S.length c, .slice B W.length d] 36) (.cells #[.slice none 0 0, .slice none 0 0] 36))
  have HT := Lib.hid (Two.laid w A S.length c B W.length d)
  have hrt := right_any A c S B d W _ hA0 hB0 (by omega) (by omega)
  rw [hR] at hrt
  have HFI := Lib.hid (fun (w1 : World) (h : Below w.heap.size w w1) => fill_any T tc l w1 (hT.on h) (by unfold maxLen; omega))
  have HCW := Lib.hid (fun (w1 : World) (h : Below w.heap.size w w1) => clone_wr B d W w1 (Lies.on hB h) (by omega))
  have HCS := Lib.hid (fun (w1 : World) (h : Below w.heap.size w w1) => clone_str A c S w1 (hA.on h) (by omega))
  have HTX := Lib.hid hT
  have hlen : S.length ≤ 1000000 := by omega
  have hr2 : S.length ≤ 512 := r2
  obtain ⟨i0, hi0, hz0, hz1, hz2⟩ := info_parts wr_info
  rw [hf] at HFI
  have hh2 := hh
  unfold hasB at hh2
  simp only [decide_eq_true_eq] at hh2
  have HSW := Lib.hid (show (W ++ putL a l).length = W.length + l.length by rw [List.length_append, put_len])
  generalize hs : S.length = n at *
  generalize hw0 : W.length = m at *
  generalize hq : l.length = q at *
  have HS := Lib.hid hs
  have HW0 := Lib.hid hw0
  have HQ := Lib.hid hq
  clear hA hB hA0 hB0 r1 r2 r3 r4 hR hT hf hs hw0 hq
  obtain ⟨p1, p2, p3, p4⟩ := hh2
  go_enter Tryd.func41, Tryd.ntmps41
  go_wp2_with fail
  refine hrt.mono ?_
  clear hrt
  rintro e w1 ⟨rfl, hb1⟩
  have HT1 := Lib.hid (HT.out.on hb1)
  have hz1 : w.heap.size + 1 < w1.heap.size := Box.lt HT1.out.2
  obtain ⟨d1, d2⟩ := DBlk.cells HT1.out.1
  have HB1 := Lib.hid (below_of_two hb1)
  have hfi := HFI.out w1 HB1.out
  clear HT HFI hb1
  go_wp2_with fail
  refine hfi.mono ?_
  clear hfi
  rintro e w2 ⟨rfl, rfl⟩
  have hhas := has_any A c B n m d a q w2 hlen
  rw [hh] at hhas
  clear hh
  go_wp2_with fail
  refine hhas.mono ?_
  clear hhas d1 d2
  rintro e w3 ⟨rfl, hb3⟩
  have HT2 := Lib.hid (HT1.out.on hb3)
  have HB2 := Lib.hid (HB1.out.trans (hb3.mono HB1.out.size))
  have hz2 : w.heap.size + 1 < w3.heap.size := Box.lt HT2.out.2
  obtain ⟨d1, d2⟩ := DBlk.cells HT2.out.1
  have hcw := HCW.out w3 HB2.out
  clear hb3 HB1 HT1 HCW
  go_wp2_with fail
  refine hcw.mono ?_
  clear hcw d1 d2
  rintro e w4 ⟨v4, rfl, hown, hb4⟩
  have HT3 := Lib.hid (HT2.out.on hb4)
  have HB3 := Lib.hid (HB2.out.trans (hb4.mono HB2.out.size))
  have HO := Lib.hid (show w4.ownsRow (w.heap.size + 2) 83 2 v4 (m + 0) ((W ++ putL a (l.take 0)).flatMap Wr.cells) by
    have h := Joins.ownsRow_le hown (show w.heap.size + 2 ≤ w3.heap.size by omega)
    rw [List.take_zero]
    simpa [putL] using h)
  clear hown hb4 HB2 HT2
  go_wp2
  go_loopw [8, 32] (fun v i wr => ∃ (k : Nat), i = .int .i64 k ∧ k ≤ q ∧ wr.ownsRow (w.heap.size + 2) 83 2 v (m + k) ((W ++ putL a (l.take k)).flatMap Wr.cells) ∧ Two wr w.heap.size A n c B m d ∧ Below w.heap.size w wr) (fun _ i _ => (q - intOf i).toNat)
  case atStart => exact ⟨0, rfl, by omega, HO.out, HT3.out, HB3.out⟩
  case round =>
    obtain ⟨k, rfl, hk, hown, ht, hbr⟩ := hrel
    obtain ⟨A2, c2, rfl⟩ := own_shape hown
    have hlr2 : w.heap.size + 1 < wr.heap.size := Box.lt ht.2
    by_cases hlt : k < q
    · obtain ⟨ad, rfl, hab, hca⟩ := (HTX.out.below hbr) (by rw [HQ.out]; omega)
      have x1 := hca k (by rw [HQ.out]; omega)
      have HP := Lib.hid (put_take a l k (by rw [HQ.out]; omega))
      generalize l[k]'(by rw [HQ.out]; omega) = x at *
      clear hca
      have HT4 := Lib.hid ht
      have HO4 := Lib.hid hown
      have hlt3 : (ad.add k).block < wr.heap.size := by rw [block_of_add]; omega
      clear ht hown
      go_wp2_with (at_builtin; refine wpList_append_own _ rfl _ _ 34 rfl (w.heap.size + 2) 83 i0 (.agg #[.int .i64 0, .string ⟨#[]⟩]) 2 24 Tryd.underlying34 hi0 hz0 (by assumption) (by assumption) rfl (by decide) _ _ _ rfl (HO4.out.alloc _) ⟨wr.heap.size, 0, none⟩ 1 1 [.int .i64 (a + k), .string x] rfl rfl ?c1 ?c2 ?c3 ?c4 ?c5 ?_)
      case c1 =>
        intro j u hj
        match j, hj with
        | 0, hj => simp at hj; subst hj; simp [Addr.add]
        | 1, hj => simp at hj; subst hj; simp [Addr.add]
      case c2 => intro u hu; simp at hu; rcases hu with rfl | rfl <;> rfl
      case c3 => unfold maxLen; omega
      case c4 => omega
      case c5 => simp; omega
      intro v' w5 hown5 hg5 _
      have hbr5 : Below w.heap.size w w5 := (hbr.alloc hbr.size _).grown hg5 (by have := hbr.size; simp at this ⊢; omega) (fun k hk => by have := (HO4.out.lt k hk).1; omega)
      have HTW := Lib.hid (show Two w5 w.heap.size A n c B m d from ⟨Box.grown (Box.push HT4.out.1 _) hg5 (fun e => by have := (HO4.out.lt _ e.symm).1; omega), Box.grown (Box.push HT4.out.2 _) hg5 (fun e => by have := (HO4.out.lt _ e.symm).1; omega)⟩)
      have HO5 := Lib.hid (show w5.ownsRow (w.heap.size + 2) 83 2 v' (m + (k + 1)) ((W ++ putL a (l.take (k + 1))).flatMap Wr.cells) by
        rw [HP.out, List.flatMap_append, List.flatMap_append]
        exact hown5)
      clear hown5 hg5
      go_wp2
      go_roundw
      case rel => exact ⟨k + 1, by go_num, by omega, HO5.out, HTW.out, hbr5⟩
      case measure => simp [intOf]; omega
    · have hkn : k = q := by omega
      subst hkn
      rw [List.take_of_length_le (by rw [HQ.out]; omega)] at hown
      have hcs := HCS.out wr hbr
      obtain ⟨d1, d2⟩ := DBlk.cells ht.1
      have HT2 := Lib.hid ht
      have HO6 := Lib.hid hown
      clear hown ht HCS
      go_wp2_with fail
      refine hcs.mono ?_
      clear hcs d1 d2
      rintro e w6 ⟨v6, rfl, hown6, hb6⟩
      obtain ⟨A6, c6, rfl⟩ := own_shape hown6
      have hT3 := HT2.out.on hb6
      have f0 := Box.free hT3.2 0
      have f1 := Box.free hT3.2 1
      obtain ⟨k0, k1⟩ := DBlk.cells hT3.2
      have HO7 := Lib.hid (own_below HO6.out hb6)
      have HO8 := Lib.hid hown6
      have HT3 := Lib.hid hT3
      have hz3 : w.heap.size + 1 < w6.heap.size := Box.lt hT3.2
      have HB2 := Lib.hid (hbr.trans (hb6.mono hbr.size))
      clear hown6 hb6 hT3 HO6
      go_wp2
      have hp := ans_cells (.slice A6 n c6) (.slice A2 (m + k) c2) HT3.out.2
      have e8 := ownsRow_setCell_below (ownsRow_setCell_below HO8.out (a := ⟨w.heap.size + 1, 0, none⟩) hlr2 (.slice A6 n c6)) (a := ⟨w.heap.size + 1, 1, none⟩) hlr2 (.slice A2 (m + k) c2)
      have e7 := ownsRow_setCell_below (ownsRow_setCell_below HO7.out (a := ⟨w.heap.size + 1, 0, none⟩) (Nat.lt_succ_self _) (.slice A6 n c6)) (a := ⟨w.heap.size + 1, 1, none⟩) (Nat.lt_succ_self _) (.slice A2 (m + k) c2)
      exact bodyPost_ret (v := .tuple #[.agg #[.slice A6 n c6, .slice A2 (m + k) c2], .int .i64 0]) (by simp [results, Tryd.results41, go_sem, hp.1, hp.2]) rfl
        ⟨_, rfl, ⟨A6, c6, A2, c2, by rw [HSW.out, HS.out], Strs.own (by rw [HS.out]; exact e8), Lies.own Wr.cells2 (by rw [HSW.out]; exact e7), fun ad h => Nat.le_trans hbr.size (own_addr HO8.out ad h), fun ad h => Nat.le_trans (by omega) (own_addr HO7.out ad h)⟩, (HB2.out.setCell (by simp) _).setCell (by simp) _⟩

theorem DVF.of {base : Nat} {w : World} {A : Option Addr} {n c : Nat} {B : Option Addr} {m d : Nat} {S : List ByteArray} {W : List Wr} (h : DV w (.agg #[.slice A n c, .slice B m d]) S W) (h1 : ∀ ad, A = some ad → base ≤ ad.block) (h2 : ∀ ad, B = some ad → base ≤ ad.block) : DVF base w (.agg #[.slice A n c, .slice B m d]) S W := by
  obtain ⟨A', c', B', d', e, h3, h4⟩ := h
  simp only [Value.agg.injEq, Array.mk.injEq, List.cons.injEq, Value.slice.injEq, and_true] at e
  obtain ⟨⟨rfl, rfl, rfl⟩, rfl, rfl, rfl⟩ := e
  exact ⟨_, _, _, _, rfl, h3, h4, h1, h2⟩
theorem put_dv_okF {v t : Value} {S : List ByteArray} {W : List Wr} {a : Int} {l : List ByteArray} {w : World} (h : DV w v S W) (ht : SV w t l) (hm : W.length ≤ 100000) (hl : l.length ≤ 100000) (hR : rightB S W = true) (hf : fillB l = true) (hh : hasB S.length a l.length = true) :
    Calls Tryd.prog 41 #[v, .int .i64 a, t] w fun e w' => ∃ v', e = .returned (.tuple #[v', .int .i64 0]) ∧ DVF w.heap.size w' v' S (W ++ putL a l) ∧ Below w.heap.size w w' := by
  obtain ⟨A, c, B, d, rfl, hA, hB⟩ := h
  obtain ⟨T, tc, rfl, hT⟩ := ht
  exact put_okF A c S B d W a T tc l w hA hB hT hm hl hR hf hh

set_option maxHeartbeats 4000000 in
set_option maxRecDepth 100000 in
theorem append_okF {v t : Value} {S : List ByteArray} {W : List Wr} (g a : Int) (ts : List ByteArray) {w : World} (h : DV w v S W) (ht : SV w t ts) (hl : ts.length ≤ 65535) (hs : ∀ x ∈ ts, x.size ≤ 1000) (hm : W.length ≤ 90000) (hj : jB S W = true) (hE : chE g a ts = 0) :
    Calls Tryd.prog 21 #[v, .int .i64 g, .int .i64 a, t] w fun e w' => ∃ v', e = .returned (.tuple #[v', .int .i64 (a + needs ts), .int .i64 0]) ∧ DVF w.heap.size w' v' S (W ++ putL (2 + a) (chainL g.toNat a.toNat ts)) ∧ Below w.heap.size w w' := by
  obtain ⟨p, q, rfl, g1, g2, rfl, hle⟩ := ch_zero hE
  have HRD := Lib.hid (fun (wx : World) (hb : Below w.heap.size w wx) => jread_ok (h.on hb) (by omega) hj)
  have hch := fun (wx : World) (hb : Below w.heap.size w wx) => chain_any (p : Int) (q : Int) ts wx (ht.on hb) hl hs
  rw [hE] at hch
  have HCH := Lib.hid hch
  rw [Int.toNat_natCast, Int.toNat_natCast] at HCH ⊢
  have hcl := chain_len p q ts
  have HPT := Lib.hid (fun (wx : World) (x : Value) (hx : RowV wx x (chainL p q ts)) (hb : Below w.heap.size w wx) => put_dv_okF (a := 2 + (q : Int)) (h.on hb) hx.sv (by omega) (by rw [hcl]; omega) (jB_parts hj).1 (chain_fill _ _ _) (by
    have := (jB_parts hj).2
    unfold hasB
    rw [hcl]
    exact decide_eq_true (by omega)))
  obtain ⟨L, hL⟩ : ∃ L, L = chainL p q ts := ⟨_, rfl⟩
  rw [← hL] at HCH HPT hcl ⊢
  obtain ⟨k, hk⟩ : ∃ k, k = needs ts := ⟨_, rfl⟩
  rw [← hk] at hcl hle ⊢
  obtain ⟨A, c, B, d, rfl, hA, hB⟩ := h
  have HT := Lib.hid (Two.laid w A S.length c B W.length d)
  have HB0 := Lib.hid (below_two w (.cells #[.slice A S.length c, .slice B W.length d] 36) (.cells #[.slice none 0 0, .slice none 0 0] 36))
  generalize flatS (jou S W) = s at *
  obtain ⟨W2, hW2⟩ : ∃ W2, W2 = W ++ putL (2 + (q : Int)) L := ⟨_, rfl⟩
  rw [← hW2] at HPT ⊢
  have HLZ := Lib.hid hcl
  generalize S.length = n at *
  generalize W.length = m at *
  clear hA hB hj hm hs ht hl hch hL hW2 hE hk
  have hrd := HRD.out _ HB0.out
  clear HRD
  go_enter Tryd.func21, Tryd.ntmps21
  go_wp2_with fail
  refine hrd.mono ?_
  rintro e w1 ⟨rfl, hb1⟩
  have HT1 := Lib.hid (HT.out.on hb1)
  have HB1 := Lib.hid (below_of_two hb1)
  clear hb1 hrd
  have hch := HCH.out _ HB1.out
  go_wp2_with fail
  refine hch.mono ?_
  rintro e w2 ⟨v2, rfl, hv2, hb2⟩
  have hv2 := hv2 trivial
  have HT2 := Lib.hid (HT1.out.on hb2)
  have HB2 := Lib.hid (HB1.out.trans (hb2.mono HB1.out.size))
  have hpt := HPT.out _ _ hv2 HB2.out
  obtain ⟨A9, c9, rfl, _, _⟩ := hv2
  clear hb2 hch HCH HPT
  have hz1 : w.heap.size + 1 < w2.heap.size := Box.lt HT2.out.2
  obtain ⟨d1, d2⟩ := DBlk.cells HT2.out.1
  rw [HLZ.out] at hpt ⊢
  go_wp2_with fail
  refine hpt.mono ?_
  clear hpt d1 d2 hz1
  rintro e w3 ⟨v3, rfl, hv3, hb3⟩
  obtain ⟨A2, c2, B2, e2, rfl, hA2, hB2, hfa, hfb⟩ := hv3
  have HFA := Lib.hid (fun ad h => Nat.le_trans HB2.out.size (hfa ad h))
  have HFB := Lib.hid (fun ad h => Nat.le_trans HB2.out.size (hfb ad h))
  clear hfa hfb
  have hv3 : DV w3 _ S W2 := ⟨A2, c2, B2, e2, rfl, hA2, hB2⟩
  have hba : Below w3.heap.size w3 (w3.alloc (.cells #[.slice A2 S.length c2, .slice B2 W2.length e2] 36)) := (Below.refl _ _).alloc (Nat.le_refl _) _
  have HE3 := Lib.hid (show DBlk (w3.alloc (.cells #[.slice A2 S.length c2, .slice B2 W2.length e2] 36)) w3.heap.size A2 S.length c2 B2 W2.length e2 from Box.fresh _ _ _)
  have HT3 := Lib.hid ((HT2.out.on hb3).on hba)
  have HV3 := Lib.hid (hv3.on hba)
  have HB3 := Lib.hid ((HB2.out.trans (hb3.mono HB2.out.size)).trans (hba.mono (HB2.out.trans (hb3.mono HB2.out.size)).size))
  clear hA2 hB2 hv3 hb3 hba HT2 HB2
  generalize S.length = n2 at *
  generalize W2.length = m2 at *
  have hw1 : IntKind.i64.wrap ((q : Int) + k) = q + k := IntWalk.i64_in _ (by omega)
  have hz1 : w.heap.size + 1 < (w3.alloc (.cells #[.slice A2 n2 c2, .slice B2 m2 e2] 36)).heap.size := Box.lt HT3.out.2
  have f0 := Box.free HT3.out.2 0
  have f1 := Box.free HT3.out.2 1
  obtain ⟨k0, k1⟩ := DBlk.cells HT3.out.2
  obtain ⟨d1, d2⟩ := DBlk.cells HE3.out
  go_wp2
  have hp := ans_cells (.slice A2 n2 c2) (.slice B2 m2 e2) HT3.out.2
  exact bodyPost_ret (v := .tuple #[.agg #[.slice A2 n2 c2, .slice B2 m2 e2], .int .i64 (q + k), .int .i64 0]) (by simp [results, Tryd.results21, go_sem, hp.1, hp.2]) rfl ⟨_, rfl, DVF.of (HV3.out.apart HT3.out.2 A2 n2 c2 B2 m2 e2) HFA.out HFB.out, (HB3.out.setCell (by simp) _).setCell (by simp) _⟩

theorem chE_in {g a : Nat} {ts : List ByteArray} (hg : 1 ≤ g) (hg2 : g ≤ 2147483647) (ha : a ≤ 128) (h : a + needs ts ≤ 128) : chE (g : Int) (a : Int) ts = 0 := by
  unfold chE
  rw [gp_of hg hg2 ha, if_pos rfl, if_pos (by omega)]
theorem chE_out {g a : Nat} {ts : List ByteArray} (hg : 1 ≤ g) (hg2 : g ≤ 2147483647) (ha : a ≤ 128) (h : 128 < a + needs ts) : chE (g : Int) (a : Int) ts = 6 := by
  unfold chE
  rw [gp_of hg hg2 ha, if_pos rfl, if_neg (by omega)]
/-- Append of records that have room; of records that have none. -/
theorem append_inF {v t : Value} {S : List ByteArray} {W W' : List Wr} (g a : Nat) (ts : List ByteArray) {n : Nat} {w : World} (h : DV w v S W) (ht : SV w t ts) (hl : ts.length ≤ 65535) (hs : ∀ x ∈ ts, x.size ≤ 1000) (hm : W.length ≤ 90000) (hj : jB S W = true) (hg : 1 ≤ g) (hg2 : g ≤ 2147483647) (hf : a + needs ts ≤ 128) (hW : W' = W ++ putL (2 + (a : Int)) (chainL g a ts)) (hn : n = a + needs ts) :
    Calls Tryd.prog 21 #[v, .int .i64 g, .int .i64 a, t] w fun e w' => ∃ v', e = .returned (.tuple #[v', .int .i64 n, .int .i64 0]) ∧ DVF w.heap.size w' v' S W' ∧ Below w.heap.size w w' := by
  have h1 := append_okF (g : Int) (a : Int) ts h ht hl hs hm hj (chE_in hg hg2 (by omega) hf)
  rw [Int.toNat_natCast, Int.toNat_natCast, ← hW] at h1
  rw [show (n : Int) = (a : Int) + (needs ts : Nat) by omega]
  exact h1
theorem append_outF {v t : Value} {S : List ByteArray} {W : List Wr} (g a : Nat) (ts : List ByteArray) {w : World} (h : DV w v S W) (ht : SV w t ts) (hl : ts.length ≤ 65535) (hs : ∀ x ∈ ts, x.size ≤ 1000) (hm : W.length ≤ 1000000) (hj : jB S W = true) (hg : 1 ≤ g) (hg2 : g ≤ 2147483647) (ha : a ≤ 128) (hf : 128 < a + needs ts) :
    Calls Tryd.prog 21 #[v, .int .i64 g, .int .i64 a, t] w fun e w' => e = .returned (.tuple #[v, .int .i64 a, .int .i64 6]) ∧ Below w.heap.size w w' := by
  have h1 := append_bad (g : Int) (a : Int) ts h ht hl hs hm hj (by rw [chE_out hg hg2 ha hf]; decide)
  rw [chE_out hg hg2 ha hf] at h1
  exact h1

end Go.Proofs.YtdgjnjhmjgdhnaaDoor
