/- The walk of Put, of a disk that is right. -/
import Derived.Test.YtdgjnjhmjgdhnaaDoorWFlush
namespace Go.Proofs.YtdgjnjhmjgdhnaaDoor
open Go.RowKit

set_option maxHeartbeats 2000000 in
theorem put_bad (A : Option Addr) (c : Nat) (S : List ByteArray) (B : Option Addr) (d : Nat) (W : List Wr) (a : Int) (T : Option Addr) (tc : Nat) (l : List ByteArray) (w : World) (hA : Strs w w.heap.size A S) (hB : Wrs w w.heap.size B W) (hT : Strs w w.heap.size T l) (hm : W.length ≤ 1000000) (hl : l.length ≤ 1000000) (hR : rightB S W = true)
    (hbad : fillB l = false ∨ hasB S.length a l.length = false) :
    Calls Tryd.prog 41 #[.agg #[.slice A S.length c, .slice B W.length d], .int .i64 a, .slice T l.length tc] w fun e w' => e = .returned (.tuple #[.agg #[.slice A S.length c, .slice B W.length d], .int .i64 1]) ∧ Below w.heap.size w w' := by
  obtain ⟨r1, r2, r3, r4⟩ := right_parts hR
  have hA0 := hA.on (below_two w (.cells #[.slice A S.length c, .slice B W.length d] 36) (.cells #[.slice none 0 0, .slice none 0 0] 36))
  have hB0 := Lies.on hB (below_two w (.cells #[.slice A S.length c, .slice B W.length d] 36) (.cells #[.slice none 0 0, .slice none 0 0] 36))
  have HT := Lib.hid (Two.laid w A S.length c B W.length d)
  have hrt := right_any A c S B d W _ hA0 hB0 (by omega) hm
  rw [hR] at hrt
  have HFI := Lib.hid (fun (w1 : World) (h : Below w.heap.size w w1) => fill_any T tc l w1 (hT.on h) (by unfold maxLen; omega))
  have hlen : S.length ≤ 1000000 := by omega
  generalize S.length = n at *
  generalize W.length = m at *
  generalize l.length = q at *
  clear hA hB hA0 hB0 r1 r2 r3 r4 hR hT
  go_enter Tryd.func41, Tryd.ntmps41
  go_wp2_with fail
  refine hrt.mono ?_
  clear hrt
  rintro e w1 ⟨rfl, hb1⟩
  have HT1 := Lib.hid (HT.out.on hb1)
  have hz1 : w.heap.size + 1 < w1.heap.size := Box.lt HT1.out.2
  obtain ⟨d1, d2⟩ := DBlk.cells HT1.out.1
  have HB1 := Lib.hid (below_of_two hb1)
  have hfi := HFI.out w1 HB1.out
  clear HT HFI hb1
  go_wp2_with fail
  refine hfi.mono ?_
  clear hfi
  rintro e w2 ⟨rfl, rfl⟩
  cases hf : fillB l with
  | false =>
    have f0 := Box.free HT1.out.2 0
    have f1 := Box.free HT1.out.2 1
    obtain ⟨k0, k1⟩ := DBlk.cells HT1.out.2
    go_wp2
    have hp := ans_cells (.slice A n c) (.slice B m d) HT1.out.2
    exact bodyPost_ret (v := .tuple #[.agg #[.slice A n c, .slice B m d], .int .i64 1]) (by simp [results, Tryd.results41, go_sem, hp.1, hp.2]) rfl ⟨rfl, (HB1.out.setCell (by simp) _).setCell (by simp) _⟩
  | true =>
    have hh : hasB n a q = false := by rcases hbad with h | h; (rw [hf] at h; cases h); exact h
    have hhas := has_any A c B n m d a q w2 hlen
    rw [hh] at hhas
    clear hbad hf hh
    go_wp2_with fail
    refine hhas.mono ?_
    clear hhas d1 d2
    rintro e w3 ⟨rfl, hb3⟩
    have HT2 := Lib.hid (HT1.out.on hb3)
    have hz2 : w.heap.size + 1 < w3.heap.size := Box.lt HT2.out.2
    obtain ⟨d1, d2⟩ := DBlk.cells HT2.out.1
    have f0 := Box.free HT2.out.2 0
    have f1 := Box.free HT2.out.2 1
    obtain ⟨k0, k1⟩ := DBlk.cells HT2.out.2
    have HB2 := Lib.hid (HB1.out.trans (hb3.mono HB1.out.size))
    clear hb3 HB1 HT1
    go_wp2
    have hp := ans_cells (.slice A n c) (.slice B m d) HT2.out.2
    exact bodyPost_ret (v := .tuple #[.agg #[.slice A n c, .slice B m d], .int .i64 1]) (by simp [results, Tryd.results41, go_sem, hp.1, hp.2]) rfl ⟨rfl, (HB2.out.setCell (by simp) _).setCell (by simp) _⟩

set_option maxHeartbeats 2000000 in
theorem put_ok (A : Option Addr) (c : Nat) (S : List ByteArray) (B : Option Addr) (d : Nat) (W : List Wr) (a : Int) (T : Option Addr) (tc : Nat) (l : List ByteArray) (w : World) (hA : Strs w w.heap.size A S) (hB : Wrs w w.heap.size B W) (hT : Strs w w.heap.size T l) (hm : W.length ≤ 100000) (hl : l.length ≤ 100000) (hR : rightB S W = true)
    (hf : fillB l = true) (hh : hasB S.length a l.length = true) :
    Calls Tryd.prog 41 #[.agg #[.slice A S.length c, .slice B W.length d], .int .i64 a, .slice T l.length tc] w fun e w' => ∃ v', e = .returned (.tuple #[v', .int .i64 0]) ∧ DV w' v' S (W ++ putL a l) ∧ Below w.heap.size w w' := by
  obtain ⟨r1, r2, r3, r4⟩ := right_parts hR
  have hA0 := hA.on (below_two w (.cells #[.slice A S.length c, .slice B W.length d] 36) (.cells #[.slice none 0 0, .slice none 0 0] 36))
  have hB0 := Lies.on hB (below_two w (.cells #[.slice A S.length c, .slice B W.length d] 36) (.cells #[.slice none 0 0, .slice none 0 0] 36))
  have HT := Lib.hid (Two.laid w A S.length c B W.length d)
  have hrt := right_any A c S B d W _ hA0 hB0 (by omega) (by omega)
  rw [hR] at hrt
  have HFI := Lib.hid (fun (w1 : World) (h : Below w.heap.size w w1) => fill_any T tc l w1 (hT.on h) (by unfold maxLen; omega))
  have HCW := Lib.hid (fun (w1 : World) (h : Below w.heap.size w w1) => clone_wr B d W w1 (Lies.on hB h) (by omega))
  have HCS := Lib.hid (fun (w1 : World) (h : Below w.heap.size w w1) => clone_str A c S w1 (hA.on h) (by omega))
  have HTX := Lib.hid hT
  have hlen : S.length ≤ 1000000 := by omega
  have hr2 : S.length ≤ 512 := r2
  obtain ⟨i0, hi0, hz0, hz1, hz2⟩ := info_parts wr_info
  rw [hf] at HFI
  have hh2 := hh
  unfold hasB at hh2
  simp only [decide_eq_true_eq] at hh2
  have HSW := Lib.hid (show (W ++ putL a l).length = W.length + l.length by rw [List.length_append, put_len])
  generalize hs : S.length = n at *
  generalize hw0 : W.length = m at *
  generalize hq : l.length = q at *
  have HS := Lib.hid hs
  have HW0 := Lib.hid hw0
  have HQ := Lib.hid hq
  clear hA hB hA0 hB0 r1 r2 r3 r4 hR hT hf hs hw0 hq
  obtain ⟨p1, p2, p3, p4⟩ := hh2
  go_enter Tryd.func41, Tryd.ntmps41
  go_wp2_with fail
  refine hrt.mono ?_
  clear hrt
  rintro e w1 ⟨rfl, hb1⟩
  have HT1 := Lib.hid (HT.out.on hb1)
  have hz1 : w.heap.size + 1 < w1.heap.size := Box.lt HT1.out.2
  obtain ⟨d1, d2⟩ := DBlk.cells HT1.out.1
  have HB1 := Lib.hid (below_of_two hb1)
  have hfi := HFI.out w1 HB1.out
  clear HT HFI hb1
  go_wp2_with fail
  refine hfi.mono ?_
  clear hfi
  rintro e w2 ⟨rfl, rfl⟩
  have hhas := has_any A c B n m d a q w2 hlen
  rw [hh] at hhas
  clear hh
  go_wp2_with fail
  refine hhas.mono ?_
  clear hhas d1 d2
  rintro e w3 ⟨rfl, hb3⟩
  have HT2 := Lib.hid (HT1.out.on hb3)
  have HB2 := Lib.hid (HB1.out.trans (hb3.mono HB1.out.size))
  have hz2 : w.heap.size + 1 < w3.heap.size := Box.lt HT2.out.2
  obtain ⟨d1, d2⟩ := DBlk.cells HT2.out.1
  have hcw := HCW.out w3 HB2.out
  clear hb3 HB1 HT1 HCW
  go_wp2_with fail
  refine hcw.mono ?_
  clear hcw d1 d2
  rintro e w4 ⟨v4, rfl, hown, hb4⟩
  have HT3 := Lib.hid (HT2.out.on hb4)
  have HB3 := Lib.hid (HB2.out.trans (hb4.mono HB2.out.size))
  have HO := Lib.hid (show w4.ownsRow (w.heap.size + 2) 83 2 v4 (m + 0) ((W ++ putL a (l.take 0)).flatMap Wr.cells) by
    have h := Joins.ownsRow_le hown (show w.heap.size + 2 ≤ w3.heap.size by omega)
    rw [List.take_zero]
    simpa [putL] using h)
  clear hown hb4 HB2 HT2
  go_wp2
  go_loopw [8, 32] (fun v i wr => ∃ (k : Nat), i = .int .i64 k ∧ k ≤ q ∧ wr.ownsRow (w.heap.size + 2) 83 2 v (m + k) ((W ++ putL a (l.take k)).flatMap Wr.cells) ∧ Two wr w.heap.size A n c B m d ∧ Below w.heap.size w wr) (fun _ i _ => (q - intOf i).toNat)
  case atStart => exact ⟨0, rfl, by omega, HO.out, HT3.out, HB3.out⟩
  case round =>
    obtain ⟨k, rfl, hk, hown, ht, hbr⟩ := hrel
    obtain ⟨A2, c2, rfl⟩ := own_shape hown
    have hlr2 : w.heap.size + 1 < wr.heap.size := Box.lt ht.2
    by_cases hlt : k < q
    · obtain ⟨ad, rfl, hab, hca⟩ := (HTX.out.below hbr) (by rw [HQ.out]; omega)
      have x1 := hca k (by rw [HQ.out]; omega)
      have HP := Lib.hid (put_take a l k (by rw [HQ.out]; omega))
      generalize l[k]'(by rw [HQ.out]; omega) = x at *
      clear hca
      have HT4 := Lib.hid ht
      have HO4 := Lib.hid hown
      have hlt3 : (ad.add k).block < wr.heap.size := by rw [block_of_add]; omega
      clear ht hown
      go_wp2_with (at_builtin; refine wpList_append_own _ rfl _ _ 34 rfl (w.heap.size + 2) 83 i0 (.agg #[.int .i64 0, .string ⟨#[]⟩]) 2 24 Tryd.underlying34 hi0 hz0 (by assumption) (by assumption) rfl (by decide) _ _ _ rfl (HO4.out.alloc _) ⟨wr.heap.size, 0, none⟩ 1 1 [.int .i64 (a + k), .string x] rfl rfl ?c1 ?c2 ?c3 ?c4 ?c5 ?_)
      case c1 =>
        intro j u hj
        match j, hj with
        | 0, hj => simp at hj; subst hj; simp [Addr.add]
        | 1, hj => simp at hj; subst hj; simp [Addr.add]
      case c2 => intro u hu; simp at hu; rcases hu with rfl | rfl <;> rfl
      case c3 => unfold maxLen; omega
      case c4 => omega
      case c5 => simp; omega
      intro v' w5 hown5 hg5 _
      have hbr5 : Below w.heap.size w w5 := (hbr.alloc hbr.size _).grown hg5 (by have := hbr.size; simp at this ⊢; omega) (fun k hk => by have := (HO4.out.lt k hk).1; omega)
      have HTW := Lib.hid (show Two w5 w.heap.size A n c B m d from ⟨Box.grown (Box.push HT4.out.1 _) hg5 (fun e => by have := (HO4.out.lt _ e.symm).1; omega), Box.grown (Box.push HT4.out.2 _) hg5 (fun e => by have := (HO4.out.lt _ e.symm).1; omega)⟩)
      have HO5 := Lib.hid (show w5.ownsRow (w.heap.size + 2) 83 2 v' (m + (k + 1)) ((W ++ putL a (l.take (k + 1))).flatMap Wr.cells) by
        rw [HP.out, List.flatMap_append, List.flatMap_append]
        exact hown5)
      clear hown5 hg5
      go_wp2
      go_roundw
      case rel => exact ⟨k + 1, by go_num, by omega, HO5.out, HTW.out, hbr5⟩
      case measure => simp [intOf]; omega
    · have hkn : k = q := by omega
      subst hkn
      rw [List.take_of_length_le (by rw [HQ.out]; omega)] at hown
      have hcs := HCS.out wr hbr
      obtain ⟨d1, d2⟩ := DBlk.cells ht.1
      have HT2 := Lib.hid ht
      have HO6 := Lib.hid hown
      clear hown ht HCS
      go_wp2_with fail
      refine hcs.mono ?_
      clear hcs d1 d2
      rintro e w6 ⟨v6, rfl, hown6, hb6⟩
      obtain ⟨A6, c6, rfl⟩ := own_shape hown6
      have hT3 := HT2.out.on hb6
      have f0 := Box.free hT3.2 0
      have f1 := Box.free hT3.2 1
      obtain ⟨k0, k1⟩ := DBlk.cells hT3.2
      have HO7 := Lib.hid (own_below HO6.out hb6)
      have HO8 := Lib.hid hown6
      have HT3 := Lib.hid hT3
      have hz3 : w.heap.size + 1 < w6.heap.size := Box.lt hT3.2
      have HB2 := Lib.hid (hbr.trans (hb6.mono hbr.size))
      clear hown6 hb6 hT3 HO6
      go_wp2
      have hp := ans_cells (.slice A6 n c6) (.slice A2 (m + k) c2) HT3.out.2
      have e8 := ownsRow_setCell_below (ownsRow_setCell_below HO8.out (a := ⟨w.heap.size + 1, 0, none⟩) hlr2 (.slice A6 n c6)) (a := ⟨w.heap.size + 1, 1, none⟩) hlr2 (.slice A2 (m + k) c2)
      have e7 := ownsRow_setCell_below (ownsRow_setCell_below HO7.out (a := ⟨w.heap.size + 1, 0, none⟩) (Nat.lt_succ_self _) (.slice A6 n c6)) (a := ⟨w.heap.size + 1, 1, none⟩) (Nat.lt_succ_self _) (.slice A2 (m + k) c2)
      exact bodyPost_ret (v := .tuple #[.agg #[.slice A6 n c6, .slice A2 (m + k) c2], .int .i64 0]) (by simp [results, Tryd.results41, go_sem, hp.1, hp.2]) rfl
        ⟨_, rfl, ⟨A6, c6, A2, c2, by rw [HSW.out, HS.out], Strs.own (by rw [HS.out]; exact e8), Lies.own Wr.cells2 (by rw [HSW.out]; exact e7)⟩, (HB2.out.setCell (by simp) _).setCell (by simp) _⟩

end Go.Proofs.YtdgjnjhmjgdhnaaDoor
