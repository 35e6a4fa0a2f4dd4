/- The walk of Crash, of a disk that is right. -/
import Derived.Test.YtdgjnjhmjgdhnaaDoorWFlush
namespace Go.Proofs.YtdgjnjhmjgdhnaaDoor
open Go.RowKit

set_option maxHeartbeats 2000000 in
theorem crash_right (A : Option Addr) (c : Nat) (S : List ByteArray) (B : Option Addr) (d : Nat) (W : List Wr) (K : Option Addr) (kc : Nat) (ks : List Bool) (w : World) (hA : Strs w w.heap.size A S) (hB : Wrs w w.heap.size B W) (hK : Bls w w.heap.size K ks) (hm : W.length ≤ 1000000) (hk : ks.length ≤ 1000000) (hR : rightB S W = true) :
    Calls Tryd.prog 26 #[.agg #[.slice A S.length c, .slice B W.length d], .slice K ks.length kc] w fun e w' => ∃ v', e = .returned v' ∧ DV w' v' (doneL S (keptL ks W)) [] ∧ Below w.heap.size w w' := by
  obtain ⟨r1, r2, r3, r4⟩ := right_parts hR
  have hA0 := hA.on (below_two w (.cells #[.slice A S.length c, .slice B W.length d] 36) (.cells #[.slice none 0 0, .slice none 0 0] 36))
  have hB0 := Lies.on hB (below_two w (.cells #[.slice A S.length c, .slice B W.length d] 36) (.cells #[.slice none 0 0, .slice none 0 0] 36))
  have HT := Lib.hid (Two.laid w A S.length c B W.length d)
  have hrt := right_any A c S B d W _ hA0 hB0 (by omega) hm
  rw [hR] at hrt
  obtain ⟨i0, hi0, hz0, hz1, hz2⟩ := info_parts wr_info
  have HWR := Lib.hid (fun (w1 : World) (V : List Wr) (C : Option Addr) (e : Nat) (hC : Wrs w1 w1.heap.size C V) (hV : V = keptL ks W) (h : Below w.heap.size w w1) => written_any A c S C e V w1 (hA.on h) hC (by omega) (by rw [hV]; have := kept_len ks W; omega) r1 (fun x hx => (r4 x (kept_mem (by rw [← hV]; exact hx))).2))
  have HDL := Lib.hid (done_len S (keptL ks W))
  have HKL := Lib.hid (fun V : List Wr => kept_len ks V)
  generalize S.length = n at *
  generalize hl : W.length = m at *
  generalize hq : ks.length = q at *
  have HL := Lib.hid hl
  have HQ := Lib.hid hq
  have HB := Lib.hid hB
  have HK := Lib.hid hK
  clear hA hB hA0 hB0 r1 r2 r3 r4 hR hl hq hK
  go_enter Tryd.func26, Tryd.ntmps26
  go_wp2_with fail
  refine hrt.mono ?_
  clear hrt
  rintro e w1 ⟨rfl, hb1⟩
  have HT1 := Lib.hid (HT.out.on hb1)
  have hzz : w.heap.size + 1 < w1.heap.size := Box.lt HT1.out.2
  obtain ⟨d1, d2⟩ := DBlk.cells HT1.out.1
  have HB1 := Lib.hid (below_of_two hb1)
  clear HT hb1
  go_wp2
  clear d1 d2
  go_loopw [5, 15] (fun v i wr => ∃ (k : Nat), i = .int .i64 k ∧ k ≤ m ∧ wr.ownsRow (w.heap.size + 2) 83 2 v (keptL ks (W.take k)).length ((keptL ks (W.take k)).flatMap Wr.cells) ∧ Two wr w.heap.size A n c B m d ∧ Below w.heap.size w wr) (fun _ i _ => (m - intOf i).toNat)
  case atStart => exact ⟨0, rfl, by omega, by rw [List.take_zero, kept_nil]; exact World.ownsRow_nil _ _ _ _, HT1.out, HB1.out⟩
  case round =>
    obtain ⟨k, rfl, hk, hown, ht, hbr⟩ := hrel
    obtain ⟨A2, c2, rfl⟩ := own_shape hown
    have hlr2 : w.heap.size + 1 < wr.heap.size := Box.lt ht.2
    by_cases hlt : k < m
    · obtain ⟨ad, rfl, hab, hca⟩ := (HB.out.below hbr).seeW (by rw [HL.out]; omega)
      obtain ⟨x1, x2⟩ := hca k (by rw [HL.out]; omega)
      have HT := Lib.hid (kept_take ks W k (by rw [HL.out]; omega))
      generalize W[k]'(by rw [HL.out]; omega) = x at *
      obtain ⟨xa, xt⟩ := x
      simp only at x1 x2
      clear hca
      have hle : (keptL ks (W.take k)).length ≤ 1000000 := by
        have h1 := HKL.out (W.take k)
        rw [List.length_take, HL.out] at h1
        omega
      have HT2 := Lib.hid ht
      have HO := Lib.hid hown
      have hlt3 : (ad.add (k * 2)).block < w.heap.size := by rw [block_of_add]; exact hab
      have HB2 := Lib.hid (show Below w.heap.size w (wr.alloc (.cells #[.int .i64 xa, .string xt] 83)) from hbr.alloc hbr.size _)
      have HTT := Lib.hid (show Two (wr.alloc (.cells #[.int .i64 xa, .string xt] 83)) w.heap.size A n c (some ad) m d from ⟨Box.push ht.1 _, Box.push ht.2 _⟩)
      clear ht hown
      generalize keptL ks (W.take k) = ls at *
      have hskip : ks.getD k false = false → (wr.alloc (.cells #[.int .i64 xa, .string xt] 83)).ownsRow (w.heap.size + 2) 83 2 (.slice A2 ls.length c2) (keptL ks (W.take (k + 1))).length ((keptL ks (W.take (k + 1))).flatMap Wr.cells) := by
        intro h
        rw [HT.out, h]
        simpa using HO.out.alloc _
      have HSK := Lib.hid hskip
      clear hskip
      by_cases hkq : k < q
      · obtain ⟨ad2, rfl, hab2, hca2⟩ := (HK.out.below hbr).seeB (by rw [HQ.out]; omega)
        have y1 := hca2 k (by rw [HQ.out]; omega)
        have hge : ks.getD k false = ks[k]'(by rw [HQ.out]; omega) := by rw [List.getD_eq_getElem?_getD, List.getElem?_eq_getElem (by rw [HQ.out]; omega)]; rfl
        have hltk : (ad2.add k).block < wr.heap.size := by rw [block_of_add]; omega
        generalize ks[k]'(by rw [HQ.out]; omega) = b at *
        have HGE := Lib.hid hge
        clear hca2 hge
        cases b with
        | false =>
          have HS := Lib.hid (HSK.out HGE.out)
          go_wp2
          go_roundw
          case rel => exact ⟨k + 1, by go_num, by omega, HS.out, HTT.out, HB2.out⟩
          case measure => simp [intOf]; omega
        | true =>
          have HT3 := Lib.hid (show keptL ks (W.take (k + 1)) = ls ++ [⟨xa, xt⟩] by rw [HT.out, HGE.out]; rfl)
          clear HSK
          have hown1 := HO.out.alloc (.cells #[.int .i64 xa, .string xt] 83)
          go_wp2_with (at_builtin; refine wpList_append_own _ rfl _ _ 34 rfl (w.heap.size + 2) 83 i0 (.agg #[.int .i64 0, .string ⟨#[]⟩]) 2 24 Tryd.underlying34 hi0 hz0 hz1 hz2 rfl (by decide) _ _ _ rfl (hown1.alloc _) ⟨wr.heap.size + 1, 0, none⟩ 1 1 [.int .i64 xa, .string xt] rfl rfl ?c1 ?c2 ?c3 ?c4 ?c5 ?_)
          case c1 =>
            intro j u hj
            match j, hj with
            | 0, hj => simp at hj; subst hj; simp [Addr.add]
            | 1, hj => simp at hj; subst hj; simp [Addr.add]
          case c2 => intro u hu; simp at hu; rcases hu with rfl | rfl <;> rfl
          case c3 => unfold maxLen; omega
          case c4 => omega
          case c5 => simp; omega
          intro v' w2 hown2 hg2 _
          have hbr2 : Below w.heap.size w w2 := (HB2.out.alloc HB2.out.size _).grown hg2 (by have := HB2.out.size; simp at this ⊢; omega) (fun k hk => by have := (hown1.lt k hk).1; omega)
          have HTW := Lib.hid (show Two w2 w.heap.size A n c (some ad) m d from ⟨Box.grown (Box.push HTT.out.1 _) hg2 (fun e => by have := (hown1.lt _ e.symm).1; omega), Box.grown (Box.push HTT.out.2 _) hg2 (fun e => by have := (hown1.lt _ e.symm).1; omega)⟩)
          have HO2 := Lib.hid hown2
          clear hown1 hown2 hg2
          go_wp2
          go_roundw
          case rel => exact ⟨k + 1, by go_num, by omega, by rw [HT3.out]; simpa [Wr.cells] using HO2.out, HTW.out, hbr2⟩
          case measure => simp [intOf]; omega
      · have HS := Lib.hid (HSK.out (by rw [List.getD_eq_getElem?_getD, List.getElem?_eq_none (by rw [HQ.out]; omega)]; rfl))
        clear HSK
        go_wp2
        go_roundw
        case rel => exact ⟨k + 1, by go_num, by omega, HS.out, HTT.out, HB2.out⟩
        case measure => simp [intOf]; omega
    · have hkn : k = m := by omega
      subst hkn
      rw [List.take_of_length_le (by rw [HL.out]; omega)] at hown
      have hw := HWR.out wr (keptL ks W) A2 c2 (Lies.own Wr.cells2 hown) rfl hbr
      rw [List.take_of_length_le (by rw [HL.out]; omega)]
      have hz1 : w.heap.size + 1 < wr.heap.size := Box.lt ht.2
      obtain ⟨d1, d2⟩ := DBlk.cells ht.1
      have HT2 := Lib.hid ht
      clear HWR hown ht
      go_wp2_with fail
      refine hw.mono ?_
      clear hw d1 d2
      rintro e w2 ⟨g, cap, rfl, hown, hb2⟩
      have hT3 := HT2.out.on hb2
      have f0 := Box.free hT3.2 0
      have f1 := Box.free hT3.2 1
      obtain ⟨k0, k1⟩ := DBlk.cells hT3.2
      have HO := Lib.hid hown
      have HT3 := Lib.hid hT3
      have hz2 : w.heap.size + 1 < w2.heap.size := Box.lt hT3.2
      have HB2 := Lib.hid (hbr.trans (hb2.mono hbr.size))
      clear hown hb2 hT3
      go_wp2
      have hp := ans_cells (.slice (some ⟨g, 0, none⟩) n cap) (.slice none 0 0) HT3.out.2
      exact bodyPost_ret (v := .agg #[.slice (some ⟨g, 0, none⟩) n cap, .slice none 0 0]) (by simp [results, Tryd.results26, go_sem, hp.1, hp.2]) rfl
        ⟨_, rfl, ⟨some ⟨g, 0, none⟩, cap, none, 0, by rw [HDL.out]; rfl, Strs.answered HO.out HDL.out hz1, Lies.nil⟩, (HB2.out.setCell (by simp) _).setCell (by simp) _⟩

end Go.Proofs.YtdgjnjhmjgdhnaaDoor
