/- The walk of Put of what is no disk; the walk of Write. -/
import Derived.Test.YthcolmdfpciolaaWSec
namespace Go.Proofs.Ythcolmdfpciolaa
open Go.RowKit

set_option maxHeartbeats 2000000 in
theorem put_wrong {v t : Value} {S : List ByteArray} {W : List Wr} {a : Int} {w : World} (h : DV w v S W) (hn : S.length ≤ 1000000) (hm : W.length ≤ 1000000) (hR : rightB S W = false) :
    Calls Try.prog 40 #[v, .int .i64 a, t] w fun e w' => e = .returned (.tuple #[.agg #[.slice none 0 0, .slice none 0 0], .int .i64 1]) ∧ Below w.heap.size w w' := by
  obtain ⟨A, c, B, d, rfl, hA, hB⟩ := h
  have hA0 := hA.on (below_two w (.cells #[.slice A S.length c, .slice B W.length d] 25) (.cells #[.slice none 0 0, .slice none 0 0] 25))
  have hB0 := Lies.on hB (below_two w (.cells #[.slice A S.length c, .slice B W.length d] 25) (.cells #[.slice none 0 0, .slice none 0 0] 25))
  have HT := Lib.hid (Two.laid w A S.length c B W.length d)
  have hrt := right_any A c S B d W _ hA0 hB0 hn hm
  rw [hR] at hrt
  generalize S.length = n at *
  generalize W.length = m at *
  clear hA hB hA0 hB0 hR
  go_enter Try.func40, Try.ntmps40
  go_wp2_with fail
  refine hrt.mono ?_
  clear hrt
  rintro e w1 ⟨rfl, hb1⟩
  have HT1 := Lib.hid (HT.out.on hb1)
  have hz1 : w.heap.size + 1 < w1.heap.size := Box.lt HT1.out.2
  have HB1 := Lib.hid (below_of_two hb1)
  clear HT hb1
  have f0 := Box.free HT1.out.2 0
  have f1 := Box.free HT1.out.2 1
  obtain ⟨k0, k1⟩ := DBlk.cells HT1.out.2
  go_wp2
  have hp := ans_cells (.slice none 0 0) (.slice none 0 0) HT1.out.2
  exact bodyPost_ret (v := .tuple #[.agg #[.slice none 0 0, .slice none 0 0], .int .i64 1]) (by simp [results, Try.results40, go_sem, hp.1, hp.2]) rfl ⟨rfl, (HB1.out.setCell (by simp) _).setCell (by simp) _⟩

set_option maxHeartbeats 2000000 in
theorem write_ok {v : Value} {S : List ByteArray} {W : List Wr} {a : Int} {t : ByteArray} {w : World} (h : DV w v S W) (hm : W.length ≤ 100000) (ht : t.size ≤ 65535) (hR : rightB S W = true) (hh : hasB S.length a (needN t.size) = true) :
    Calls Try.prog 24 #[v, .int .i64 a, .string t] w fun e w' => ∃ v', e = .returned (.tuple #[v', .int .i64 0]) ∧ DV w' v' S (W ++ putL a (secsL t.data.toList)) ∧ Below w.heap.size w w' := by
  have hsl : (secsL t.data.toList).length = needN t.size := by rw [secs_len]; simp
  have hnd := need_room t.size
  have HP := Lib.hid (fun (wx : World) (x : Value) (hx : RowV wx x (secsL t.data.toList)) (hb : Below w.heap.size w wx) => put_dv_ok (a := a) (h.on hb) hx.sv hm (by rw [hsl]; omega) hR (secs_fill _) (by rw [hsl]; exact hh))
  obtain ⟨A, c, B, d, rfl, hA, hB⟩ := h
  have HT := Lib.hid (Two.laid w A S.length c B W.length d)
  generalize S.length = n at *
  generalize W.length = m at *
  have HSEC := Lib.hid (fun wx => secs_any t wx ht)
  clear hA hB hR hh hsl hnd
  go_enter Try.func24, Try.ntmps24
  go_wp2_with fail
  refine (HSEC.out _).mono ?_
  rintro e w1 ⟨v1, rfl, hv1, hb1⟩
  have HT1 := Lib.hid (HT.out.on hb1)
  have hz1 : w.heap.size + 1 < w1.heap.size := Box.lt HT1.out.2
  obtain ⟨d1, d2⟩ := DBlk.cells HT1.out.1
  have HB1 := Lib.hid (below_of_two hb1)
  have hpt := HP.out w1 v1 hv1 HB1.out
  clear HT hb1 hv1 HP HSEC
  go_wp2_with fail
  refine hpt.mono ?_
  clear hpt
  rintro e w2 ⟨v2, rfl, hv2, hb2⟩
  obtain ⟨A2, c2, B2, e2, rfl, hA2, hB2⟩ := hv2
  have HV2 := Lib.hid (show DV w2 _ _ _ from ⟨A2, c2, B2, e2, rfl, hA2, hB2⟩)
  generalize S.length = n2 at *
  obtain ⟨L, hL⟩ : ∃ L, L = W ++ putL a (secsL t.data.toList) := ⟨_, rfl⟩
  rw [← hL] at HV2 ⊢
  have HL := Lib.hid hL
  clear hL hA2 hB2 d1 d2
  generalize L.length = m2 at *
  have HT2 := Lib.hid (HT1.out.on hb2)
  have HB2 := Lib.hid (HB1.out.trans (hb2.mono HB1.out.size))
  have hz2 : w.heap.size + 1 < w2.heap.size := Box.lt HT2.out.2
  clear hb2
  have f0 := Box.free HT2.out.2 0
  have f1 := Box.free HT2.out.2 1
  obtain ⟨k0, k1⟩ := DBlk.cells HT2.out.2
  go_wp2
  have hpb : DBlk ((w2.setCell ⟨w.heap.size + 1, 0, none⟩ (.slice A2 n2 c2)).setCell ⟨w.heap.size + 1, 1, none⟩ (.slice B2 m2 e2)) (w.heap.size + 1) A2 n2 c2 B2 m2 e2 := Box.set (Box.set HT2.out.2 0 _) 1 _
  have hp := DBlk.cells (Box.push hpb (.cells #[.slice A2 n2 c2, .slice B2 m2 e2] 25))
  have hbs := (HB2.out.setCell (p := ⟨w.heap.size + 1, 0, none⟩) (by simp) (.slice A2 n2 c2)).setCell (p := ⟨w.heap.size + 1, 1, none⟩) (by simp) (.slice B2 m2 e2)
  have hdv := HV2.out.apart HT2.out.2 A2 n2 c2 B2 m2 e2
  exact bodyPost_ret (v := .tuple #[.agg #[.slice A2 n2 c2, .slice B2 m2 e2], .int .i64 0]) (by simp [results, Try.results24, go_sem, hp.1, hp.2]) rfl
    ⟨_, rfl, by rw [← HL.out]; exact hdv.on ((Below.refl _ _).alloc (Nat.le_refl _) _), hbs.alloc hbs.size _⟩

set_option maxHeartbeats 2000000 in
theorem write_bad {v : Value} {S : List ByteArray} {W : List Wr} {a : Int} {t : ByteArray} {w : World} (h : DV w v S W) (hn : S.length ≤ 1000000) (hm : W.length ≤ 1000000) (ht : t.size ≤ 65535) (hbad : rightB S W = false ∨ hasB S.length a (needN t.size) = false) :
    Calls Try.prog 24 #[v, .int .i64 a, .string t] w fun e w' => e = .returned (.tuple #[v, .int .i64 1]) ∧ Below w.heap.size w w' := by
  have hsl : (secsL t.data.toList).length = needN t.size := by rw [secs_len]; simp
  have hnd := need_room t.size
  have HP := Lib.hid (fun (wx : World) (x : Value) (hx : RowV wx x (secsL t.data.toList)) (hb : Below w.heap.size w wx) => show Calls Try.prog 40 #[v, .int .i64 a, x] wx fun e w' => (∃ A2 n2 c2 B2 m2 e2, e = .returned (.tuple #[.agg #[.slice A2 n2 c2, .slice B2 m2 e2], .int .i64 1])) ∧ Below wx.heap.size wx w' by
    cases hR : rightB S W with
    | false =>
      refine (put_wrong (a := a) (t := x) (h.on hb) hn hm hR).mono ?_
      rintro e w' ⟨he, hb⟩
      exact ⟨⟨_, _, _, _, _, _, he⟩, hb⟩
    | true =>
      have hh : hasB S.length a (needN t.size) = false := by rcases hbad with h | h; (rw [hR] at h; cases h); exact h
      refine (put_dv_bad (a := a) (h.on hb) hx.sv hm (by rw [hsl]; omega) hR (.inr (by rw [hsl]; exact hh))).mono ?_
      obtain ⟨A, c, B, d, rfl, hA, hB⟩ := h
      rintro e w' ⟨he, hb⟩
      exact ⟨⟨_, _, _, _, _, _, he⟩, hb⟩)
  obtain ⟨A, c, B, d, rfl, hA, hB⟩ := h
  have HT := Lib.hid (Two.laid w A S.length c B W.length d)
  generalize S.length = n at *
  generalize W.length = m at *
  have HSEC := Lib.hid (fun wx => secs_any t wx ht)
  clear hA hB hsl hnd hbad
  go_enter Try.func24, Try.ntmps24
  go_wp2_with fail
  refine (HSEC.out _).mono ?_
  rintro e w1 ⟨v1, rfl, hv1, hb1⟩
  have HT1 := Lib.hid (HT.out.on hb1)
  have hz1 : w.heap.size + 1 < w1.heap.size := Box.lt HT1.out.2
  obtain ⟨d1, d2⟩ := DBlk.cells HT1.out.1
  have HB1 := Lib.hid (below_of_two hb1)
  have hpt := HP.out w1 v1 hv1 HB1.out
  clear HT hb1 hv1 HP HSEC
  go_wp2_with fail
  refine hpt.mono ?_
  clear hpt
  rintro e w2 ⟨⟨A2, n2, c2, B2, m2, e2, rfl⟩, hb2⟩
  clear d1 d2
  have HT2 := Lib.hid (HT1.out.on hb2)
  have HB2 := Lib.hid (HB1.out.trans (hb2.mono HB1.out.size))
  have hz3 : w.heap.size < w2.heap.size := Box.lt HT2.out.1
  have hz2 : w.heap.size + 1 < w2.heap.size := Box.lt HT2.out.2
  clear hb2
  have f0 := Box.free HT2.out.2 0
  have f1 := Box.free HT2.out.2 1
  obtain ⟨k0, k1⟩ := DBlk.cells HT2.out.2
  obtain ⟨d1, d2⟩ := DBlk.cells HT2.out.1
  go_wp2
  have hpb : DBlk ((w2.setCell ⟨w.heap.size + 1, 0, none⟩ (.slice A n c)).setCell ⟨w.heap.size + 1, 1, none⟩ (.slice B m d)) (w.heap.size + 1) A n c B m d := Box.set (Box.set HT2.out.2 0 _) 1 _
  have hp := DBlk.cells (Box.push hpb (.cells #[.slice A2 n2 c2, .slice B2 m2 e2] 25))
  have hbs := (HB2.out.setCell (p := ⟨w.heap.size + 1, 0, none⟩) (by simp) (.slice A n c)).setCell (p := ⟨w.heap.size + 1, 1, none⟩) (by simp) (.slice B m d)
  exact bodyPost_ret (v := .tuple #[.agg #[.slice A n c, .slice B m d], .int .i64 1]) (by simp [results, Try.results24, go_sem, hp.1, hp.2]) rfl
    ⟨rfl, hbs.alloc hbs.size _⟩

end Go.Proofs.Ythcolmdfpciolaa
