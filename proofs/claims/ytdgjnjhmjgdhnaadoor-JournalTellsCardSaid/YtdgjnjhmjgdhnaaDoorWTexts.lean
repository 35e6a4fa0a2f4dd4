/- The walks of Texts and Append, of values that are disks. -/
import Derived.Test.YtdgjnjhmjgdhnaaDoorWAppend
namespace Go.Proofs.YtdgjnjhmjgdhnaaDoor
open Go.RowKit

/-- The sectors of the journal. -/
def jou (S : List ByteArray) (W : List Wr) : List ByteArray := ((doneL S W).drop 2).take 128
def jB (S : List ByteArray) (W : List Wr) : Bool := rightB S W && decide (130 ≤ S.length)
theorem jB_parts {S : List ByteArray} {W : List Wr} (h : jB S W = true) : rightB S W = true ∧ 130 ≤ S.length := by
  unfold jB at h
  rwa [Bool.and_eq_true, decide_eq_true_eq] at h
theorem jB_of {S : List ByteArray} {W : List Wr} (h : rightB S W = true) (h2 : 130 ≤ S.length) : jB S W = true := by
  unfold jB
  rw [h, decide_eq_true h2]
  rfl
theorem jB_no {S : List ByteArray} {W : List Wr} (h : jB S W = false) : rightB S W = false ∨ hasB S.length 2 128 = false := by
  unfold jB at h
  rw [Bool.and_eq_false_iff, decide_eq_false_iff_not] at h
  rcases h with h | h
  · exact .inl h
  · refine .inr ?_
    unfold hasB
    exact decide_eq_false (by omega)
theorem jou_len {S : List ByteArray} {W : List Wr} (h : 130 ≤ S.length) : (jou S W).length = 128 := by
  unfold jou
  rw [List.length_take, List.length_drop, done_len]
  omega
theorem jou_fill {S : List ByteArray} {W : List Wr} (h : rightB S W = true) : fillB (jou S W) = true := by
  obtain ⟨r1, r2, r3, r4⟩ := right_parts h
  have hf := done_fill r3 (fun x hx => ⟨(r4 x hx).1, (r4 x hx).2.1⟩)
  unfold fillB
  rw [List.all_eq_true]
  intro x hx
  rw [fill_mem hf (List.mem_of_mem_drop (List.mem_of_mem_take hx))]
  rfl
theorem jou_cut {S : List ByteArray} {W : List Wr} (h : rightB S W = true) : cutL (flatS (jou S W)).data.toList = jou S W := cut_whole (jou_fill h)
theorem jou_size {S : List ByteArray} {W : List Wr} (h : jB S W = true) : (flatS (jou S W)).size = 4096 := by
  obtain ⟨h1, h2⟩ := jB_parts h
  show (((jou S W).map (·.data.toList)).flatten).toArray.size = 4096
  rw [List.size_toArray, flatJ_len (jou_fill h1), jou_len h2]

theorem jread_ok {v : Value} {S : List ByteArray} {W : List Wr} {w : World} (h : DV w v S W) (hm : W.length ≤ 1000000) (hj : jB S W = true) :
    Calls Tryd.prog 37 #[v, .int .i64 2, .int .i64 128] w fun e w' => e = .returned (.tuple #[.string (flatS (jou S W)), .int .i64 0]) ∧ Below w.heap.size w w' :=
  read_dv (a := 2) (k := 128) h hm (jB_parts hj).1 (by have := (jB_parts hj).2; omega)
theorem jread_bad {v : Value} {S : List ByteArray} {W : List Wr} {w : World} (h : DV w v S W) (hn : S.length ≤ 1000000) (hm : W.length ≤ 1000000) (hj : jB S W = false) :
    Calls Tryd.prog 37 #[v, .int .i64 2, .int .i64 128] w fun e w' => e = .returned (.tuple #[.string ⟨#[]⟩, .int .i64 1]) ∧ Below w.heap.size w w' :=
  read_bad h hn hm (jB_no hj)

set_option maxHeartbeats 4000000 in
set_option maxRecDepth 100000 in
theorem texts_bad {v : Value} {S : List ByteArray} {W : List Wr} (g : Int) {w : World} (h : DV w v S W) (hn : S.length ≤ 1000000) (hm : W.length ≤ 1000000) (hj : jB S W = false) :
    Calls Tryd.prog 19 #[v, .int .i64 g] w fun e w' => e = .returned (.tuple #[.slice none 0 0, .int .i64 0, .int .i64 1]) ∧ Below w.heap.size w w' := by
  have HRD := Lib.hid (fun (wx : World) (hb : Below w.heap.size w wx) => jread_bad (h.on hb) hn hm hj)
  obtain ⟨A, c, B, d, rfl, hA, hB⟩ := h
  have HB0 := Lib.hid ((Below.refl w.heap.size w).alloc (Nat.le_refl _) (.cells #[.slice A S.length c, .slice B W.length d] 36))
  generalize S.length = n at *
  generalize W.length = m at *
  clear hA hB hj hn hm
  have hrd := HRD.out _ HB0.out
  clear HRD
  go_enter Tryd.func19, Tryd.ntmps19
  go_wp2_with fail
  refine hrd.mono ?_
  rintro e w1 ⟨rfl, hb1⟩
  have HB1 := Lib.hid (HB0.out.trans (hb1.mono HB0.out.size))
  clear hb1 hrd
  go_wp2
  exact bodyPost_ret (v := .tuple #[.slice none 0 0, .int .i64 0, .int .i64 1]) (by simp [results, Tryd.results19, go_sem]) rfl ⟨rfl, HB1.out⟩

set_option maxHeartbeats 4000000 in
set_option maxRecDepth 100000 in
theorem texts_ok {v : Value} {S : List ByteArray} {W : List Wr} (g : Int) {w : World} (h : DV w v S W) (hm : W.length ≤ 1000000) (hj : jB S W = true) :
    Calls Tryd.prog 19 #[v, .int .i64 g] w fun e w' => ∃ v' ts, e = .returned (.tuple #[v', .int .i64 (needs ts : Nat), .int .i64 0]) ∧ RowV w' v' ts ∧ ToldP g (jou S W) ts ∧ Below w.heap.size w w' := by
  have HRD := Lib.hid (fun (wx : World) (hb : Below w.heap.size w wx) => jread_ok (h.on hb) hm hj)
  have hz := jou_size hj
  have hct := fun wx => cut_any (flatS (jou S W)) wx (by rw [hz]; omega)
  rw [jou_cut (jB_parts hj).1] at hct
  have HCT := Lib.hid hct
  have HPA := Lib.hid (fun (wx : World) (x : Value) (hx : RowV wx x (jou S W)) => parse_any g (jou S W) wx hx.sv (by rw [jou_len (jB_parts hj).2]; unfold maxLen; omega) (fun y hy => by rw [fill_mem (jou_fill (jB_parts hj).1) hy]; unfold maxLen; omega))
  obtain ⟨A, c, B, d, rfl, hA, hB⟩ := h
  have HB0 := Lib.hid ((Below.refl w.heap.size w).alloc (Nat.le_refl _) (.cells #[.slice A S.length c, .slice B W.length d] 36))
  generalize flatS (jou S W) = s at *
  obtain ⟨J, hJ⟩ : ∃ J, J = jou S W := ⟨_, rfl⟩
  rw [← hJ] at HCT HPA ⊢
  generalize S.length = n at *
  generalize W.length = m at *
  clear hA hB hj hm hct hJ
  have hrd := HRD.out _ HB0.out
  clear HRD
  go_enter Tryd.func19, Tryd.ntmps19
  go_wp2_with fail
  refine hrd.mono ?_
  rintro e w1 ⟨rfl, hb1⟩
  have HB1 := Lib.hid (HB0.out.trans (hb1.mono HB0.out.size))
  clear hb1 hrd
  go_wp2_with fail
  refine (HCT.out _).mono ?_
  rintro e w2 ⟨v2, rfl, hv2, hb2⟩
  have HB2 := Lib.hid (HB1.out.trans (hb2.mono HB1.out.size))
  have hpa := HPA.out _ _ hv2
  clear hv2 hb2 HPA
  go_wp2_with fail
  refine hpa.mono ?_
  rintro e w3 ⟨v3, ts, rfl, hv3, ht, hb3⟩
  have HB3 := Lib.hid (HB2.out.trans (hb3.mono HB2.out.size))
  have HV := Lib.hid hv3
  have HT := Lib.hid ht
  clear hpa hv3 hb3 ht
  obtain ⟨q, hq⟩ : ∃ q, q = needs ts := ⟨_, rfl⟩
  rw [← hq]
  have HQ := Lib.hid hq
  clear hq
  go_wp2
  exact bodyPost_ret (v := .tuple #[v3, .int .i64 q, .int .i64 0]) (by simp [results, Tryd.results19, go_sem]) rfl ⟨v3, ts, by rw [HQ.out], HV.out, HT.out, HB3.out⟩

/-- An error of Append. -/
def apE (S : List ByteArray) (W : List Wr) (g a : Int) (ts : List ByteArray) : Int := if jB S W then chE g a ts else 1
def apW (S : List ByteArray) (W : List Wr) (g a : Int) (ts : List ByteArray) : List Wr := if apE S W g a ts = 0 then W ++ putL (2 + a) (chainL g.toNat a.toNat ts) else W
def apN (S : List ByteArray) (W : List Wr) (g a : Int) (ts : List ByteArray) : Int := if apE S W g a ts = 0 then a + needs ts else a

set_option maxHeartbeats 4000000 in
set_option maxRecDepth 100000 in
theorem append_read {v : Value} {S : List ByteArray} {W : List Wr} (g a : Int) (t : Value) {w : World} (h : DV w v S W) (hn : S.length ≤ 1000000) (hm : W.length ≤ 1000000) (hj : jB S W = false) :
    Calls Tryd.prog 21 #[v, .int .i64 g, .int .i64 a, t] w fun e w' => e = .returned (.tuple #[v, .int .i64 a, .int .i64 1]) ∧ Below w.heap.size w w' := by
  have HRD := Lib.hid (fun (wx : World) (hb : Below w.heap.size w wx) => jread_bad (h.on hb) hn hm hj)
  obtain ⟨A, c, B, d, rfl, hA, hB⟩ := h
  have HT := Lib.hid (Two.laid w A S.length c B W.length d)
  have HB0 := Lib.hid (below_two w (.cells #[.slice A S.length c, .slice B W.length d] 36) (.cells #[.slice none 0 0, .slice none 0 0] 36))
  generalize S.length = n at *
  generalize W.length = m at *
  clear hA hB hj hn hm
  have hrd := HRD.out _ HB0.out
  clear HRD
  go_enter Tryd.func21, Tryd.ntmps21
  go_wp2_with fail
  refine hrd.mono ?_
  rintro e w1 ⟨rfl, hb1⟩
  have HT1 := Lib.hid (HT.out.on hb1)
  have HB1 := Lib.hid (below_of_two hb1)
  clear hb1 hrd
  have hz1 : w.heap.size + 1 < w1.heap.size := Box.lt HT1.out.2
  have f0 := Box.free HT1.out.2 0
  have f1 := Box.free HT1.out.2 1
  obtain ⟨k0, k1⟩ := DBlk.cells HT1.out.2
  obtain ⟨d1, d2⟩ := DBlk.cells HT1.out.1
  go_wp2
  have hp := ans_cells (.slice A n c) (.slice B m d) HT1.out.2
  exact bodyPost_ret (v := .tuple #[.agg #[.slice A n c, .slice B m d], .int .i64 a, .int .i64 1]) (by simp [results, Tryd.results21, go_sem, hp.1, hp.2]) rfl ⟨rfl, (HB1.out.setCell (by simp) _).setCell (by simp) _⟩

set_option maxHeartbeats 4000000 in
set_option maxRecDepth 100000 in
theorem append_bad {v t : Value} {S : List ByteArray} {W : List Wr} (g a : Int) (ts : List ByteArray) {w : World} (h : DV w v S W) (ht : SV w t ts) (hl : ts.length ≤ 65535) (hs : ∀ x ∈ ts, x.size ≤ 1000) (hm : W.length ≤ 1000000) (hj : jB S W = true) (hE : chE g a ts ≠ 0) :
    Calls Tryd.prog 21 #[v, .int .i64 g, .int .i64 a, t] w fun e w' => e = .returned (.tuple #[v, .int .i64 a, .int .i64 (chE g a ts)]) ∧ Below w.heap.size w w' := by
  have HRD := Lib.hid (fun (wx : World) (hb : Below w.heap.size w wx) => jread_ok (h.on hb) hm hj)
  have HCH := Lib.hid (fun (wx : World) (hb : Below w.heap.size w wx) => chain_any g a ts wx (ht.on hb) hl hs)
  obtain ⟨ee, hee⟩ : ∃ ee, ee = chE g a ts := ⟨_, rfl⟩
  rw [← hee] at HCH hE ⊢
  have hne : (ee != 0) = true := by simpa using hE
  obtain ⟨A, c, B, d, rfl, hA, hB⟩ := h
  have HT := Lib.hid (Two.laid w A S.length c B W.length d)
  have HB0 := Lib.hid (below_two w (.cells #[.slice A S.length c, .slice B W.length d] 36) (.cells #[.slice none 0 0, .slice none 0 0] 36))
  generalize flatS (jou S W) = s at *
  generalize S.length = n at *
  generalize W.length = m at *
  clear hA hB hj hm hee hs ht hl
  have hrd := HRD.out _ HB0.out
  clear HRD
  go_enter Tryd.func21, Tryd.ntmps21
  go_wp2_with fail
  refine hrd.mono ?_
  rintro e w1 ⟨rfl, hb1⟩
  have HT1 := Lib.hid (HT.out.on hb1)
  have HB1 := Lib.hid (below_of_two hb1)
  clear hb1 hrd
  have hch := HCH.out _ HB1.out
  go_wp2_with fail
  refine hch.mono ?_
  rintro e w2 ⟨v2, rfl, _, hb2⟩
  have HT2 := Lib.hid (HT1.out.on hb2)
  have HB2 := Lib.hid (HB1.out.trans (hb2.mono HB1.out.size))
  clear hb2 hch
  have hz1 : w.heap.size + 1 < w2.heap.size := Box.lt HT2.out.2
  have f0 := Box.free HT2.out.2 0
  have f1 := Box.free HT2.out.2 1
  obtain ⟨k0, k1⟩ := DBlk.cells HT2.out.2
  obtain ⟨d1, d2⟩ := DBlk.cells HT2.out.1
  go_wp2
  have hp := ans_cells (.slice A n c) (.slice B m d) HT2.out.2
  exact bodyPost_ret (v := .tuple #[.agg #[.slice A n c, .slice B m d], .int .i64 a, .int .i64 ee]) (by simp [results, Tryd.results21, go_sem, hp.1, hp.2]) rfl ⟨rfl, (HB2.out.setCell (by simp) _).setCell (by simp) _⟩

theorem ch_zero {g a : Int} {ts : List ByteArray} (h : chE g a ts = 0) : ∃ (p q : Nat), g = p ∧ 1 ≤ p ∧ p ≤ 2147483647 ∧ a = q ∧ q + needs ts ≤ 128 := by
  unfold chE at h
  cases hb : gpB g a with
  | false => rw [hb] at h; cases h
  | true =>
    rw [hb, if_pos rfl] at h
    obtain ⟨p, q, h1, h2, h3, h4, h5⟩ := gp_parts hb
    refine ⟨p, q, h1, h2, h3, h4, ?_⟩
    by_cases hle : a + needs ts ≤ 128
    · omega
    · rw [if_neg hle] at h; cases h

set_option maxHeartbeats 4000000 in
set_option maxRecDepth 100000 in
theorem append_ok {v t : Value} {S : List ByteArray} {W : List Wr} (g a : Int) (ts : List ByteArray) {w : World} (h : DV w v S W) (ht : SV w t ts) (hl : ts.length ≤ 65535) (hs : ∀ x ∈ ts, x.size ≤ 1000) (hm : W.length ≤ 90000) (hj : jB S W = true) (hE : chE g a ts = 0) :
    Calls Tryd.prog 21 #[v, .int .i64 g, .int .i64 a, t] w fun e w' => ∃ v', e = .returned (.tuple #[v', .int .i64 (a + needs ts), .int .i64 0]) ∧ DV w' v' S (W ++ putL (2 + a) (chainL g.toNat a.toNat ts)) ∧ Below w.heap.size w w' := by
  obtain ⟨p, q, rfl, g1, g2, rfl, hle⟩ := ch_zero hE
  have HRD := Lib.hid (fun (wx : World) (hb : Below w.heap.size w wx) => jread_ok (h.on hb) (by omega) hj)
  have hch := fun (wx : World) (hb : Below w.heap.size w wx) => chain_any (p : Int) (q : Int) ts wx (ht.on hb) hl hs
  rw [hE] at hch
  have HCH := Lib.hid hch
  rw [Int.toNat_natCast, Int.toNat_natCast] at HCH ⊢
  have hcl := chain_len p q ts
  have HPT := Lib.hid (fun (wx : World) (x : Value) (hx : RowV wx x (chainL p q ts)) (hb : Below w.heap.size w wx) => put_dv_ok (a := 2 + (q : Int)) (h.on hb) hx.sv (by omega) (by rw [hcl]; omega) (jB_parts hj).1 (chain_fill _ _ _) (by
    have := (jB_parts hj).2
    unfold hasB
    rw [hcl]
    exact decide_eq_true (by omega)))
  obtain ⟨L, hL⟩ : ∃ L, L = chainL p q ts := ⟨_, rfl⟩
  rw [← hL] at HCH HPT hcl ⊢
  obtain ⟨k, hk⟩ : ∃ k, k = needs ts := ⟨_, rfl⟩
  rw [← hk] at hcl hle ⊢
  obtain ⟨A, c, B, d, rfl, hA, hB⟩ := h
  have HT := Lib.hid (Two.laid w A S.length c B W.length d)
  have HB0 := Lib.hid (below_two w (.cells #[.slice A S.length c, .slice B W.length d] 36) (.cells #[.slice none 0 0, .slice none 0 0] 36))
  generalize flatS (jou S W) = s at *
  obtain ⟨W2, hW2⟩ : ∃ W2, W2 = W ++ putL (2 + (q : Int)) L := ⟨_, rfl⟩
  rw [← hW2] at HPT ⊢
  have HLZ := Lib.hid hcl
  generalize S.length = n at *
  generalize W.length = m at *
  clear hA hB hj hm hs ht hl hch hL hW2 hE hk
  have hrd := HRD.out _ HB0.out
  clear HRD
  go_enter Tryd.func21, Tryd.ntmps21
  go_wp2_with fail
  refine hrd.mono ?_
  rintro e w1 ⟨rfl, hb1⟩
  have HT1 := Lib.hid (HT.out.on hb1)
  have HB1 := Lib.hid (below_of_two hb1)
  clear hb1 hrd
  have hch := HCH.out _ HB1.out
  go_wp2_with fail
  refine hch.mono ?_
  rintro e w2 ⟨v2, rfl, hv2, hb2⟩
  have hv2 := hv2 trivial
  have HT2 := Lib.hid (HT1.out.on hb2)
  have HB2 := Lib.hid (HB1.out.trans (hb2.mono HB1.out.size))
  have hpt := HPT.out _ _ hv2 HB2.out
  obtain ⟨A9, c9, rfl, _, _⟩ := hv2
  clear hb2 hch HCH HPT
  have hz1 : w.heap.size + 1 < w2.heap.size := Box.lt HT2.out.2
  obtain ⟨d1, d2⟩ := DBlk.cells HT2.out.1
  rw [HLZ.out] at hpt ⊢
  go_wp2_with fail
  refine hpt.mono ?_
  clear hpt d1 d2 hz1
  rintro e w3 ⟨v3, rfl, hv3, hb3⟩
  obtain ⟨A2, c2, B2, e2, rfl, hA2, hB2⟩ := hv3
  have hv3 : DV w3 _ S W2 := ⟨A2, c2, B2, e2, rfl, hA2, hB2⟩
  have hba : Below w3.heap.size w3 (w3.alloc (.cells #[.slice A2 S.length c2, .slice B2 W2.length e2] 36)) := (Below.refl _ _).alloc (Nat.le_refl _) _
  have HE3 := Lib.hid (show DBlk (w3.alloc (.cells #[.slice A2 S.length c2, .slice B2 W2.length e2] 36)) w3.heap.size A2 S.length c2 B2 W2.length e2 from Box.fresh _ _ _)
  have HT3 := Lib.hid ((HT2.out.on hb3).on hba)
  have HV3 := Lib.hid (hv3.on hba)
  have HB3 := Lib.hid ((HB2.out.trans (hb3.mono HB2.out.size)).trans (hba.mono (HB2.out.trans (hb3.mono HB2.out.size)).size))
  clear hA2 hB2 hv3 hb3 hba HT2 HB2
  generalize S.length = n2 at *
  generalize W2.length = m2 at *
  have hw1 : IntKind.i64.wrap ((q : Int) + k) = q + k := IntWalk.i64_in _ (by omega)
  have hz1 : w.heap.size + 1 < (w3.alloc (.cells #[.slice A2 n2 c2, .slice B2 m2 e2] 36)).heap.size := Box.lt HT3.out.2
  have f0 := Box.free HT3.out.2 0
  have f1 := Box.free HT3.out.2 1
  obtain ⟨k0, k1⟩ := DBlk.cells HT3.out.2
  obtain ⟨d1, d2⟩ := DBlk.cells HE3.out
  go_wp2
  have hp := ans_cells (.slice A2 n2 c2) (.slice B2 m2 e2) HT3.out.2
  exact bodyPost_ret (v := .tuple #[.agg #[.slice A2 n2 c2, .slice B2 m2 e2], .int .i64 (q + k), .int .i64 0]) (by simp [results, Tryd.results21, go_sem, hp.1, hp.2]) rfl ⟨_, rfl, HV3.out.apart HT3.out.2 A2 n2 c2 B2 m2 e2, (HB3.out.setCell (by simp) _).setCell (by simp) _⟩

end Go.Proofs.YtdgjnjhmjgdhnaaDoor
