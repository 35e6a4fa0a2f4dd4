/- The walk of the law RootSafe. -/
import Derived.Test.YthcolmdfpciolaaLBack
namespace Go.Proofs.Ythcolmdfpciolaa
open Go.RowKit

theorem best_same {S S' : List ByteArray} {W W' : List Wr} (h : ∀ a, readB S W a = readB S' W' a ∧ readR S W a = readR S' W' a) : bestB S W = bestB S' W' ∧ bestR S W = bestR S' W' := by
  unfold bestB bestR
  rw [(h 0).1, (h 1).1, (h 0).2, (h 1).2]
  exact ⟨rfl, rfl⟩
theorem best_flush {S : List ByteArray} {W : List Wr} (hR : rightB S W = true) : bestB (doneL S W) [] = bestB S W ∧ bestR (doneL S W) [] = bestR S W := best_same (fun a => read_flush hR a)
theorem ok_new {S : List ByteArray} {W : List Wr} {r : Rt} (hR : rightB S W = true) (h2 : 2 ≤ S.length) (hr : rtB r = true) : rtOk S W r = true := by
  obtain ⟨⟨h0, _⟩, _⟩ := rt_parts hr
  unfold rtOk hasB
  rw [hr, hR, decide_eq_true (by omega)]
  rfl
/-- A root alone is the best one. -/
theorem best_alone {S : List ByteArray} {W : List Wr} {r : Rt} (h : rtOk S W r = true) (hn : readB S W (1 - r.g % 2) = false) : bestB S (W ++ rtW r) = true ∧ bestR S (W ++ rtW r) = r := by
  obtain ⟨h1, h2⟩ := best_write h
  refine ⟨h1, ?_⟩
  rcases h2 with h2 | ⟨_, h2⟩
  · exact h2
  · rw [readR_none hn] at h2
    have hr : rtB r = true := by unfold rtOk at h; rw [Bool.and_eq_true] at h; exact h.1
    obtain ⟨⟨h0, _⟩, _⟩ := rt_parts hr
    simp only [rt0] at h2
    omega
/-- A greater one is the best one. -/
theorem best_next {S : List ByteArray} {W : List Wr} {r s : Rt} (h : rtOk S W s = true) (hq : readR S W (1 - s.g % 2) = r) (hg : r.g < s.g) : bestB S (W ++ rtW s) = true ∧ bestR S (W ++ rtW s) = s := by
  obtain ⟨h1, h2⟩ := best_write h
  refine ⟨h1, ?_⟩
  rcases h2 with h2 | ⟨_, h2⟩
  · exact h2
  · rw [hq] at h2
    omega

theorem kept_one {W : List Wr} (h : W.length = 1) (b : Bool) (ks : List Bool) : keptL (b :: ks) W = if b then W else [] := by
  match W, h with
  | [x], _ => cases b <;> cases ks <;> rfl

theorem safe_facts (k : Nat) (h2 : 2 ≤ k) (h5 : k ≤ 512) (r s : Rt) (hr : rtB r = true) (hs : rtB s = true) (hg : s.g = r.g + 1) :
    let S := List.replicate k zeroS
    let D := doneL S ([] ++ rtW r)
    (rtOk S [] r = true ∧ rightB S ([] ++ rtW r) = true) ∧ rtOk D [] s = true ∧ rightB D ([] ++ rtW s) = true ∧ D.length = k ∧ rightB D [] = true ∧ (bestB D [] = true ∧ bestR D [] = r) ∧ (bestB D ([] ++ rtW s) = true ∧ bestR D ([] ++ rtW s) = s) ∧ bestB (doneL D ([] ++ rtW s)) [] = true ∧ bestR (doneL D ([] ++ rtW s)) [] = s := by
  intro S D
  have hSl : S.length = k := List.length_replicate
  have hR0 : rightB S [] = true := zero_right k h5 (by omega)
  have ok1 : rtOk S [] r = true := ok_new hR0 (by omega) hr
  have hR1 : rightB S ([] ++ rtW r) = true := rtW_right ok1
  have hDl : D.length = k := by show (doneL _ _).length = _; rw [done_len, hSl]
  have hRD : rightB D [] = true := done_right hR1 (fun _ h => h)
  have ok2 : rtOk D [] s = true := ok_new hRD (by omega) hs
  have hR2 : rightB D ([] ++ rtW s) = true := rtW_right ok2
  have b1 := best_alone ok1 (zero_none k _)
  have bf := best_flush hR1
  have bD : bestB D [] = true ∧ bestR D [] = r := ⟨bf.1.trans b1.1, bf.2.trans b1.2⟩
  have hq : readR D [] (1 - s.g % 2) = r := by
    rw [(read_flush hR1 _).2]
    have e : 1 - s.g % 2 = r.g % 2 := by omega
    rw [e]
    exact (read_here ok1).2
  have b2 := best_next ok2 hq (by omega)
  have bg := best_flush hR2
  exact ⟨⟨ok1, hR1⟩, ok2, hR2, hDl, hRD, bD, b2, bg.1.trans b2.1, bg.2.trans b2.2⟩

set_option maxHeartbeats 8000000 in
set_option maxRecDepth 100000 in
theorem safe_walk (n gen a b : Nat) (t4 : Value) (ks : List Bool) (w : World) (hn : n < 256) (hg : gen < 4294967296) (ha : a < 65536) (hb : b < 65536) (hk : BV w t4 ks) (hkl : ks.length ≤ maxLen) :
    Calls Try.prog 4 #[.int .u8 n, .int .u32 gen, .int .u16 a, .int .u16 b, t4] w fun e w' => e = .returned (.bool true) ∧ Below w.heap.size w w' := by
  unfold maxLen at hkl
  obtain ⟨K, kc, rfl, hK⟩ := hk
  have HK0 := Lib.hid hK
  obtain ⟨q, hq⟩ : ∃ q, q = ks.length := ⟨_, rfl⟩
  rw [← hq] at hkl ⊢
  have HQ := Lib.hid hq
  clear hK hq
  by_cases h10 : 10 < q
  · have g1 : decide ((10 : Int) < q) = true := decide_eq_true (by omega)
    go_enter Try.func4, Try.ntmps4
    go_wp2_with fail
    refine (awake_true _).mono ?_
    rintro e w9 ⟨rfl, hb9⟩
    go_wp2
    go_ret
    exact ⟨rfl, hb9⟩
  have g1 : decide ((10 : Int) < q) = false := decide_eq_false (by omega)
  obtain ⟨k, hk⟩ : ∃ k, k = 2 + n % 90 := ⟨_, rfl⟩
  have hk2 : 2 ≤ k ∧ k ≤ 512 := by omega
  have hki : (2 : Int) + (n : Int) % 90 = (k : Int) := by omega
  obtain ⟨G, hG, hGm⟩ : ∃ G : Nat, (gen : Int) % 2147483647 = (G : Int) ∧ G ≤ 2147483646 := ⟨gen % 2147483647, by omega, by omega⟩
  have hnew := new_ok k w (by omega) hk2.2
  have hf := safe_facts k hk2.1 hk2.2 ⟨G, a, 1⟩ ⟨G + 1, b, 2⟩ (by unfold rtB; rw [num_of (by simp only; omega) (by simp only; omega), num_of (by simp only; omega) (by simp only; omega)]; rfl) (by unfold rtB; rw [num_of (by simp only; omega) (by simp only; omega), num_of (by simp only; omega) (by simp only; omega)]; rfl) rfl
  obtain ⟨S, hS⟩ : ∃ S, S = List.replicate k zeroS := ⟨_, rfl⟩
  have hSL : S.length = k := by rw [hS, List.length_replicate]
  rw [← hS] at hnew hf
  have HW1L := Lib.hid (show ([] ++ rtW ⟨(G : Int), a, 1⟩).length = 1 by rw [List.nil_append, rtW_len])
  have HW2L := Lib.hid (show ([] ++ rtW ⟨(G : Int) + 1, b, 2⟩).length = 1 by rw [List.nil_append, rtW_len])
  have HWR1 := Lib.hid (fun (wx : World) (v : Value) (h : DV wx v S []) => rwrite_ok ⟨(G : Int), a, 1⟩ h (by rw [hSL]; omega) (by decide) hf.1.1)
  have HWR2 := Lib.hid (fun (wx : World) (v : Value) (h : DV wx v (doneL S ([] ++ rtW ⟨(G : Int), a, 1⟩)) []) => rwrite_ok ⟨(G : Int) + 1, b, 2⟩ h (by rw [done_len, hSL]; omega) (by decide) hf.2.1)
  generalize [] ++ rtW ⟨(G : Int), a, 1⟩ = W1 at *
  generalize [] ++ rtW ⟨(G : Int) + 1, b, 2⟩ = W2 at *
  have HF := Lib.hid hf
  obtain ⟨D, hD⟩ : ∃ D, D = doneL S W1 := ⟨_, rfl⟩
  have HFL1 := Lib.hid (fun (wx : World) (v : Value) (h : DV wx v S W1) => flush_dv h (by rw [HW1L.out]; decide) HF.out.1.2)
  simp only [← hD] at HF HWR2 HFL1
  simp only [Rt.v] at HWR1 HWR2
  have HBD := Lib.hid (show ∀ (wx : World) (v : Value), DV wx v D [] → Calls Try.prog 15 #[v] wx fun e w' => e = .returned (.tuple #[.agg #[.int .i64 G, .int .i64 a, .int .i64 1], .int .i64 0]) ∧ Below wx.heap.size wx w' from fun wx v h => by
    have h1 := rbest_any h (by rw [HF.out.2.2.2.1]; omega) (by decide)
    unfold bestE at h1
    rw [HF.out.2.2.2.2.2.1.1, HF.out.2.2.2.2.2.1.2] at h1
    exact h1)
  have HBW := Lib.hid (show ∀ (wx : World) (v : Value), DV wx v D W2 → Calls Try.prog 15 #[v] wx fun e w' => e = .returned (.tuple #[.agg #[.int .i64 (G + 1), .int .i64 b, .int .i64 2], .int .i64 0]) ∧ Below wx.heap.size wx w' from fun wx v h => by
    have h1 := rbest_any h (by rw [HF.out.2.2.2.1]; omega) (by rw [HW2L.out]; decide)
    unfold bestE at h1
    rw [HF.out.2.2.2.2.2.2.1.1, HF.out.2.2.2.2.2.2.1.2] at h1
    exact h1)
  have HBF := Lib.hid (show ∀ (wx : World) (v : Value), DV wx v (doneL D W2) [] → Calls Try.prog 15 #[v] wx fun e w' => e = .returned (.tuple #[.agg #[.int .i64 (G + 1), .int .i64 b, .int .i64 2], .int .i64 0]) ∧ Below wx.heap.size wx w' from fun wx v h => by
    have h1 := rbest_any h (by rw [done_len, HF.out.2.2.2.1]; omega) (by decide)
    unfold bestE at h1
    rw [HF.out.2.2.2.2.2.2.2.1, HF.out.2.2.2.2.2.2.2.2] at h1
    exact h1)
  have HFL2 := Lib.hid (fun (wx : World) (v : Value) (h : DV wx v D W2) => flush_dv h (by rw [HW2L.out]; decide) HF.out.2.2.1)
  have HCR := Lib.hid (fun (wx : World) (v : Value) (h : DV wx v D W2) (t : Value) (hk : BV wx t ks) => crash_dv h hk (by rw [HW2L.out]; decide) (by rw [← HQ.out]; omega) HF.out.2.2.1)
  have HSL := Lib.hid hSL
  have HDL := Lib.hid (show D.length = k from HF.out.2.2.2.1)
  clear hk hk2 hS hSL hf HF hD
  go_enter Try.func4, Try.ntmps4
  go_wp2_with fail
  refine hnew.mono ?_
  clear hnew
  rintro e w1 ⟨v1, rfl, hv1, hb1⟩
  rw [hG]
  clear hki hG hg
  obtain ⟨A, c, B, d, rfl, hA, hB⟩ := hv1
  have hv1 : DV w1 _ S [] := ⟨A, c, B, d, rfl, hA, hB⟩
  rw [show ([] : List Wr).length = 0 from rfl, HSL.out] at hv1 ⊢
  have H1 := Lib.hid (Holds.fresh hv1 hb1)
  obtain ⟨g, hgg⟩ : ∃ g, g = w1.heap.size := ⟨_, rfl⟩
  have HG := Lib.hid hgg
  have hbr : Below (w1.alloc (.cells #[.slice A k c, .slice B 0 d] 25)).heap.size (w1.alloc (.cells #[.slice A k c, .slice B 0 d] 25)) (((w1.alloc (.cells #[.slice A k c, .slice B 0 d] 25)).alloc (.cells #[.int .i64 G, .int .i64 a, .int .i64 1] 27)).alloc (.cells #[.int .i64 (G + 1), .int .i64 b, .int .i64 2] 27)) := below_two _ _ _
  have H2 := Lib.hid (H1.out.on hbr)
  have HR := Lib.hid (show RBlk (((w1.alloc (.cells #[.slice A k c, .slice B 0 d] 25)).alloc (.cells #[.int .i64 G, .int .i64 a, .int .i64 1] 27)).alloc (.cells #[.int .i64 (G + 1), .int .i64 b, .int .i64 2] 27)) (w1.heap.size + 1) ⟨G, a, 1⟩ from Box.push (Box.at_ _ _ _ (by simp)) _)
  have HS := Lib.hid (show RBlk (((w1.alloc (.cells #[.slice A k c, .slice B 0 d] 25)).alloc (.cells #[.int .i64 G, .int .i64 a, .int .i64 1] 27)).alloc (.cells #[.int .i64 (G + 1), .int .i64 b, .int .i64 2] 27)) (w1.heap.size + 1 + 1) ⟨G + 1, b, 2⟩ from Box.at_ _ _ _ (by simp))
  clear hv1 hA hB hb1 hbr H1 hgg
  go_wp2_with fail
  refine (HWR1.out _ _ H2.out.dv).mono ?_
  rintro e w3 ⟨v3, rfl, ⟨A3, c3, B3, d3, rfl, hA3, hB3⟩, hb3⟩
  have hv3 : DV w3 _ S W1 := ⟨A3, c3, B3, d3, rfl, hA3, hB3⟩
  rw [HSL.out, HW1L.out] at hv3 ⊢
  have H3 := Lib.hid (H2.out.on hb3)
  have HR3 := Lib.hid (show RBlk w3 (w1.heap.size + 1) ⟨G, a, 1⟩ from Box.on HR.out hb3)
  have HS3 := Lib.hid (show RBlk w3 (w1.heap.size + 1 + 1) ⟨G + 1, b, 2⟩ from Box.on HS.out hb3)
  have H4 := Lib.hid (H3.out.put hv3)
  have HR4 := Lib.hid (HR3.out.beside H3.out.blk (.slice A3 k c3) (.slice B3 1 d3))
  have HS4 := Lib.hid (HS3.out.beside H3.out.blk (.slice A3 k c3) (.slice B3 1 d3))
  have f0 := Box.free H3.out.blk 0
  have f1 := Box.free H3.out.blk 1
  obtain ⟨k0, k1⟩ := DBlk.cells H3.out.blk
  have hz := Box.lt H3.out.blk
  clear hv3 hb3 hA3 hB3 H2 HR HS HWR1
  go_wp2_with fail
  refine (HFL1.out _ _ H4.out.dv).mono ?_
  clear k0 k1 hz f0 f1
  rintro e w5 ⟨v5, rfl, ⟨A5, c5, B5, d5, rfl, hA5, hB5⟩, hb5⟩
  have hv5 : DV w5 _ D [] := ⟨A5, c5, B5, d5, rfl, hA5, hB5⟩
  rw [HDL.out, show ([] : List Wr).length = 0 from rfl] at hv5 ⊢
  have H5 := Lib.hid (H4.out.on hb5)
  have HR5 := Lib.hid (show RBlk w5 (w1.heap.size + 1) ⟨G, a, 1⟩ from Box.on HR4.out hb5)
  have HS5 := Lib.hid (show RBlk w5 (w1.heap.size + 1 + 1) ⟨G + 1, b, 2⟩ from Box.on HS4.out hb5)
  have H6 := Lib.hid (H5.out.put hv5)
  have HR6 := Lib.hid (HR5.out.beside H5.out.blk (.slice A5 k c5) (.slice B5 0 d5))
  have HS6 := Lib.hid (HS5.out.beside H5.out.blk (.slice A5 k c5) (.slice B5 0 d5))
  have f0 := Box.free H5.out.blk 0
  have f1 := Box.free H5.out.blk 1
  obtain ⟨k0, k1⟩ := DBlk.cells H5.out.blk
  have hz := Box.lt H5.out.blk
  clear hv5 hb5 hA5 hB5 H3 H4 HR3 HS3 HR4 HS4 HFL1
  obtain ⟨s0, s1, s2⟩ := RBlk.cells HS5.out
  have hzs := Box.lt HS5.out
  go_wp2_with fail
  refine (HWR2.out _ _ H6.out.dv).mono ?_
  clear k0 k1 hz f0 f1 s0 s1 s2 hzs
  rintro e w7 ⟨v7, rfl, ⟨A7, c7, B7, d7, rfl, hA7, hB7⟩, hb7⟩
  have hv7 : DV w7 _ D W2 := ⟨A7, c7, B7, d7, rfl, hA7, hB7⟩
  rw [HDL.out, HW2L.out] at hv7 ⊢
  have hb7a : Below _ _ (w7.alloc (.cells #[.slice A7 k c7, .slice B7 1 d7] 25)) := hb7.alloc hb7.size _
  have H7 := Lib.hid (H6.out.on hb7a)
  have HR7 := Lib.hid (show RBlk _ (w1.heap.size + 1) ⟨G, a, 1⟩ from Box.on HR6.out hb7a)
  have HS7 := Lib.hid (show RBlk _ (w1.heap.size + 1 + 1) ⟨G + 1, b, 2⟩ from Box.on HS6.out hb7a)
  have HV7 := Lib.hid (Holds.fresh hv7 (H6.out.below.trans (hb7.mono H6.out.below.size)))
  clear hv7 hb7 hb7a hA7 hB7 H5 H6 HR5 HS5 HR6 HS6 HWR2
  have HK7 := Lib.hid (show BV _ (.slice K q kc) ks from (show BV w (.slice K q kc) ks from ⟨K, kc, by rw [HQ.out], HK0.out⟩).on HV7.out.below)
  have hcase : (q = 0 ∧ doneL D (keptL ks W2) = D) ∨ (0 < q ∧ doneL D (keptL ks W2) = D ∧ ∀ h : 0 < ks.length, ks[0] = false) ∨ (0 < q ∧ doneL D (keptL ks W2) = doneL D W2 ∧ ∀ h : 0 < ks.length, ks[0] = true) := by
    have h0 := HQ.out
    have h1 := HW2L.out
    clear HK0 HK7 HCR HQ
    cases ks with
    | nil => exact .inl ⟨h0, by rw [kept_none]; rfl⟩
    | cons x ks =>
      have h2 : 0 < q := by rw [h0]; simp
      cases x with
      | false => exact .inr (.inl ⟨h2, by rw [kept_one h1]; rfl, fun _ => rfl⟩)
      | true => exact .inr (.inr ⟨h2, by rw [kept_one h1]; rfl, fun _ => rfl⟩)
  rcases hcase with ⟨rfl, hkept⟩ | ⟨hq0, hkept, hkf⟩ | ⟨hq0, hkept, hkf⟩
  · go_wp2_with fail
    refine (HCR.out _ _ HV7.out.dv _ HK7.out).mono ?_
    rintro e w8 ⟨v8, rfl, hv8, hb8⟩
    rw [hkept] at hv8
    have HV8 := Lib.hid (HV7.out.on hb8)
    have HR8 := Lib.hid (show RBlk w8 (w1.heap.size + 1) ⟨G, a, 1⟩ from Box.on HR7.out hb8)
    have HS8 := Lib.hid (show RBlk w8 (w1.heap.size + 1 + 1) ⟨G + 1, b, 2⟩ from Box.on HS7.out hb8)
    clear hb8 HV7 HR7 HS7 HK7 H7
    have hbst := HBD.out _ _ hv8
    go_wp2_with fail
    refine hbst.mono ?_
    clear hbst hv8
    rintro e w9 ⟨rfl, hb9⟩
    have hb9a : Below _ _ (w9.alloc (.cells #[.int .i64 G, .int .i64 a, .int .i64 1] 27)) := hb9.alloc hb9.size _
    have HV9 := Lib.hid (HV8.out.on hb9a)
    have HR9 := Lib.hid (show RBlk _ (w1.heap.size + 1) ⟨G, a, 1⟩ from Box.on HR8.out hb9a)
    have HS9 := Lib.hid (show RBlk _ (w1.heap.size + 1 + 1) ⟨G + 1, b, 2⟩ from Box.on HS8.out hb9a)
    have HX9 := Lib.hid (show RBlk (w9.alloc (.cells #[.int .i64 G, .int .i64 a, .int .i64 1] 27)) w9.heap.size ⟨G, a, 1⟩ from Box.fresh _ _ _)
    clear hb9 hb9a HV8 HR8 HS8
    obtain ⟨k0, k1⟩ := DBlk.cells HV9.out.blk
    have hz := Box.lt HV9.out.blk
    go_wp2_with fail
    refine (HFL2.out _ _ HV9.out.dv).mono ?_
    clear k0 k1 hz
    rintro e wa ⟨va, rfl, hva, hba⟩
    have HVa := Lib.hid (HV9.out.on hba)
    have HRa := Lib.hid (show RBlk wa (w1.heap.size + 1) ⟨G, a, 1⟩ from Box.on HR9.out hba)
    have HSa := Lib.hid (show RBlk wa (w1.heap.size + 1 + 1) ⟨G + 1, b, 2⟩ from Box.on HS9.out hba)
    have HXa := Lib.hid (show RBlk wa w9.heap.size ⟨G, a, 1⟩ from Box.on HX9.out hba)
    clear hba HV9 HR9 HS9 HX9
    have hbst := HBF.out _ _ hva
    go_wp2_with fail
    refine hbst.mono ?_
    clear hbst hva
    rintro e wb ⟨rfl, hbb⟩
    have hbba : Below _ _ (wb.alloc (.cells #[.int .i64 (G + 1), .int .i64 b, .int .i64 2] 27)) := hbb.alloc hbb.size _
    have HVb := Lib.hid (HVa.out.on hbba)
    have HRb := Lib.hid (show RBlk _ (w1.heap.size + 1) ⟨G, a, 1⟩ from Box.on HRa.out hbba)
    have HSb := Lib.hid (show RBlk _ (w1.heap.size + 1 + 1) ⟨G + 1, b, 2⟩ from Box.on HSa.out hbba)
    have HXb := Lib.hid (show RBlk _ w9.heap.size ⟨G, a, 1⟩ from Box.on HXa.out hbba)
    have HYb := Lib.hid (show RBlk (wb.alloc (.cells #[.int .i64 (G + 1), .int .i64 b, .int .i64 2] 27)) wb.heap.size ⟨G + 1, b, 2⟩ from Box.fresh _ _ _)
    clear hbb hbba HVa HRa HSa HXa
    obtain ⟨k0, k1⟩ := DBlk.cells HVb.out.blk
    have hz := Box.lt HVb.out.blk
    go_wp2_with fail
    refine (HBW.out _ _ HVb.out.dv).mono ?_
    clear k0 k1 hz
    rintro e wc ⟨rfl, hbc⟩
    have hbca : Below _ _ (wc.alloc (.cells #[.int .i64 (G + 1), .int .i64 b, .int .i64 2] 27)) := hbc.alloc hbc.size _
    have HVc := Lib.hid (HVb.out.on hbca)
    have HRc := Lib.hid (show RBlk _ (w1.heap.size + 1) ⟨G, a, 1⟩ from Box.on HRb.out hbca)
    have HSc := Lib.hid (show RBlk _ (w1.heap.size + 1 + 1) ⟨G + 1, b, 2⟩ from Box.on HSb.out hbca)
    have HXc := Lib.hid (show RBlk _ w9.heap.size ⟨G, a, 1⟩ from Box.on HXb.out hbca)
    have HYc := Lib.hid (show RBlk _ wb.heap.size ⟨G + 1, b, 2⟩ from Box.on HYb.out hbca)
    have HZc := Lib.hid (show RBlk (wc.alloc (.cells #[.int .i64 (G + 1), .int .i64 b, .int .i64 2] 27)) wc.heap.size ⟨G + 1, b, 2⟩ from Box.fresh _ _ _)
    clear hbc hbca HVb HRb HSb HXb HYb HBD HBW HBF HFL2 HCR HK0
    obtain ⟨a0, a1, a2⟩ := RBlk.cells HRc.out
    have hza := Box.lt HRc.out
    obtain ⟨b0, b1, b2⟩ := RBlk.cells HSc.out
    have hzb := Box.lt HSc.out
    obtain ⟨g0, g1, g2⟩ := RBlk.cells HXc.out
    have hzg := Box.lt HXc.out
    obtain ⟨h0, h1, h2⟩ := RBlk.cells HYc.out
    have hzh := Box.lt HYc.out
    obtain ⟨j0, j1, j2⟩ := RBlk.cells HZc.out
    have hzj := Box.lt HZc.out
    go_wp2_with fail
    refine (awake_true _).mono ?_
    rintro e wd ⟨rfl, hbd⟩
    go_wp2
    go_ret
    exact ⟨rfl, HVc.out.below.trans (hbd.mono HVc.out.below.size)⟩
  · have hq1 : ((q : Int) == 0) = false := by rw [beq_eq_false_iff_ne]; omega
    have hkf := hkf (by rw [← HQ.out]; exact hq0)
    go_wp2_with fail
    refine (HCR.out _ _ HV7.out.dv _ HK7.out).mono ?_
    rintro e w8 ⟨v8, rfl, hv8, hb8⟩
    rw [hkept] at hv8
    have HV8 := Lib.hid (HV7.out.on hb8)
    have HR8 := Lib.hid (show RBlk w8 (w1.heap.size + 1) ⟨G, a, 1⟩ from Box.on HR7.out hb8)
    have HS8 := Lib.hid (show RBlk w8 (w1.heap.size + 1 + 1) ⟨G + 1, b, 2⟩ from Box.on HS7.out hb8)
    clear hb8 HV7 HR7 HS7 HK7 H7
    have hbst := HBD.out _ _ hv8
    go_wp2_with fail
    refine hbst.mono ?_
    clear hbst hv8
    rintro e w9 ⟨rfl, hb9⟩
    have hb9a : Below _ _ (w9.alloc (.cells #[.int .i64 G, .int .i64 a, .int .i64 1] 27)) := hb9.alloc hb9.size _
    have HV9 := Lib.hid (HV8.out.on hb9a)
    have HR9 := Lib.hid (show RBlk _ (w1.heap.size + 1) ⟨G, a, 1⟩ from Box.on HR8.out hb9a)
    have HS9 := Lib.hid (show RBlk _ (w1.heap.size + 1 + 1) ⟨G + 1, b, 2⟩ from Box.on HS8.out hb9a)
    have HX9 := Lib.hid (show RBlk (w9.alloc (.cells #[.int .i64 G, .int .i64 a, .int .i64 1] 27)) w9.heap.size ⟨G, a, 1⟩ from Box.fresh _ _ _)
    clear hb9 hb9a HV8 HR8 HS8
    obtain ⟨k0, k1⟩ := DBlk.cells HV9.out.blk
    have hz := Box.lt HV9.out.blk
    go_wp2_with fail
    refine (HFL2.out _ _ HV9.out.dv).mono ?_
    clear k0 k1 hz
    rintro e wa ⟨va, rfl, hva, hba⟩
    have HVa := Lib.hid (HV9.out.on hba)
    have HRa := Lib.hid (show RBlk wa (w1.heap.size + 1) ⟨G, a, 1⟩ from Box.on HR9.out hba)
    have HSa := Lib.hid (show RBlk wa (w1.heap.size + 1 + 1) ⟨G + 1, b, 2⟩ from Box.on HS9.out hba)
    have HXa := Lib.hid (show RBlk wa w9.heap.size ⟨G, a, 1⟩ from Box.on HX9.out hba)
    clear hba HV9 HR9 HS9 HX9
    have hbst := HBF.out _ _ hva
    go_wp2_with fail
    refine hbst.mono ?_
    clear hbst hva
    rintro e wb ⟨rfl, hbb⟩
    have hbba : Below _ _ (wb.alloc (.cells #[.int .i64 (G + 1), .int .i64 b, .int .i64 2] 27)) := hbb.alloc hbb.size _
    have HVb := Lib.hid (HVa.out.on hbba)
    have HRb := Lib.hid (show RBlk _ (w1.heap.size + 1) ⟨G, a, 1⟩ from Box.on HRa.out hbba)
    have HSb := Lib.hid (show RBlk _ (w1.heap.size + 1 + 1) ⟨G + 1, b, 2⟩ from Box.on HSa.out hbba)
    have HXb := Lib.hid (show RBlk _ w9.heap.size ⟨G, a, 1⟩ from Box.on HXa.out hbba)
    have HYb := Lib.hid (show RBlk (wb.alloc (.cells #[.int .i64 (G + 1), .int .i64 b, .int .i64 2] 27)) wb.heap.size ⟨G + 1, b, 2⟩ from Box.fresh _ _ _)
    clear hbb hbba HVa HRa HSa HXa
    obtain ⟨k0, k1⟩ := DBlk.cells HVb.out.blk
    have hz := Box.lt HVb.out.blk
    go_wp2_with fail
    refine (HBW.out _ _ HVb.out.dv).mono ?_
    clear k0 k1 hz
    rintro e wc ⟨rfl, hbc⟩
    have hbca : Below _ _ (wc.alloc (.cells #[.int .i64 (G + 1), .int .i64 b, .int .i64 2] 27)) := hbc.alloc hbc.size _
    have HVc := Lib.hid (HVb.out.on hbca)
    have HRc := Lib.hid (show RBlk _ (w1.heap.size + 1) ⟨G, a, 1⟩ from Box.on HRb.out hbca)
    have HSc := Lib.hid (show RBlk _ (w1.heap.size + 1 + 1) ⟨G + 1, b, 2⟩ from Box.on HSb.out hbca)
    have HXc := Lib.hid (show RBlk _ w9.heap.size ⟨G, a, 1⟩ from Box.on HXb.out hbca)
    have HYc := Lib.hid (show RBlk _ wb.heap.size ⟨G + 1, b, 2⟩ from Box.on HYb.out hbca)
    have HZc := Lib.hid (show RBlk (wc.alloc (.cells #[.int .i64 (G + 1), .int .i64 b, .int .i64 2] 27)) wc.heap.size ⟨G + 1, b, 2⟩ from Box.fresh _ _ _)
    obtain ⟨ad, rfl, hadb, hca⟩ := (HK0.out.on HVc.out.below).seeB (by rw [← HQ.out]; omega)
    have hk0 := hca 0 (by rw [← HQ.out]; omega)
    rw [hkf] at hk0
    rw [Addr.add_zero'] at hk0
    clear hca
    clear hbc hbca HVb HRb HSb HXb HYb HBD HBW HBF HFL2 HCR HK0
    obtain ⟨a0, a1, a2⟩ := RBlk.cells HRc.out
    have hza := Box.lt HRc.out
    obtain ⟨b0, b1, b2⟩ := RBlk.cells HSc.out
    have hzb := Box.lt HSc.out
    obtain ⟨g0, g1, g2⟩ := RBlk.cells HXc.out
    have hzg := Box.lt HXc.out
    obtain ⟨h0, h1, h2⟩ := RBlk.cells HYc.out
    have hzh := Box.lt HYc.out
    obtain ⟨j0, j1, j2⟩ := RBlk.cells HZc.out
    have hzj := Box.lt HZc.out
    go_wp2_with fail
    refine (awake_true _).mono ?_
    rintro e wd ⟨rfl, hbd⟩
    go_wp2
    go_ret
    exact ⟨rfl, HVc.out.below.trans (hbd.mono HVc.out.below.size)⟩
  · have hq1 : ((q : Int) == 0) = false := by rw [beq_eq_false_iff_ne]; omega
    have hkf := hkf (by rw [← HQ.out]; exact hq0)
    have hne : ((G : Int) + 1 == (G : Int)) = false := by rw [beq_eq_false_iff_ne]; omega
    go_wp2_with fail
    refine (HCR.out _ _ HV7.out.dv _ HK7.out).mono ?_
    rintro e w8 ⟨v8, rfl, hv8, hb8⟩
    rw [hkept] at hv8
    have HV8 := Lib.hid (HV7.out.on hb8)
    have HR8 := Lib.hid (show RBlk w8 (w1.heap.size + 1) ⟨G, a, 1⟩ from Box.on HR7.out hb8)
    have HS8 := Lib.hid (show RBlk w8 (w1.heap.size + 1 + 1) ⟨G + 1, b, 2⟩ from Box.on HS7.out hb8)
    clear hb8 HV7 HR7 HS7 HK7 H7
    have hbst := HBF.out _ _ hv8
    go_wp2_with fail
    refine hbst.mono ?_
    clear hbst hv8
    rintro e w9 ⟨rfl, hb9⟩
    have hb9a : Below _ _ (w9.alloc (.cells #[.int .i64 (G + 1), .int .i64 b, .int .i64 2] 27)) := hb9.alloc hb9.size _
    have HV9 := Lib.hid (HV8.out.on hb9a)
    have HR9 := Lib.hid (show RBlk _ (w1.heap.size + 1) ⟨G, a, 1⟩ from Box.on HR8.out hb9a)
    have HS9 := Lib.hid (show RBlk _ (w1.heap.size + 1 + 1) ⟨G + 1, b, 2⟩ from Box.on HS8.out hb9a)
    have HX9 := Lib.hid (show RBlk (w9.alloc (.cells #[.int .i64 (G + 1), .int .i64 b, .int .i64 2] 27)) w9.heap.size ⟨G + 1, b, 2⟩ from Box.fresh _ _ _)
    clear hb9 hb9a HV8 HR8 HS8
    obtain ⟨k0, k1⟩ := DBlk.cells HV9.out.blk
    have hz := Box.lt HV9.out.blk
    go_wp2_with fail
    refine (HFL2.out _ _ HV9.out.dv).mono ?_
    clear k0 k1 hz
    rintro e wa ⟨va, rfl, hva, hba⟩
    have HVa := Lib.hid (HV9.out.on hba)
    have HRa := Lib.hid (show RBlk wa (w1.heap.size + 1) ⟨G, a, 1⟩ from Box.on HR9.out hba)
    have HSa := Lib.hid (show RBlk wa (w1.heap.size + 1 + 1) ⟨G + 1, b, 2⟩ from Box.on HS9.out hba)
    have HXa := Lib.hid (show RBlk wa w9.heap.size ⟨G + 1, b, 2⟩ from Box.on HX9.out hba)
    clear hba HV9 HR9 HS9 HX9
    have hbst := HBF.out _ _ hva
    go_wp2_with fail
    refine hbst.mono ?_
    clear hbst hva
    rintro e wb ⟨rfl, hbb⟩
    have hbba : Below _ _ (wb.alloc (.cells #[.int .i64 (G + 1), .int .i64 b, .int .i64 2] 27)) := hbb.alloc hbb.size _
    have HVb := Lib.hid (HVa.out.on hbba)
    have HRb := Lib.hid (show RBlk _ (w1.heap.size + 1) ⟨G, a, 1⟩ from Box.on HRa.out hbba)
    have HSb := Lib.hid (show RBlk _ (w1.heap.size + 1 + 1) ⟨G + 1, b, 2⟩ from Box.on HSa.out hbba)
    have HXb := Lib.hid (show RBlk _ w9.heap.size ⟨G + 1, b, 2⟩ from Box.on HXa.out hbba)
    have HYb := Lib.hid (show RBlk (wb.alloc (.cells #[.int .i64 (G + 1), .int .i64 b, .int .i64 2] 27)) wb.heap.size ⟨G + 1, b, 2⟩ from Box.fresh _ _ _)
    clear hbb hbba HVa HRa HSa HXa
    obtain ⟨k0, k1⟩ := DBlk.cells HVb.out.blk
    have hz := Box.lt HVb.out.blk
    go_wp2_with fail
    refine (HBW.out _ _ HVb.out.dv).mono ?_
    clear k0 k1 hz
    rintro e wc ⟨rfl, hbc⟩
    have hbca : Below _ _ (wc.alloc (.cells #[.int .i64 (G + 1), .int .i64 b, .int .i64 2] 27)) := hbc.alloc hbc.size _
    have HVc := Lib.hid (HVb.out.on hbca)
    have HRc := Lib.hid (show RBlk _ (w1.heap.size + 1) ⟨G, a, 1⟩ from Box.on HRb.out hbca)
    have HSc := Lib.hid (show RBlk _ (w1.heap.size + 1 + 1) ⟨G + 1, b, 2⟩ from Box.on HSb.out hbca)
    have HXc := Lib.hid (show RBlk _ w9.heap.size ⟨G + 1, b, 2⟩ from Box.on HXb.out hbca)
    have HYc := Lib.hid (show RBlk _ wb.heap.size ⟨G + 1, b, 2⟩ from Box.on HYb.out hbca)
    have HZc := Lib.hid (show RBlk (wc.alloc (.cells #[.int .i64 (G + 1), .int .i64 b, .int .i64 2] 27)) wc.heap.size ⟨G + 1, b, 2⟩ from Box.fresh _ _ _)
    obtain ⟨ad, rfl, hadb, hca⟩ := (HK0.out.on HVc.out.below).seeB (by rw [← HQ.out]; omega)
    have hk0 := hca 0 (by rw [← HQ.out]; omega)
    rw [hkf] at hk0
    rw [Addr.add_zero'] at hk0
    clear hca
    clear hbc hbca HVb HRb HSb HXb HYb HBD HBW HBF HFL2 HCR HK0
    obtain ⟨a0, a1, a2⟩ := RBlk.cells HRc.out
    have hza := Box.lt HRc.out
    obtain ⟨b0, b1, b2⟩ := RBlk.cells HSc.out
    have hzb := Box.lt HSc.out
    obtain ⟨g0, g1, g2⟩ := RBlk.cells HXc.out
    have hzg := Box.lt HXc.out
    obtain ⟨h0, h1, h2⟩ := RBlk.cells HYc.out
    have hzh := Box.lt HYc.out
    obtain ⟨j0, j1, j2⟩ := RBlk.cells HZc.out
    have hzj := Box.lt HZc.out
    go_wp2_with fail
    refine (awake_true _).mono ?_
    rintro e wd ⟨rfl, hbd⟩
    go_wp2
    go_ret
    exact ⟨rfl, HVc.out.below.trans (hbd.mono HVc.out.below.size)⟩

end Go.Proofs.Ythcolmdfpciolaa
