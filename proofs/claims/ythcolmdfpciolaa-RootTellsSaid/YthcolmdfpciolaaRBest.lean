/- The walks of the document's Read and Best of layer 7. -/
import Derived.Test.YthcolmdfpciolaaRWrite
import Derived.Test.YthcolmdfpciolaaWBest
namespace Go.Proofs.Ythcolmdfpciolaa
open Go.RowKit

theorem pars_12 {s : List UInt8} (h : s.length = 12) : parsB s = rtB (pars s) := by
  unfold parsB rtB pars numR
  rw [decide_eq_true h, Bool.true_and]
  have e : ∀ k : Nat, (decide ((0 : Int) ≤ k) && decide ((k : Int) ≤ 2147483647)) = decide (k ≤ 2147483647) := fun k => by
    rw [decide_eq_true (by omega : (0 : Int) ≤ k), Bool.true_and]
    by_cases hk : k ≤ 2147483647
    · rw [decide_eq_true hk, decide_eq_true (by omega)]
    · rw [decide_eq_false hk, decide_eq_false (by omega)]
  simp only [e]
theorem pars_not12 {s : List UInt8} (h : s.length ≠ 12) : parsB s = false := by unfold parsB; rw [decide_eq_false h]; rfl

set_option maxHeartbeats 4000000 in
set_option maxRecDepth 100000 in
theorem drread_any {v : Value} {S : List ByteArray} {W : List Wr} {a : Int} {w : World} (h : DV w v S W) (hn : S.length ≤ 1000000) (hm : W.length ≤ 1000000) :
    Calls Try.prog 14 #[v, .int .i64 a] w fun e w' => e = .returned (.tuple #[(readR S W a).v, .bool (readB S W a)]) ∧ Below w.heap.size w w' := by
  have HY := Lib.hid (fun (hb : tellB S W a = true) (wx : World) (hx : Below w.heap.size w wx) => dtell_yes (a := a) (h.on hx) hm hb)
  have HN := Lib.hid (fun (hb : tellB S W a = false) (wx : World) (hx : Below w.heap.size w wx) => dtell_no (a := a) (h.on hx) hn hm hb)
  obtain ⟨A, c, B, d, rfl, hA, hB⟩ := h
  have HB0 := Lib.hid (below_two w (.cells #[.slice A S.length c, .slice B W.length d] 30) (.cells #[.int .i64 0, .int .i64 0, .int .i64 0] 39))
  have HO := Lib.hid (show RBlk2 ((w.alloc (.cells #[.slice A S.length c, .slice B W.length d] 30)).alloc (.cells #[.int .i64 0, .int .i64 0, .int .i64 0] 39)) (w.heap.size + 1) rt0 from Box.at_ (w.alloc _) _ _ (by simp))
  have HQ := Lib.hid (show ∀ b, readB S W a = b → (∀ r : Rt, (b = false → r = rt0) → (b = true → r = pars (tellS S W a).data.toList) → (.tuple #[r.v, .bool b] : Value) = .tuple #[(readR S W a).v, .bool (readB S W a)]) from fun b hb r h0 h1 => by
    subst hb
    unfold readR
    cases hx : readB S W a with
    | false => rw [h0 hx]; rfl
    | true => rw [h1 hx]; rfl)
  have HRB := Lib.hid (show readB S W a = (tellB S W a && (parsB (tellS S W a).data.toList && decide ((pars (tellS S W a).data.toList).g % 2 = a))) from rfl)
  have HA0 := Lib.hid (show tellB S W a = true → 0 ≤ a from fun hb => by
    unfold tellB at hb
    rw [Bool.and_eq_true, Bool.and_eq_true] at hb
    have hh := hb.1.2
    unfold hasB at hh
    simp only [decide_eq_true_eq] at hh
    exact hh.1)
  have HSZ := Lib.hid (show (tellS S W a).size ≤ maxLen from tellS_size)
  generalize S.length = n at *
  generalize W.length = m at *
  clear hA hB
  have hbel := (Below.refl w.heap.size w).alloc (Nat.le_refl _) (.cells #[.slice A n c, .slice B m d] 30) |>.alloc (by simp) (.cells #[.int .i64 0, .int .i64 0, .int .i64 0] 39)
  cases htb : tellB S W a with
  | false =>
    have hrd := HN.out htb _ hbel
    have HF := Lib.hid (show readB S W a = false by rw [HRB.out, htb]; rfl)
    clear HY HN htb hbel
    go_enter Try.func14, Try.ntmps14
    go_wp2_with fail
    refine hrd.mono ?_
    clear hrd
    rintro e w1 ⟨⟨q, hq, rfl⟩, hb1⟩
    have hqd : (q != 0) = true := by simpa using hq
    have HO3 := Lib.hid (show RBlk2 w1 (w.heap.size + 1) rt0 from Box.on HO.out hb1)
    have HB3 := Lib.hid (HB0.out.trans (hb1.mono HB0.out.size))
    clear hb1 HO HB0
    have hz3 := Box.lt HO3.out
    have f0 := Box.free HO3.out 0
    have f1 := Box.free HO3.out 1
    have f2 := Box.free HO3.out 2
    obtain ⟨c0, c1, c2⟩ := RBlk2.cells HO3.out
    go_wp2
    obtain ⟨wz, hwz, hrz, hbz⟩ := HO3.out.put3 HB3.out (by omega) 0 0 0
    rw [hwz]
    obtain ⟨p0, p1, p2⟩ := RBlk2.cells hrz
    exact bodyPost_ret (v := .tuple #[rt0.v, .bool false]) (by simp [results, Try.results14, go_sem, Rt.v, rt0, p0, p1, p2]) rfl ⟨congrArg _ (HQ.out _ HF.out rt0 (fun _ => rfl) (fun h => by cases h)), hbz⟩
  | true =>
  have hrd := HY.out htb _ hbel
  have ha0 := HA0.out htb
  rw [htb, Bool.true_and] at HRB
  clear HY HN htb hbel HA0
  have hsz := HSZ.out
  unfold maxLen at hsz
  obtain ⟨s, hs⟩ : ∃ s, s = tellS S W a := ⟨_, rfl⟩
  rw [← hs] at hrd HRB HQ hsz
  clear hs HSZ
  have g1 : decide (a < 0) = false := decide_eq_false (by omega)
  by_cases ha1 : 1 < a
  · have g2 : decide (1 < a) = true := decide_eq_true ha1
    have HF := Lib.hid (show readB S W a = false by rw [HRB.out, decide_eq_false (by omega : ¬ (pars s.data.toList).g % 2 = a), Bool.and_false])
    go_enter Try.func14, Try.ntmps14
    go_wp2_with fail
    refine hrd.mono ?_
    clear hrd
    rintro e w1 ⟨rfl, hb1⟩
    have HO3 := Lib.hid (show RBlk2 w1 (w.heap.size + 1) rt0 from Box.on HO.out hb1)
    have HB3 := Lib.hid (HB0.out.trans (hb1.mono HB0.out.size))
    clear hb1 HO HB0
    have hz3 := Box.lt HO3.out
    have f0 := Box.free HO3.out 0
    have f1 := Box.free HO3.out 1
    have f2 := Box.free HO3.out 2
    obtain ⟨c0, c1, c2⟩ := RBlk2.cells HO3.out
    go_wp2
    obtain ⟨wz, hwz, hrz, hbz⟩ := HO3.out.put3 HB3.out (by omega) 0 0 0
    rw [hwz]
    obtain ⟨p0, p1, p2⟩ := RBlk2.cells hrz
    exact bodyPost_ret (v := .tuple #[rt0.v, .bool false]) (by simp [results, Try.results14, go_sem, Rt.v, rt0, p0, p1, p2]) rfl ⟨congrArg _ (HQ.out _ HF.out rt0 (fun _ => rfl) (fun h => by cases h)), hbz⟩
  have g2 : decide (1 < a) = false := decide_eq_false ha1
  by_cases h12 : s.size = 12
  · have g3 : ((s.size : Int) != 12) = false := by rw [h12]; rfl
    have hsl : s.data.toList.length = 12 := by simpa using h12
    rw [pars_12 hsl] at HRB
    have t1 := fun wx => dtake_ok s 4 wx (by omega) (by omega) (by omega)
    rw [num4_drop s.data.toList 0 s rfl] at t1
    have d1 := drop_next s.data.toList 0 s rfl
    have z1 : (s.extract 4 s.size).size = 8 := by rw [ByteArray.size_extract]; omega
    obtain ⟨x1, hx1⟩ : ∃ x1, x1 = s.extract 4 s.size := ⟨_, rfl⟩
    rw [← hx1] at t1 d1 z1
    have t2 := fun wx => dtake_ok x1 4 wx (by omega) (by omega) (by omega)
    rw [num4_drop s.data.toList 1 x1 d1] at t2
    have d2 := drop_next s.data.toList 1 x1 d1
    have z2 : (x1.extract 4 x1.size).size = 4 := by rw [ByteArray.size_extract]; omega
    obtain ⟨x2, hx2⟩ : ∃ x2, x2 = x1.extract 4 x1.size := ⟨_, rfl⟩
    rw [← hx2] at t2 d2 z2
    have t3 := fun wx => dtake_ok x2 4 wx (by omega) (by omega) (by omega)
    rw [num4_drop s.data.toList 2 x2 d2] at t3
    obtain ⟨x3, hx3⟩ : ∃ x3, x3 = x2.extract 4 x2.size := ⟨_, rfl⟩
    rw [← hx3] at t3
    have l0 := num4_lt s.data.toList 0
    have l1 := num4_lt s.data.toList 1
    have l2 := num4_lt s.data.toList 2
    have hp : pars s.data.toList = ⟨num4 s.data.toList 0, num4 s.data.toList 1, num4 s.data.toList 2⟩ := rfl
    rw [hp] at HRB HQ
    generalize num4 s.data.toList 0 = q0 at *
    generalize num4 s.data.toList 1 = q1 at *
    generalize num4 s.data.toList 2 = q2 at *
    have T1 := Lib.hid t1
    have T2 := Lib.hid t2
    have T3 := Lib.hid t3
    clear t1 t2 t3 d1 d2 hx1 hx2 hx3 hp hsl
    have w0 : IntKind.i64.wrap (q0 : Int) = q0 := IntWalk.i64_in _ (by omega)
    have w1' : IntKind.i64.wrap (q1 : Int) = q1 := IntWalk.i64_in _ (by omega)
    have w2' : IntKind.i64.wrap (q2 : Int) = q2 := IntWalk.i64_in _ (by omega)
    have HRT := Lib.hid (fun wx => drright_any ⟨q0, q1, q2⟩ wx)
    simp only [Rt.v] at HRT
    have htm : (q0 : Int).tmod 2 = (q0 : Int) % 2 := Int.tmod_eq_emod_of_nonneg (by omega)
    go_enter Try.func14, Try.ntmps14
    go_wp2_with fail
    refine hrd.mono ?_
    clear hrd
    rintro e w1 ⟨rfl, hb1⟩
    have HO1 := Lib.hid (show RBlk2 w1 (w.heap.size + 1) rt0 from Box.on HO.out hb1)
    have HB1 := Lib.hid (HB0.out.trans (hb1.mono HB0.out.size))
    clear hb1 HO HB0
    go_wp2_with fail
    refine (T1.out _).mono ?_
    rintro e w2 ⟨rfl, hb2⟩
    have HO2 := Lib.hid (show RBlk2 w2 (w.heap.size + 1) rt0 from Box.on HO1.out hb2)
    have HB2 := Lib.hid (HB1.out.trans (hb2.mono HB1.out.size))
    clear hb2 HO1 HB1
    go_wp2_with fail
    refine (T2.out _).mono ?_
    rintro e w3 ⟨rfl, hb3⟩
    have HO3 := Lib.hid (show RBlk2 w3 (w.heap.size + 1) rt0 from Box.on HO2.out hb3)
    have HB3 := Lib.hid (HB2.out.trans (hb3.mono HB2.out.size))
    clear hb3 HO2 HB2
    go_wp2_with fail
    refine (T3.out _).mono ?_
    rintro e w4 ⟨rfl, hb4⟩
    have hba : Below w3.heap.size w3 (w4.alloc (.cells #[.int .i64 q0, .int .i64 q1, .int .i64 q2] 39)) := hb4.alloc hb4.size _
    have HO4 := Lib.hid (show RBlk2 (w4.alloc (.cells #[.int .i64 q0, .int .i64 q1, .int .i64 q2] 39)) (w.heap.size + 1) rt0 from Box.on HO3.out hba)
    have HB4 := Lib.hid (HB3.out.trans (hba.mono HB3.out.size))
    have HR4 := Lib.hid (show RBlk2 (w4.alloc (.cells #[.int .i64 q0, .int .i64 q1, .int .i64 q2] 39)) w4.heap.size ⟨q0, q1, q2⟩ from Box.fresh _ _ _)
    clear hb4 hba HO3 HB3 T1 T2 T3
    go_wp2_with fail
    refine (HRT.out _).mono ?_
    rintro e w5 ⟨rfl, hb5⟩
    have HO3 := Lib.hid (show RBlk2 w5 (w.heap.size + 1) rt0 from Box.on HO4.out hb5)
    have HB3 := Lib.hid (HB4.out.trans (hb5.mono HB4.out.size))
    have HR5 := Lib.hid (show RBlk2 w5 w4.heap.size ⟨q0, q1, q2⟩ from Box.on HR4.out hb5)
    clear hb5 HO4 HB4 HR4 HRT
    have hlr := Box.lt HR5.out
    obtain ⟨r0, r1, r2⟩ := RBlk2.cells HR5.out
    cases hrb : rtB ⟨q0, q1, q2⟩ with
    | false =>
      have HF := Lib.hid (show readB S W a = false by rw [HRB.out, hrb]; rfl)
      clear hrb HRB
      have hz3 := Box.lt HO3.out
      have f0 := Box.free HO3.out 0
      have f1 := Box.free HO3.out 1
      have f2 := Box.free HO3.out 2
      obtain ⟨c0, c1, c2⟩ := RBlk2.cells HO3.out
      go_wp2
      obtain ⟨wz, hwz, hrz, hbz⟩ := HO3.out.put3 HB3.out (by omega) 0 0 0
      rw [hwz]
      obtain ⟨p0, p1, p2⟩ := RBlk2.cells hrz
      exact bodyPost_ret (v := .tuple #[rt0.v, .bool false]) (by simp [results, Try.results14, go_sem, Rt.v, rt0, p0, p1, p2]) rfl ⟨congrArg _ (HQ.out _ HF.out rt0 (fun _ => rfl) (fun h => by cases h)), hbz⟩
    | true =>
      rw [hrb, Bool.true_and] at HRB
      clear hrb
      by_cases hpa : (q0 : Int) % 2 = a
      · have hne : ((q0 : Int) % 2 != a) = false := by rw [hpa]; simp
        have HF := Lib.hid (show readB S W a = true by rw [HRB.out]; exact decide_eq_true hpa)
        clear hpa HRB
        have hz3 := Box.lt HO3.out
        have f0 := Box.free HO3.out 0
        have f1 := Box.free HO3.out 1
        have f2 := Box.free HO3.out 2
        obtain ⟨c0, c1, c2⟩ := RBlk2.cells HO3.out
        go_wp2
        obtain ⟨wz, hwz, hrz, hbz⟩ := HO3.out.put3 HB3.out (by omega) q0 q1 q2
        rw [hwz]
        obtain ⟨p0, p1, p2⟩ := RBlk2.cells hrz
        exact bodyPost_ret (v := .tuple #[(⟨q0, q1, q2⟩ : Rt).v, .bool true]) (by simp [results, Try.results14, go_sem, Rt.v, p0, p1, p2]) rfl ⟨congrArg _ (HQ.out _ HF.out ⟨q0, q1, q2⟩ (fun h => by cases h) (fun _ => rfl)), hbz⟩
      · have hne : ((q0 : Int) % 2 != a) = true := by rw [bne_iff_ne]; exact hpa
        have HF := Lib.hid (show readB S W a = false by rw [HRB.out]; exact decide_eq_false hpa)
        clear hpa HRB
        have hz3 := Box.lt HO3.out
        have f0 := Box.free HO3.out 0
        have f1 := Box.free HO3.out 1
        have f2 := Box.free HO3.out 2
        obtain ⟨c0, c1, c2⟩ := RBlk2.cells HO3.out
        go_wp2
        obtain ⟨wz, hwz, hrz, hbz⟩ := HO3.out.put3 HB3.out (by omega) 0 0 0
        rw [hwz]
        obtain ⟨p0, p1, p2⟩ := RBlk2.cells hrz
        exact bodyPost_ret (v := .tuple #[rt0.v, .bool false]) (by simp [results, Try.results14, go_sem, Rt.v, rt0, p0, p1, p2]) rfl ⟨congrArg _ (HQ.out _ HF.out rt0 (fun _ => rfl) (fun h => by cases h)), hbz⟩
  · have g3 : ((s.size : Int) != 12) = true := by rw [bne_iff_ne]; omega
    have HF := Lib.hid (show readB S W a = false by rw [HRB.out, pars_not12 (by simpa using h12)]; rfl)
    go_enter Try.func14, Try.ntmps14
    go_wp2_with fail
    refine hrd.mono ?_
    clear hrd
    rintro e w1 ⟨rfl, hb1⟩
    have HO3 := Lib.hid (show RBlk2 w1 (w.heap.size + 1) rt0 from Box.on HO.out hb1)
    have HB3 := Lib.hid (HB0.out.trans (hb1.mono HB0.out.size))
    clear hb1 HO HB0
    have hz3 := Box.lt HO3.out
    have f0 := Box.free HO3.out 0
    have f1 := Box.free HO3.out 1
    have f2 := Box.free HO3.out 2
    obtain ⟨c0, c1, c2⟩ := RBlk2.cells HO3.out
    go_wp2
    obtain ⟨wz, hwz, hrz, hbz⟩ := HO3.out.put3 HB3.out (by omega) 0 0 0
    rw [hwz]
    obtain ⟨p0, p1, p2⟩ := RBlk2.cells hrz
    exact bodyPost_ret (v := .tuple #[rt0.v, .bool false]) (by simp [results, Try.results14, go_sem, Rt.v, rt0, p0, p1, p2]) rfl ⟨congrArg _ (HQ.out _ HF.out rt0 (fun _ => rfl) (fun h => by cases h)), hbz⟩

set_option maxHeartbeats 4000000 in
set_option maxRecDepth 100000 in
theorem drbest_any {v : Value} {S : List ByteArray} {W : List Wr} {w : World} (h : DV w v S W) (hn : S.length ≤ 1000000) (hm : W.length ≤ 1000000) :
    Calls Try.prog 16 #[v] w fun e w' => e = .returned (.tuple #[(bestR S W).v, .bool (bestB S W)]) ∧ Below w.heap.size w w' := by
  have HR0 := Lib.hid (fun (wx : World) (hx : Below w.heap.size w wx) => drread_any (a := 0) (h.on hx) hn hm)
  have HR1 := Lib.hid (fun (wx : World) (hx : Below w.heap.size w wx) => drread_any (a := 1) (h.on hx) hn hm)
  have HE := Lib.hid (show bestR S W = bst (readR S W 0) (readB S W 0) (readR S W 1) (readB S W 1) 2 ∧ bestB S W = (readB S W 0 || readB S W 1) from ⟨rfl, rfl⟩)
  rw [HE.out.1, HE.out.2]
  clear HE
  obtain ⟨A, c, B, d, rfl, hA, hB⟩ := h
  have HB0 := Lib.hid (below_two w (.cells #[.slice A S.length c, .slice B W.length d] 30) (.cells #[.int .i64 0, .int .i64 0, .int .i64 0] 39))
  have HD0 := Lib.hid (show EBlk ((w.alloc (.cells #[.slice A S.length c, .slice B W.length d] 30)).alloc (.cells #[.int .i64 0, .int .i64 0, .int .i64 0] 39)) w.heap.size (.slice A S.length c) (.slice B W.length d) from Box.push (Box.fresh _ _ _) _)
  have HO0 := Lib.hid (show RBlk2 ((w.alloc (.cells #[.slice A S.length c, .slice B W.length d] 30)).alloc (.cells #[.int .i64 0, .int .i64 0, .int .i64 0] 39)) (w.heap.size + 1) rt0 from Box.at_ (w.alloc _) _ _ (by simp))
  generalize readB S W 0 = b0 at *
  generalize readB S W 1 = b1 at *
  generalize readR S W 0 = q0 at *
  generalize readR S W 1 = q1 at *
  generalize S.length = n at *
  generalize W.length = m at *
  clear hA hB
  obtain ⟨x0, y0, z0⟩ := q0
  obtain ⟨x1, y1, z1⟩ := q1
  simp only [Rt.v] at HR0 HR1
  obtain ⟨rr, hrr⟩ : ∃ rr, rr = bst ⟨x0, y0, z0⟩ b0 ⟨x1, y1, z1⟩ b1 2 := ⟨_, rfl⟩
  obtain ⟨bb, hbb⟩ : ∃ bb, bb = (b0 || b1) := ⟨_, rfl⟩
  rw [← hrr, ← hbb]
  have HQ := Lib.hid (show ∀ r b, r = rr → b = bb → (.tuple #[r.v, .bool b] : Value) = .tuple #[rr.v, .bool bb] from fun r b h1 h2 => by rw [h1, h2])
  have hrd := HR0.out _ HB0.out
  have hcase : (b1 = false ∧ rr = ⟨x0, y0, z0⟩ ∧ bb = b0) ∨ (b1 = true ∧ b0 = false ∧ rr = ⟨x1, y1, z1⟩ ∧ bb = true) ∨ (b1 = true ∧ b0 = true ∧ x0 < x1 ∧ rr = ⟨x1, y1, z1⟩ ∧ bb = true) ∨ (b1 = true ∧ b0 = true ∧ ¬ x0 < x1 ∧ rr = ⟨x0, y0, z0⟩ ∧ bb = true) := by
    rw [hrr, hbb]
    cases b1 with
    | false => exact .inl ⟨rfl, rfl, by cases b0 <;> rfl⟩
    | true =>
      cases b0 with
      | false => exact .inr (.inl ⟨rfl, rfl, rfl, rfl⟩)
      | true =>
        by_cases hx : x0 < x1
        · exact .inr (.inr (.inl ⟨rfl, rfl, hx, by simp [bst, hx], rfl⟩))
        · exact .inr (.inr (.inr ⟨rfl, rfl, hx, by simp [bst, hx], rfl⟩))
  clear hrr hbb HR0
  go_enter Try.func16, Try.ntmps16
  go_wp2_with fail
  refine hrd.mono ?_
  clear hrd
  rintro e w1 ⟨rfl, hb1⟩
  have hba := hb1.alloc hb1.size (.cells #[.int .i64 x0, .int .i64 y0, .int .i64 z0] 39)
  have HD1 := Lib.hid (show EBlk (w1.alloc (.cells #[.int .i64 x0, .int .i64 y0, .int .i64 z0] 39)) w.heap.size (.slice A n c) (.slice B m d) from Box.on HD0.out hba)
  have HO1 := Lib.hid (show RBlk2 (w1.alloc (.cells #[.int .i64 x0, .int .i64 y0, .int .i64 z0] 39)) (w.heap.size + 1) rt0 from Box.on HO0.out hba)
  have HX1 := Lib.hid (show RBlk2 (w1.alloc (.cells #[.int .i64 x0, .int .i64 y0, .int .i64 z0] 39)) w1.heap.size ⟨x0, y0, z0⟩ from Box.fresh _ _ _)
  have HB1 := Lib.hid (HB0.out.trans (hba.mono HB0.out.size))
  clear hb1 hba HD0 HO0 HB0
  have hrd := HR1.out _ HB1.out
  obtain ⟨k0, k1⟩ := EBlk.cells HD1.out
  have hz := Box.lt HD1.out
  clear HR1
  go_wp2_with fail
  refine hrd.mono ?_
  clear hrd k0 k1 hz
  rintro e w2 ⟨rfl, hb2⟩
  have hba := hb2.alloc hb2.size (.cells #[.int .i64 x1, .int .i64 y1, .int .i64 z1] 39)
  have HO3 := Lib.hid (show RBlk2 (w2.alloc (.cells #[.int .i64 x1, .int .i64 y1, .int .i64 z1] 39)) (w.heap.size + 1) rt0 from Box.on HO1.out hba)
  have HO2 := Lib.hid (show RBlk2 w2 (w.heap.size + 1) rt0 from Box.on HO1.out hb2)
  have HX3 := Lib.hid (show RBlk2 (w2.alloc (.cells #[.int .i64 x1, .int .i64 y1, .int .i64 z1] 39)) w1.heap.size ⟨x0, y0, z0⟩ from Box.on HX1.out hba)
  have HX2 := Lib.hid (show RBlk2 w2 w1.heap.size ⟨x0, y0, z0⟩ from Box.on HX1.out hb2)
  have HY3 := Lib.hid (show RBlk2 (w2.alloc (.cells #[.int .i64 x1, .int .i64 y1, .int .i64 z1] 39)) w2.heap.size ⟨x1, y1, z1⟩ from Box.fresh _ _ _)
  have HB3 := Lib.hid (HB1.out.trans (hba.mono HB1.out.size))
  have HB2 := Lib.hid (HB1.out.trans (hb2.mono HB1.out.size))
  have hl5 : w.heap.size + 1 < w2.heap.size := Box.lt HO2.out
  have hl6 : w1.heap.size < w2.heap.size := Box.lt HX2.out
  have hl7 := Box.lt HY3.out
  clear hb2 hba HD1 HO1 HX1 HB1
  obtain ⟨n0, n1, n2⟩ := RBlk2.cells HX3.out
  obtain ⟨m0, m1, m2⟩ := RBlk2.cells HY3.out
  obtain ⟨j0, j1, j2⟩ := RBlk2.cells HX2.out
  have f0 := Box.free HO2.out 0
  have f1 := Box.free HO2.out 1
  have f2 := Box.free HO2.out 2
  obtain ⟨c0, c1, c2⟩ := RBlk2.cells HO2.out
  rcases hcase with ⟨rfl, hr, hb⟩ | ⟨rfl, rfl, hr, hb⟩ | ⟨rfl, rfl, hlt, hr, hb⟩ | ⟨rfl, rfl, hlt, hr, hb⟩
  · skip
    go_wp2
    obtain ⟨wz, hwz, hrz, hbz⟩ := HO2.out.put3 HB2.out (by omega) x0 y0 z0
    rw [hwz]
    obtain ⟨p0, p1, p2⟩ := RBlk2.cells (show RBlk2 (wz.alloc (.cells #[.int .i64 x1, .int .i64 y1, .int .i64 z1] 39)) (w.heap.size + 1) ⟨x0, y0, z0⟩ from Box.push hrz _)
    exact bodyPost_ret (v := .tuple #[(⟨x0, y0, z0⟩ : Rt).v, .bool b0]) (by simp [results, Try.results16, go_sem, Rt.v, p0, p1, p2]) rfl ⟨congrArg _ (HQ.out _ _ hr.symm hb.symm), hbz.alloc hbz.size _⟩
  · skip
    go_wp2
    obtain ⟨wz, hwz, hrz, hbz⟩ := HO2.out.put3 HB2.out (by omega) x1 y1 z1
    rw [hwz]
    obtain ⟨p0, p1, p2⟩ := RBlk2.cells (show RBlk2 (wz.alloc (.cells #[.int .i64 x1, .int .i64 y1, .int .i64 z1] 39)) (w.heap.size + 1) ⟨x1, y1, z1⟩ from Box.push hrz _)
    exact bodyPost_ret (v := .tuple #[(⟨x1, y1, z1⟩ : Rt).v, .bool true]) (by simp [results, Try.results16, go_sem, Rt.v, p0, p1, p2]) rfl ⟨congrArg _ (HQ.out _ _ hr.symm hb.symm), hbz.alloc hbz.size _⟩
  · skip
    have hd1 : decide (x0 < x1) = true := decide_eq_true (by omega)
    go_wp2
    obtain ⟨wz, hwz, hrz, hbz⟩ := HO2.out.put3 HB2.out (by omega) x1 y1 z1
    rw [hwz]
    obtain ⟨p0, p1, p2⟩ := RBlk2.cells (show RBlk2 (wz.alloc (.cells #[.int .i64 x1, .int .i64 y1, .int .i64 z1] 39)) (w.heap.size + 1) ⟨x1, y1, z1⟩ from Box.push hrz _)
    exact bodyPost_ret (v := .tuple #[(⟨x1, y1, z1⟩ : Rt).v, .bool true]) (by simp [results, Try.results16, go_sem, Rt.v, p0, p1, p2]) rfl ⟨congrArg _ (HQ.out _ _ hr.symm hb.symm), hbz.alloc hbz.size _⟩
  · skip
    have hd1 : decide (x0 < x1) = false := decide_eq_false (by omega)
    go_wp2
    obtain ⟨wz, hwz, hrz, hbz⟩ := HO2.out.put3 HB2.out (by omega) x0 y0 z0
    rw [hwz]
    obtain ⟨p0, p1, p2⟩ := RBlk2.cells (show RBlk2 (wz.alloc (.cells #[.int .i64 x1, .int .i64 y1, .int .i64 z1] 39)) (w.heap.size + 1) ⟨x0, y0, z0⟩ from Box.push hrz _)
    exact bodyPost_ret (v := .tuple #[(⟨x0, y0, z0⟩ : Rt).v, .bool true]) (by simp [results, Try.results16, go_sem, Rt.v, p0, p1, p2]) rfl ⟨congrArg _ (HQ.out _ _ hr.symm hb.symm), hbz.alloc hbz.size _⟩

end Go.Proofs.Ythcolmdfpciolaa
