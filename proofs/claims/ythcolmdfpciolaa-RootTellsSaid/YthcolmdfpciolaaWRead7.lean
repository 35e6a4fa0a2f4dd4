/- The walk of Read: the root that stands in a sector. -/
import Derived.Test.YthcolmdfpciolaaWPars
import Derived.Test.YthcolmdfpciolaaWNone
namespace Go.Proofs.Ythcolmdfpciolaa
open Go.RowKit

theorem tell_yes {v : Value} {S : List ByteArray} {W : List Wr} {a : Int} {w : World} (h : DV w v S W) (hm : W.length ≤ 1000000) (hb : tellB S W a = true) :
    Calls Try.prog 28 #[v, .int .i64 a, .int .i64 1] w fun e w' => e = .returned (.tuple #[.string (tellS S W a), .int .i64 0]) ∧ Below w.heap.size w w' := by
  have hb0 := hb
  unfold tellB at hb
  rw [Bool.and_eq_true, Bool.and_eq_true] at hb
  obtain ⟨⟨hR, hh⟩, hf⟩ := hb
  obtain ⟨b, rfl, hbn⟩ : ∃ b : Nat, a = b ∧ b + 1 ≤ S.length := by
    unfold hasB at hh
    simp only [decide_eq_true_eq] at hh
    exact ⟨a.toNat, by omega, by omega⟩
  have h1 := tell_any (a := b) (k := 1) h hm hR hbn
  rw [Int.toNat_natCast] at hf
  unfold tellS
  rw [hb0, Int.toNat_natCast]
  unfold tellT tellE at h1
  rw [Bool.and_eq_true] at hf
  rw [hf.1, hf.2] at h1
  exact h1
theorem tell_no {v : Value} {S : List ByteArray} {W : List Wr} {a : Int} {w : World} (h : DV w v S W) (hn : S.length ≤ 1000000) (hm : W.length ≤ 1000000) (hb : tellB S W a = false) :
    Calls Try.prog 28 #[v, .int .i64 a, .int .i64 1] w fun e w' => (∃ n : Int, n ≠ 0 ∧ e = .returned (.tuple #[.string ⟨#[]⟩, .int .i64 n])) ∧ Below w.heap.size w w' := by
  unfold tellB at hb
  cases hh : (rightB S W && hasB S.length a 1) with
  | false =>
    rw [Bool.and_eq_false_iff] at hh
    refine (tell_bad h hn hm hh).mono ?_
    rintro e w' ⟨he, hbb⟩
    exact ⟨⟨1, by decide, he⟩, hbb⟩
  | true =>
    rw [hh, Bool.true_and] at hb
    rw [Bool.and_eq_true] at hh
    obtain ⟨hR, hh⟩ := hh
    obtain ⟨b, rfl, hbn⟩ : ∃ b : Nat, a = b ∧ b + 1 ≤ S.length := by
      unfold hasB at hh
      simp only [decide_eq_true_eq] at hh
      exact ⟨a.toNat, by omega, by omega⟩
    have h1 := tell_any (a := b) (k := 1) h hm hR hbn
    rw [Int.toNat_natCast] at hb
    unfold tellT tellE at h1
    rw [hb] at h1
    cases hf : formB (readS S W b 1).data.toList 1 with
    | false =>
      rw [hf] at h1
      refine h1.mono ?_
      rintro e w' ⟨he, hbb⟩
      exact ⟨⟨2, by decide, he⟩, hbb⟩
    | true =>
      have hs : sumB (readS S W b 1).data.toList = false := by rw [hf, Bool.true_and] at hb; exact hb
      rw [hf, hs] at h1
      refine h1.mono ?_
      rintro e w' ⟨he, hbb⟩
      exact ⟨⟨4, by decide, he⟩, hbb⟩
theorem tellS_size {S : List ByteArray} {W : List Wr} {a : Int} : (tellS S W a).size ≤ maxLen := by
  unfold tellS
  split
  · rename_i h
    unfold tellB at h
    rw [Bool.and_eq_true, Bool.and_eq_true] at h
    obtain ⟨b, hb, hbn⟩ : ∃ b : Nat, a = b ∧ b + 1 ≤ S.length := by
      have hh := h.1.2
      unfold hasB at hh
      simp only [decide_eq_true_eq] at hh
      exact ⟨a.toNat, by omega, by omega⟩
    have hz := read_size h.1.1 hbn
    subst hb
    rw [Int.toNat_natCast]
    show (textOf _).toArray.size ≤ _
    rw [List.size_toArray]
    unfold textOf
    rw [List.length_take, List.length_drop]
    have : (readS S W b 1).data.toList.length = 32 := by simp [hz]
    unfold maxLen
    omega
  · decide

set_option maxHeartbeats 2000000 in
set_option maxRecDepth 100000 in
theorem rread_any {v : Value} {S : List ByteArray} {W : List Wr} {a : Int} {w : World} (h : DV w v S W) (hn : S.length ≤ 1000000) (hm : W.length ≤ 1000000) :
    Calls Try.prog 13 #[v, .int .i64 a] w fun e w' => e = .returned (.tuple #[(readR S W a).v, .bool (readB S W a)]) ∧ Below w.heap.size w w' := by
  have HY := Lib.hid (fun (hb : tellB S W a = true) (wx : World) (hx : Below w.heap.size w wx) => tell_yes (a := a) (h.on hx) hm hb)
  have HN := Lib.hid (fun (hb : tellB S W a = false) (wx : World) (hx : Below w.heap.size w wx) => tell_no (a := a) (h.on hx) hn hm hb)
  obtain ⟨A, c, B, d, rfl, hA, hB⟩ := h
  have HB0 := Lib.hid (below_two w (.cells #[.slice A S.length c, .slice B W.length d] 25) (.cells #[.int .i64 0, .int .i64 0, .int .i64 0] 27))
  have HO := Lib.hid (show RBlk ((w.alloc (.cells #[.slice A S.length c, .slice B W.length d] 25)).alloc (.cells #[.int .i64 0, .int .i64 0, .int .i64 0] 27)) (w.heap.size + 1) rt0 from Box.at_ (w.alloc _) _ _ (by simp))
  have HQ := Lib.hid (show ∀ b, readB S W a = b → (∀ r : Rt, (b = false → r = rt0) → (b = true → r = pars (tellS S W a).data.toList) → (.tuple #[r.v, .bool b] : Value) = .tuple #[(readR S W a).v, .bool (readB S W a)]) from fun b hb r h0 h1 => by
    subst hb
    unfold readR
    cases hx : readB S W a with
    | false => rw [h0 hx]; rfl
    | true => rw [h1 hx]; rfl)
  have HRB := Lib.hid (show readB S W a = (tellB S W a && (parsB (tellS S W a).data.toList && decide ((pars (tellS S W a).data.toList).g % 2 = a))) from rfl)
  have HP := Lib.hid (fun wx => rpars_any (tellS S W a) wx tellS_size)
  have HPL := Lib.hid (fun (wx : World) (h : parsB (tellS S W a).data.toList = true) => place_any (pars (tellS S W a).data.toList) wx (pars_right h))
  generalize S.length = n at *
  generalize W.length = m at *
  clear hA hB
  cases htb : tellB S W a with
  | false =>
    have hrd := HN.out htb _ ((Below.refl _ _).alloc (Nat.le_refl _) (.cells #[.slice A n c, .slice B m d] 25) |>.alloc (by simp) (.cells #[.int .i64 0, .int .i64 0, .int .i64 0] 27))
    have HF := Lib.hid (show readB S W a = false by rw [HRB.out, htb]; rfl)
    clear HY HN htb
    go_enter Try.func13, Try.ntmps13
    go_wp2_with fail
    refine hrd.mono ?_
    clear hrd
    rintro e w1 ⟨⟨q, hq, rfl⟩, hb1⟩
    have hqd : (q != 0) = true := by simpa using hq
    have HO3 := Lib.hid (show RBlk w1 (w.heap.size + 1) rt0 from Box.on HO.out hb1)
    have HB3 := Lib.hid (HB0.out.trans (hb1.mono HB0.out.size))
    clear hb1 HO HB0
    have hz3 := Box.lt HO3.out
    have f0 := Box.free HO3.out 0
    have f1 := Box.free HO3.out 1
    have f2 := Box.free HO3.out 2
    obtain ⟨c0, c1, c2⟩ := RBlk.cells HO3.out
    go_wp2
    obtain ⟨wz, hwz, hrz, hbz⟩ := HO3.out.put3 HB3.out (by omega) 0 0 0
    rw [hwz]
    obtain ⟨p0, p1, p2⟩ := RBlk.cells hrz
    exact bodyPost_ret (v := .tuple #[rt0.v, .bool false]) (by simp [results, Try.results13, go_sem, Rt.v, rt0, p0, p1, p2]) rfl ⟨congrArg _ (HQ.out _ HF.out rt0 (fun _ => rfl) (fun h => by cases h)), hbz⟩
  | true =>
  have hrd := HY.out htb _ ((Below.refl _ _).alloc (Nat.le_refl _) (.cells #[.slice A n c, .slice B m d] 25) |>.alloc (by simp) (.cells #[.int .i64 0, .int .i64 0, .int .i64 0] 27))
  rw [htb, Bool.true_and] at HRB
  clear HY HN htb
  obtain ⟨s, hs⟩ : ∃ s, s = tellS S W a := ⟨_, rfl⟩
  rw [← hs] at hrd HP HPL HRB HQ
  clear hs
  cases hpb : parsB s.data.toList with
  | false =>
    have HF := Lib.hid (show readB S W a = false by rw [HRB.out, hpb]; rfl)
    have hpp := fun wx => HP.out wx
    rw [hpb, parsR_no hpb] at hpp
    simp only [Rt.v, rt0] at hpp
    have HPP := Lib.hid hpp
    clear HP hpp HPL hpb HRB
    go_enter Try.func13, Try.ntmps13
    go_wp2_with fail
    refine hrd.mono ?_
    clear hrd
    rintro e w1 ⟨rfl, hb1⟩
    have HO3 := Lib.hid (show RBlk w1 (w.heap.size + 1) rt0 from Box.on HO.out hb1)
    have HB3 := Lib.hid (HB0.out.trans (hb1.mono HB0.out.size))
    clear hb1 HO HB0
    go_wp2_with fail
    refine (HPP.out _).mono ?_
    rintro e w2 ⟨rfl, hb2⟩
    have HO5 := Lib.hid (show RBlk _ (w.heap.size + 1) rt0 from Box.push (Box.on HO3.out hb2) (.cells #[.int .i64 0, .int .i64 0, .int .i64 0] 27))
    have HB5 := Lib.hid (show Below w.heap.size w _ from (HB3.out.trans (hb2.mono HB3.out.size)).alloc (HB3.out.trans (hb2.mono HB3.out.size)).size (.cells #[.int .i64 0, .int .i64 0, .int .i64 0] 27))
    clear hb2 HO3 HB3
    have hz3 := Box.lt HO5.out
    have f0 := Box.free HO5.out 0
    have f1 := Box.free HO5.out 1
    have f2 := Box.free HO5.out 2
    obtain ⟨c0, c1, c2⟩ := RBlk.cells HO5.out
    go_wp2
    obtain ⟨wz, hwz, hrz, hbz⟩ := HO5.out.put3 HB5.out (by omega) 0 0 0
    rw [hwz]
    obtain ⟨p0, p1, p2⟩ := RBlk.cells hrz
    exact bodyPost_ret (v := .tuple #[rt0.v, .bool false]) (by simp [results, Try.results13, go_sem, Rt.v, rt0, p0, p1, p2]) rfl ⟨congrArg _ (HQ.out _ HF.out rt0 (fun _ => rfl) (fun h => by cases h)), hbz⟩
  | true =>
  have hpp := fun wx => HP.out wx
  rw [hpb] at hpp
  have hpr : parsR s.data.toList = pars s.data.toList := by unfold parsR; rw [hpb]; rfl
  rw [hpr] at hpp
  have hpl := fun wx => HPL.out wx hpb
  obtain ⟨q, hq⟩ : ∃ q, q = pars s.data.toList := ⟨_, rfl⟩
  rw [hpb, Bool.true_and] at HRB
  rw [← hq] at hpp hpl HRB HQ
  clear hq hpr HP HPL hpb
  obtain ⟨x, y, z⟩ := q
  simp only [Rt.v] at hpp hpl HRB
  have HPP := Lib.hid hpp
  have HPL := Lib.hid hpl
  clear hpp hpl
  obtain ⟨pl, hpl⟩ : ∃ pl, pl = x % 2 := ⟨_, rfl⟩
  rw [← hpl] at HPL HRB
  clear hpl
  by_cases hpa : pl = a
  · have hne : (pl != a) = false := by simpa using hpa
    have HF := Lib.hid (show readB S W a = true by rw [HRB.out, decide_eq_true hpa])
    clear HRB hpa
    go_enter Try.func13, Try.ntmps13
    go_wp2_with fail
    refine hrd.mono ?_
    clear hrd
    rintro e w1 ⟨rfl, hb1⟩
    have HO3 := Lib.hid (show RBlk w1 (w.heap.size + 1) rt0 from Box.on HO.out hb1)
    have HB3 := Lib.hid (HB0.out.trans (hb1.mono HB0.out.size))
    clear hb1 HO HB0
    go_wp2_with fail
    refine (HPP.out _).mono ?_
    rintro e w2 ⟨rfl, hb2⟩
    have HO4 := Lib.hid (show RBlk (w2.alloc (.cells #[.int .i64 x, .int .i64 y, .int .i64 z] 27)) (w.heap.size + 1) rt0 from Box.push (Box.on HO3.out hb2) _)
    have HB4 := Lib.hid (show Below w.heap.size w (w2.alloc (.cells #[.int .i64 x, .int .i64 y, .int .i64 z] 27)) from (HB3.out.trans (hb2.mono HB3.out.size)).alloc (HB3.out.trans (hb2.mono HB3.out.size)).size _)
    have HR4 := Lib.hid (show RBlk (w2.alloc (.cells #[.int .i64 x, .int .i64 y, .int .i64 z] 27)) w2.heap.size ⟨x, y, z⟩ from Box.fresh _ _ _)
    clear hb2 HO3 HB3
    go_wp2_with fail
    refine (HPL.out _).mono ?_
    rintro e w3 ⟨rfl, hb3⟩
    have HO5 := Lib.hid (show RBlk w3 (w.heap.size + 1) rt0 from Box.on HO4.out hb3)
    have HR5 := Lib.hid (show RBlk w3 w2.heap.size ⟨x, y, z⟩ from Box.on HR4.out hb3)
    have HB5 := Lib.hid (HB4.out.trans (hb3.mono HB4.out.size))
    clear hb3 HO4 HB4 HR4
    have hz3 := Box.lt HO5.out
    have hz4 := Box.lt HR5.out
    have f0 := Box.free HO5.out 0
    have f1 := Box.free HO5.out 1
    have f2 := Box.free HO5.out 2
    obtain ⟨c0, c1, c2⟩ := RBlk.cells HO5.out
    obtain ⟨r0, r1, r2⟩ := RBlk.cells HR5.out
    go_wp2
    obtain ⟨wz, hwz, hrz, hbz⟩ := HO5.out.put3 HB5.out (by omega) x y z
    rw [hwz]
    obtain ⟨p0, p1, p2⟩ := RBlk.cells hrz
    exact bodyPost_ret (v := .tuple #[(⟨x, y, z⟩ : Rt).v, .bool true]) (by simp [results, Try.results13, go_sem, Rt.v, p0, p1, p2]) rfl ⟨congrArg _ (HQ.out _ HF.out ⟨x, y, z⟩ (fun h => by cases h) (fun _ => rfl)), hbz⟩
  · have hne : (pl != a) = true := by simpa using hpa
    have HF := Lib.hid (show readB S W a = false by rw [HRB.out, decide_eq_false hpa])
    clear HRB hpa
    go_enter Try.func13, Try.ntmps13
    go_wp2_with fail
    refine hrd.mono ?_
    clear hrd
    rintro e w1 ⟨rfl, hb1⟩
    have HO3 := Lib.hid (show RBlk w1 (w.heap.size + 1) rt0 from Box.on HO.out hb1)
    have HB3 := Lib.hid (HB0.out.trans (hb1.mono HB0.out.size))
    clear hb1 HO HB0
    go_wp2_with fail
    refine (HPP.out _).mono ?_
    rintro e w2 ⟨rfl, hb2⟩
    have HO4 := Lib.hid (show RBlk (w2.alloc (.cells #[.int .i64 x, .int .i64 y, .int .i64 z] 27)) (w.heap.size + 1) rt0 from Box.push (Box.on HO3.out hb2) _)
    have HB4 := Lib.hid (show Below w.heap.size w (w2.alloc (.cells #[.int .i64 x, .int .i64 y, .int .i64 z] 27)) from (HB3.out.trans (hb2.mono HB3.out.size)).alloc (HB3.out.trans (hb2.mono HB3.out.size)).size _)
    clear hb2 HO3 HB3
    go_wp2_with fail
    refine (HPL.out _).mono ?_
    rintro e w3 ⟨rfl, hb3⟩
    have HO5 := Lib.hid (show RBlk w3 (w.heap.size + 1) rt0 from Box.on HO4.out hb3)
    have HB5 := Lib.hid (HB4.out.trans (hb3.mono HB4.out.size))
    clear hb3 HO4 HB4
    have hz3 := Box.lt HO5.out
    have f0 := Box.free HO5.out 0
    have f1 := Box.free HO5.out 1
    have f2 := Box.free HO5.out 2
    obtain ⟨c0, c1, c2⟩ := RBlk.cells HO5.out
    go_wp2
    obtain ⟨wz, hwz, hrz, hbz⟩ := HO5.out.put3 HB5.out (by omega) 0 0 0
    rw [hwz]
    obtain ⟨p0, p1, p2⟩ := RBlk.cells hrz
    exact bodyPost_ret (v := .tuple #[rt0.v, .bool false]) (by simp [results, Try.results13, go_sem, Rt.v, rt0, p0, p1, p2]) rfl ⟨congrArg _ (HQ.out _ HF.out rt0 (fun _ => rfl) (fun h => by cases h)), hbz⟩

end Go.Proofs.Ythcolmdfpciolaa
