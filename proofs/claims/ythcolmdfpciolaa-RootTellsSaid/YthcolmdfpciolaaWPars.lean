/- The walk of rootOf: the root of a text. -/
import Derived.Test.YthcolmdfpciolaaWText
namespace Go.Proofs.Ythcolmdfpciolaa
open Go.RowKit

/-- The three numbers, when the first k are taken. -/
def ABlk (w : World) (g : Nat) (s : List UInt8) (k : Nat) : Prop := Box w g 83 #[.int .i64 (if 0 < k then num4 s 0 else 0), .int .i64 (if 1 < k then num4 s 1 else 0), .int .i64 (if 2 < k then num4 s 2 else 0)]
theorem ABlk.laid (w : World) (s : List UInt8) (o : Obj) : ABlk ((w.alloc o).alloc (.cells #[.int .i64 0, .int .i64 0, .int .i64 0] 83)) (w.heap.size + 1) s 0 := Box.at_ (w.alloc o) _ _ (by simp)
theorem ABlk.set0 {w : World} {g : Nat} {s : List UInt8} (h : ABlk w g s 0) : ABlk (w.setCell ⟨g, 0, none⟩ (.int .i64 (num4 s 0))) g s 1 := Box.set h 0 _
theorem ABlk.set1 {w : World} {g : Nat} {s : List UInt8} (h : ABlk w g s 1) : ABlk (w.setCell ⟨g, 1, none⟩ (.int .i64 (num4 s 1))) g s 2 := Box.set h 1 _
theorem ABlk.set2 {w : World} {g : Nat} {s : List UInt8} (h : ABlk w g s 2) : ABlk (w.setCell ⟨g, 2, none⟩ (.int .i64 (num4 s 2))) g s 3 := Box.set h 2 _
theorem ABlk.cells {w : World} {g : Nat} {s : List UInt8} (h : ABlk w g s 3) : w.cell? ⟨g, 0, none⟩ = some (.int .i64 (num4 s 0)) ∧ w.cell? ⟨g, 1, none⟩ = some (.int .i64 (num4 s 1)) ∧ w.cell? ⟨g, 2, none⟩ = some (.int .i64 (num4 s 2)) :=
  ⟨Box.cell h 0 rfl, Box.cell h 1 rfl, Box.cell h 2 rfl⟩

theorem num4_drop (s : List UInt8) (k : Nat) (x : ByteArray) (h : x.data.toList = s.drop (4 * k)) : val (x.data.toList.take 4) = num4 s k := by rw [h]; rfl
theorem drop_next (s : List UInt8) (k : Nat) (x : ByteArray) (h : x.data.toList = s.drop (4 * k)) : (x.extract 4 x.size).data.toList = s.drop (4 * (k + 1)) := by
  have e : x.data.toList.length = x.size := by simp
  rw [ByteArray.data_extract, Array.toList_extract, List.extract_eq_take_drop, List.take_of_length_le (by rw [List.length_drop, e]; exact Nat.le_refl _), h, List.drop_drop]
  congr 1
theorem pars_short {s : List UInt8} (h : s.length < 12) : parsB s = false := by unfold parsB; rw [decide_eq_false (by omega)]; rfl
theorem pars_long {s : List UInt8} (h : 12 < s.length) : parsB s = false := by unfold parsB; rw [decide_eq_false (by omega)]; rfl
theorem pars_great {s : List UInt8} {k : Nat} (hk : k < 3) (h : 2147483647 < num4 s k) : parsB s = false := by
  unfold parsB
  rcases (show k = 0 ∨ k = 1 ∨ k = 2 by omega) with rfl | rfl | rfl
  · rw [decide_eq_false (show ¬ num4 s 0 ≤ 2147483647 by omega)]; simp
  · rw [decide_eq_false (show ¬ num4 s 1 ≤ 2147483647 by omega)]; simp
  · rw [decide_eq_false (show ¬ num4 s 2 ≤ 2147483647 by omega)]; simp
theorem pars_yes {s : List UInt8} (h : s.length = 12) (hk : ∀ j, j < 3 → num4 s j ≤ 2147483647) : parsB s = true := by
  unfold parsB
  rw [decide_eq_true h, decide_eq_true (hk 0 (by omega)), decide_eq_true (hk 1 (by omega)), decide_eq_true (hk 2 (by omega))]
  rfl
theorem parsR_no {s : List UInt8} (h : parsB s = false) : parsR s = rt0 := by unfold parsR; rw [h]; rfl

set_option maxHeartbeats 2000000 in
set_option maxRecDepth 100000 in
theorem rpars_any (s : ByteArray) (w : World) (hs : s.size ≤ maxLen) :
    Calls Try.prog 29 #[.string s] w fun e w' => e = .returned (.tuple #[(parsR s.data.toList).v, .bool (parsB s.data.toList)]) ∧ Below w.heap.size w w' := by
  unfold maxLen at hs
  have HF := Lib.hid (below_two w (.cells #[.int .i64 0, .int .i64 0, .int .i64 0] 27) (.cells #[.int .i64 0, .int .i64 0, .int .i64 0] 83))
  have HO := Lib.hid (show RBlk ((w.alloc (.cells #[.int .i64 0, .int .i64 0, .int .i64 0] 27)).alloc (.cells #[.int .i64 0, .int .i64 0, .int .i64 0] 83)) w.heap.size rt0 from Box.push (Box.fresh _ _ _) _)
  have HL := Lib.hid (ABlk.laid w s.data.toList (.cells #[.int .i64 0, .int .i64 0, .int .i64 0] 27))
  obtain ⟨l, hl⟩ : ∃ l, l = s.data.toList := ⟨_, rfl⟩
  rw [← hl] at HL ⊢
  have hlen : l.length = s.size := by rw [hl]; simp
  have H0 := Lib.hid (show s.data.toList = l.drop (4 * 0) by rw [← hl]; rfl)
  clear hl
  go_enter Try.func29, Try.ntmps29
  go_wp2
  go_loopw [0, 9] (fun t i wr => ∃ (k : Nat) (x : ByteArray), i = .int .i64 k ∧ k ≤ 3 ∧ t = .string x ∧ x.data.toList = l.drop (4 * k) ∧ x.size + 4 * k = l.length ∧ (∀ j, j < k → num4 l j ≤ 2147483647) ∧ RBlk wr w.heap.size rt0 ∧ ABlk wr (w.heap.size + 1) l k ∧ Below w.heap.size w wr) (fun _ i _ => (3 - intOf i).toNat)
  case atStart => exact ⟨0, s, rfl, by omega, rfl, H0.out, by omega, by omega, HO.out, HL.out, HF.out⟩
  case round =>
    obtain ⟨k, x, rfl, hk, rfl, hx, hxl, hall, ho, ha, hb⟩ := hrel
    have HX := Lib.hid hx
    have HALL := Lib.hid hall
    have HO2 := Lib.hid ho
    have HA := Lib.hid ha
    have HB := Lib.hid hb
    have hz := Box.lt ha
    have hz0 := Box.lt ho
    clear hx hall ho ha hb HL HO HF H0
    by_cases hk3 : k < 3
    · by_cases h4 : x.size < 4
      · have HN := Lib.hid (pars_short (s := l) (by omega))
        go_wp2_with fail
        refine (take_short x 4 _ (by omega) (by omega) (by omega)).mono ?_
        rintro e w1 ⟨rfl, hb1⟩
        have HO3 := Lib.hid (show RBlk w1 w.heap.size rt0 from Box.on HO2.out hb1)
        have HB3 := Lib.hid (HB.out.trans (hb1.mono HB.out.size))
        clear hb1
        have hz3 := Box.lt HO3.out
        have f0 := Box.free HO3.out 0
        have f1 := Box.free HO3.out 1
        have f2 := Box.free HO3.out 2
        obtain ⟨c0, c1, c2⟩ := RBlk.cells HO3.out
        go_wp2
        obtain ⟨wz, hwz, hrz, hbz⟩ := HO3.out.put3 HB3.out (Nat.le_refl _) 0 0 0
        rw [hwz]
        obtain ⟨p0, p1, p2⟩ := RBlk.cells hrz
        exact bodyPost_ret (v := .tuple #[rt0.v, .bool false]) (by simp [results, Try.results29, go_sem, Rt.v, rt0, p0, p1, p2]) rfl ⟨by rw [HN.out, parsR_no HN.out], hbz⟩
      · have htk := fun wx => take_ok x 4 wx (by omega) (by omega) (by omega)
        rw [num4_drop l k x HX.out] at htk
        have HTK := Lib.hid htk
        clear htk
        have hlt := num4_lt l k
        obtain ⟨v, hv⟩ : ∃ v, v = num4 l k := ⟨_, rfl⟩
        rw [← hv] at HTK hlt
        have HV := Lib.hid hv
        clear hv
        by_cases hg : 2147483647 < v
        · have HN := Lib.hid (pars_great (s := l) hk3 (by rw [← HV.out]; exact hg))
          have hgt : decide ((2147483647 : Int) < v) = true := decide_eq_true (by omega)
          go_wp2_with fail
          refine (HTK.out _).mono ?_
          rintro e w1 ⟨rfl, hb1⟩
          have HO3 := Lib.hid (show RBlk w1 w.heap.size rt0 from Box.on HO2.out hb1)
          have HB3 := Lib.hid (HB.out.trans (hb1.mono HB.out.size))
          clear hb1
          have hz3 := Box.lt HO3.out
          have f0 := Box.free HO3.out 0
          have f1 := Box.free HO3.out 1
          have f2 := Box.free HO3.out 2
          obtain ⟨c0, c1, c2⟩ := RBlk.cells HO3.out
          go_wp2
          obtain ⟨wz, hwz, hrz, hbz⟩ := HO3.out.put3 HB3.out (Nat.le_refl _) 0 0 0
          rw [hwz]
          obtain ⟨p0, p1, p2⟩ := RBlk.cells hrz
          exact bodyPost_ret (v := .tuple #[rt0.v, .bool false]) (by simp [results, Try.results29, go_sem, Rt.v, rt0, p0, p1, p2]) rfl ⟨by rw [HN.out, parsR_no HN.out], hbz⟩
        · have hgt : decide ((2147483647 : Int) < v) = false := decide_eq_false (by omega)
          have hv64 : IntKind.i64.wrap (v : Int) = v := IntWalk.i64_in _ (by omega)
          have HD := Lib.hid (drop_next l k x HX.out)
          have hxs : (x.extract 4 x.size).size + 4 * (k + 1) = l.length := by rw [ByteArray.size_extract]; omega
          generalize x.extract 4 x.size = y at *
          have HYS := Lib.hid hxs
          clear hxs
          have HALL2 := Lib.hid (show ∀ j, j < k + 1 → num4 l j ≤ 2147483647 from fun j hj => by
            by_cases hjk : j = k
            · subst hjk; rw [← HV.out]; omega
            · exact HALL.out j (by omega))
          go_wp2_with fail
          refine (HTK.out _).mono ?_
          rintro e w1 ⟨rfl, hb1⟩
          have HO3 := Lib.hid (show RBlk w1 w.heap.size rt0 from Box.on HO2.out hb1)
          have HA3 := Lib.hid (show ABlk w1 (w.heap.size + 1) l k from Box.on HA.out hb1)
          have HB3 := Lib.hid (HB.out.trans (hb1.mono HB.out.size))
          clear hb1 HTK
          have hz3 := Box.lt HA3.out
          rcases (show k = 0 ∨ k = 1 ∨ k = 2 by omega) with rfl | rfl | rfl
          · have f0 := Box.free HA3.out 0
            have c0 := Box.cell HA3.out 0 rfl
            go_wp2
            go_roundw
            case rel => exact ⟨1, y, rfl, by omega, rfl, HD.out, HYS.out, HALL2.out, Box.away HO3.out (by simp) _, by rw [HV.out]; exact HA3.out.set0, HB3.out.setCell (by simp) _⟩
            case measure => simp [intOf]
          · have f0 := Box.free HA3.out 1
            have c0 := Box.cell HA3.out 1 rfl
            go_wp2
            go_roundw
            case rel => exact ⟨2, y, rfl, by omega, rfl, HD.out, HYS.out, HALL2.out, Box.away HO3.out (by simp) _, by rw [HV.out]; exact HA3.out.set1, HB3.out.setCell (by simp) _⟩
            case measure => simp [intOf]
          · have f0 := Box.free HA3.out 2
            have c0 := Box.cell HA3.out 2 rfl
            go_wp2
            go_roundw
            case rel => exact ⟨3, y, rfl, by omega, rfl, HD.out, HYS.out, HALL2.out, Box.away HO3.out (by simp) _, by rw [HV.out]; exact HA3.out.set2, HB3.out.setCell (by simp) _⟩
            case measure => simp [intOf]
    · obtain rfl : k = 3 := by omega
      have f0 := Box.free HO2.out 0
      have f1 := Box.free HO2.out 1
      have f2 := Box.free HO2.out 2
      obtain ⟨c0, c1, c2⟩ := RBlk.cells HO2.out
      by_cases h12 : x.size = 0
      · have HY := Lib.hid (pars_yes (s := l) (by omega) HALL.out)
        obtain rfl : x = ⟨#[]⟩ := ByteArray.ext (Array.eq_empty_of_size_eq_zero h12)
        obtain ⟨a0, a1, a2⟩ := ABlk.cells HA.out
        have ss := str_eq (x := (⟨#[]⟩ : ByteArray)) rfl
        go_wp2
        obtain ⟨wz, hwz, hrz, hbz⟩ := HO2.out.put3 HB.out (Nat.le_refl _) (num4 l 0) (num4 l 1) (num4 l 2)
        rw [hwz]
        obtain ⟨p0, p1, p2⟩ := RBlk.cells hrz
        exact bodyPost_ret (v := .tuple #[(pars l).v, .bool true]) (by simp [results, Try.results29, go_sem, Rt.v, pars, p0, p1, p2]) rfl ⟨by rw [HY.out]; unfold parsR; rw [HY.out]; rfl, hbz⟩
      · have HN := Lib.hid (pars_long (s := l) (by omega))
        have ss := nonempty_str h12
        go_wp2
        obtain ⟨wz, hwz, hrz, hbz⟩ := HO2.out.put3 HB.out (Nat.le_refl _) 0 0 0
        rw [hwz]
        obtain ⟨p0, p1, p2⟩ := RBlk.cells hrz
        exact bodyPost_ret (v := .tuple #[rt0.v, .bool false]) (by simp [results, Try.results29, go_sem, Rt.v, rt0, p0, p1, p2]) rfl ⟨by rw [HN.out, parsR_no HN.out], hbz⟩

end Go.Proofs.Ythcolmdfpciolaa
