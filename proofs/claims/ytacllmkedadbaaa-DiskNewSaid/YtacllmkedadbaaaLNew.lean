/- The walk of the law DiskNew. -/
import Derived.Test.YtacllmkedadbaaaAwake
namespace Go.Proofs.Ytacllmkedadbaaa
open Go.RowKit

theorem flat_zero (n : Nat) : flatS (List.replicate n zeroS) = ⟨(List.replicate (32 * n) 0).toArray⟩ := by
  unfold flatS
  congr 2
  induction n with
  | zero => rfl
  | succ n ih =>
    rw [List.replicate_succ, List.map_cons, List.flatten_cons, ih]
    have e : zeroS.data.toList = List.replicate 32 0 := rfl
    rw [e, List.replicate_append_replicate]
    congr 1
    omega

set_option maxHeartbeats 2000000 in
set_option maxRecDepth 100000 in
theorem new_walk (n : Int) (w : World) :
    Calls Try.prog 3 #[.int .i64 n] w fun e w' => e = .returned (.bool true) ∧ Below w.heap.size w w' := by
  by_cases hok : 1 ≤ n ∧ n ≤ 512
  · obtain ⟨k, rfl⟩ := Int.eq_ofNat_of_zero_le (by omega : 0 ≤ n)
    have hk1 : 1 ≤ k := by omega
    have hk2 : k ≤ 512 := by omega
    have hn1 : ¬ (k : Int) < 1 := by omega
    have hn2 : ¬ (512 : Int) < k := by omega
    clear hok
    have hnew := new_ok k w hk1 hk2
    go_enter Try.func3, Try.ntmps3
    go_wp2_with fail
    refine hnew.mono ?_
    clear hnew
    rintro e w1 ⟨v1, rfl, hv1, hb1⟩
    obtain ⟨A1, c1, B1, d1, rfl, hA1, hB1⟩ := hv1
    rw [List.length_replicate, show ([] : List Wr).length = 0 from rfl]
    have HV1 := Lib.hid (show DV w1 (.agg #[.slice A1 k c1, .slice B1 0 d1]) (List.replicate k zeroS) [] from ⟨A1, c1, B1, d1, by rw [List.length_replicate]; rfl, hA1, hB1⟩)
    have hb2 : Below w1.heap.size w1 (w1.alloc (.cells #[.slice A1 k c1, .slice B1 0 d1] 25)) := (Below.refl _ _).alloc (Nat.le_refl _) _
    have HV2 := Lib.hid (HV1.out.on hb2)
    have HB2 := Lib.hid (hb1.trans (hb2.mono hb1.size))
    have HD2 := Lib.hid (show DBlk (w1.alloc (.cells #[.slice A1 k c1, .slice B1 0 d1] 25)) w1.heap.size A1 k c1 B1 0 d1 from Box.fresh _ _ _)
    clear hA1 hB1 hb1 hb2 HV1
    have hrd := read_dv (a := 0) (k := k) HV2.out (by simp) (zero_right k hk2 hk1) (by simp)
    rw [done_nil, List.drop_zero, List.take_of_length_le (by simp), flat_zero] at hrd
    have hsz : (⟨(List.replicate (32 * k) 0).toArray⟩ : ByteArray).size = 32 * k := by simp [ByteArray.size]
    have hzz : ∀ i, i < 32 * k → (⟨(List.replicate (32 * k) 0).toArray⟩ : ByteArray)[i]? = some 0 := fun i hi => by
      rw [getElem?_pos _ i (by rw [hsz]; exact hi)]
      simp [ByteArray.getElem_eq_getElem_data]
    generalize (⟨(List.replicate (32 * k) 0).toArray⟩ : ByteArray) = s at *
    have HZZ := Lib.hid hzz
    have HSZ := Lib.hid hsz
    clear hzz
    go_wp2_with fail
    refine hrd.mono ?_
    clear hrd
    rintro e w3 ⟨rfl, hb3⟩
    have HV3 := Lib.hid (HV2.out.on hb3)
    have HB3 := Lib.hid (HB2.out.trans (hb3.mono HB2.out.size))
    have HD3 := Lib.hid (show DBlk w3 w1.heap.size A1 k c1 B1 0 d1 from Box.on HD2.out hb3)
    clear hb3 HV2 HB2 HD2
    have hss : (s.size : Int) = 32 * k := by omega
    go_wp2
    go_loopw [38] (fun i wr => ∃ (j : Nat), i = .int .i64 j ∧ j ≤ s.size ∧ DV wr (.agg #[.slice A1 k c1, .slice B1 0 d1]) (List.replicate k zeroS) [] ∧ DBlk wr w1.heap.size A1 k c1 B1 0 d1 ∧ Below w.heap.size w wr) (fun i _ => (s.size - intOf i).toNat)
    case atStart => exact ⟨0, rfl, Nat.zero_le _, HV3.out, HD3.out, HB3.out⟩
    clear HV3 HD3 HB3
    case round =>
      obtain ⟨j, rfl, hj, hv3, hd3, hb3⟩ := hrel
      have HV3 := Lib.hid hv3
      have HD3 := Lib.hid hd3
      have HB3 := Lib.hid hb3
      clear hv3 hd3 hb3
      by_cases hlt : j < s.size
      · have hq : (((s[j]'hlt).toNat : Int) != 0) = false := by
          have hx := HZZ.out j (by omega)
          rw [getElem?_pos s j hlt] at hx
          injection hx with hx
          rw [hx]; rfl
        go_wp2
        go_roundw
        case rel => exact ⟨j + 1, by go_num, by omega, HV3.out, HD3.out, HB3.out⟩
        case measure => simp [intOf]; omega
      · obtain ⟨k0, k1⟩ := DBlk.cells HD3.out
        have hrt := right_dv HV3.out (by simp; omega) (by simp)
        rw [zero_right k hk2 hk1] at hrt
        have hmul : IntKind.i64.wrap (32 * (k : Int)) = 32 * (k : Int) := IntWalk.i64_in _ (by omega)
        go_wp2_with fail
        refine hrt.mono ?_
        clear hrt
        rintro e w4 ⟨rfl, hb4⟩
        have HB4 := Lib.hid (HB3.out.trans (hb4.mono HB3.out.size))
        clear hb4 k0 k1
        go_wp2_with fail
        refine (awake_true _).mono ?_
        rintro e w9 ⟨rfl, hb9⟩
        go_wp2
        go_ret
        exact ⟨rfl, HB4.out.trans (hb9.mono HB4.out.size)⟩
  · have hnew := new_bad n w hok
    go_enter Try.func3, Try.ntmps3
    go_wp2_with fail
    refine hnew.mono ?_
    clear hnew
    rintro e w1 ⟨rfl, hb1⟩
    have HB1 := Lib.hid (hb1.alloc hb1.size (.cells #[.slice none 0 0, .slice none 0 0] 25))
    clear hb1
    by_cases h1 : n < 1
    · go_wp2_with fail
      refine (awake_true _).mono ?_
      rintro e w9 ⟨rfl, hb9⟩
      go_wp2
      go_ret
      exact ⟨rfl, HB1.out.trans (hb9.mono HB1.out.size)⟩
    · have h2 : 512 < n := by omega
      go_wp2_with fail
      refine (awake_true _).mono ?_
      rintro e w9 ⟨rfl, hb9⟩
      go_wp2
      go_ret
      exact ⟨rfl, HB1.out.trans (hb9.mono HB1.out.size)⟩

end Go.Proofs.Ytacllmkedadbaaa
