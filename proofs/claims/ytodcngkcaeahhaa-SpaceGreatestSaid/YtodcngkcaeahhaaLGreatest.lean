/- The walk of SpaceGreatest. -/
import Derived.Test.YtodcngkcaeahhaaAwake
namespace Go.Proofs.Ytodcngkcaeahhaa
open Go.RowKit

set_option maxHeartbeats 2000000 in
set_option maxRecDepth 100000 in
theorem greatest_walk (n f t : Int) (A : Option Addr) (c : Nat) (l : List Ex) (w : World) (hA : Exs w w.heap.size A l) (hn : l.length ≤ maxLen) :
    Calls Try.prog 8 #[.int .i64 n, .int .i64 f, .int .i64 t, .slice A l.length c] w fun e w' => e = .returned (.bool true) ∧ Below w.heap.size w w' := by
  unfold maxLen at hn
  by_cases h30 : l.length ≤ 30
  · by_cases h1 : n < 1
    · generalize l.length = m at *
      clear hA
      have g0 : ¬ (m : Int) > 30 := by omega
      go_enter Try.func8, Try.ntmps8
      go_wp2_with fail
      refine (awake_true _).mono ?_
      rintro e w1 ⟨rfl, hb1⟩
      go_wp2
      go_ret
      exact ⟨rfl, hb1⟩
    · by_cases h2 : n > 2147483647
      · generalize l.length = m at *
        clear hA
        have g0 : ¬ (m : Int) > 30 := by omega
        go_enter Try.func8, Try.ntmps8
        go_wp2_with fail
        refine (awake_true _).mono ?_
        rintro e w1 ⟨rfl, hb1⟩
        go_wp2
        go_ret
        exact ⟨rfl, hb1⟩
      · have hri := right_any f t A c l w hA (by omega)
        by_cases hok : Ok f t l
        · rw [decide_eq_true hok] at hri
          have HFR := Lib.hid (fun w1 (h : Below w.heap.size w w1) => free_any f t A c l w1 (Lies.on hA h) (by omega))
          have HFI := Lib.hid (fun n w1 (h : Below w.heap.size w w1) => fit_any n f t A c l w1 (Lies.on hA h) (by omega))
          have hfl := free_len f t l
          obtain ⟨m1, m2, m3⟩ := most_facts hok
          have HM := Lib.hid m3
          generalize l.length = m at *
          have g0 : ¬ (m : Int) > 30 := by omega
          clear hA hok m3
          go_enter Try.func8, Try.ntmps8
          go_wp2_with fail
          refine hri.mono ?_
          clear hri
          rintro e w1 ⟨rfl, hb1⟩
          have hfr := HFR.out w1 hb1
          clear HFR
          go_wp2_with fail
          refine hfr.mono ?_
          clear hfr
          rintro e w2 ⟨A2, c2, rfl, hF, hb2⟩
          have HF := Lib.hid hF
          have hb02 := hb1.trans (hb2.mono hb1.size)
          generalize freeL f t l = F at *
          generalize hl : F.length = fl at *
          have HL := Lib.hid hl
          clear hF hl hb1 hb2
          go_wp2
          go_loopw [9, 40] (fun s i wr => ∃ (k : Nat), s = .int .i64 (mostL (F.take k)) ∧ i = .int .i64 k ∧ k ≤ fl ∧ Below w2.heap.size w2 wr) (fun _ i _ => (fl - intOf i).toNat)
          case atStart => exact ⟨0, rfl, rfl, by omega, Below.refl _ _⟩
          case round =>
            obtain ⟨k, rfl, rfl, hk, hbr⟩ := hrel
            by_cases hlt : k < fl
            · obtain ⟨ad, rfl, hab, hca⟩ := (HF.out.below hbr).seeE (by rw [HL.out]; omega)
              obtain ⟨x1, x2⟩ := hca k (by rw [HL.out]; omega)
              have HT := Lib.hid (most_take F k (by rw [HL.out]; omega))
              obtain ⟨x, hx⟩ : ∃ x, x = F[k]'(by rw [HL.out]; omega) := ⟨_, rfl⟩
              rw [← hx] at x1 x2 HT
              clear hx hca
              obtain ⟨xa, xn⟩ := x
              simp only at x1 x2 HT
              have hlt3 : (ad.add (k * 2)).block < w2.heap.size := by rw [block_of_add]; exact hab
              have hlw := hbr.size
              generalize mostL (F.take k) = q at *
              go_wp2
              go_roundw
              case rel => exact ⟨k + 1, by rw [HT.out], by go_num, by omega, hbr.alloc hbr.size _⟩
              case measure => simp [intOf]; omega
            · have HE := Lib.hid (show mostL (F.take k) = mostL F by rw [List.take_of_length_le (by rw [HL.out]; omega)])
              rw [HE.out]
              have hb03 := hb02.trans (hbr.mono hb02.size)
              have hfi := HFI.out n wr hb03
              generalize mostL F = q at *
              clear hbr
              by_cases hle : n ≤ q
              · obtain ⟨p, hp⟩ := (HM.out n (by omega) (by omega)).2 hle
                obtain ⟨p2, hp2⟩ := (HM.out q (by omega) (by omega)).2 (Int.le_refl _)
                rw [hp] at hfi
                have HFI2 := Lib.hid (fun w1 (h : Below w.heap.size w w1) => (show Calls Try.prog 12 _ w1 fun e w' => e = .returned (.tuple #[.agg #[.int .i64 p2, .int .i64 q], .int .i64 0]) ∧ Below w1.heap.size w1 w' by have h1 := HFI.out q w1 h; rw [hp2] at h1; exact h1))
                clear hp hp2 HM HFI
                have gq : ¬ q = 0 := by omega
                go_wp2_with fail
                refine hfi.mono ?_
                clear hfi
                rintro e w4 ⟨rfl, hb4⟩
                have hb04 := (hb03.trans (hb4.mono hb03.size))
                have hb05 := hb04.alloc hb04.size (.cells #[.int .i64 p, .int .i64 n] 27)
                have hf2 := HFI2.out _ hb05
                simp only
                go_wp2_with fail
                refine hf2.mono ?_
                clear hf2 HFI2
                rintro e w5 ⟨rfl, hb5⟩
                have hb06 := hb05.trans (hb5.mono hb05.size)
                have hb07 := hb06.alloc hb06.size (.cells #[.int .i64 p2, .int .i64 q] 27)
                clear hb4 hb5
                go_wp2_with fail
                refine (awake_true _).mono ?_
                rintro e w6 ⟨rfl, hb8⟩
                go_wp2
                go_ret
                exact ⟨rfl, hb07.trans (hb8.mono hb07.size)⟩
              · by_cases hq0 : q = 0
                · have hp := (HM.out n (by omega) (by omega)).1 (by omega)
                  rw [hp] at hfi
                  clear hp HM HFI
                  go_wp2_with fail
                  refine hfi.mono ?_
                  clear hfi
                  rintro e w4 ⟨rfl, hb4⟩
                  have hb04 := (hb03.trans (hb4.mono hb03.size))
                  have hb05 := hb04.alloc hb04.size (.cells #[.int .i64 0, .int .i64 0] 27)
                  simp only
                  go_wp2_with fail
                  refine (awake_true _).mono ?_
                  rintro e w6 ⟨rfl, hb8⟩
                  go_wp2
                  go_ret
                  exact ⟨rfl, hb05.trans (hb8.mono hb05.size)⟩
                · have hp := (HM.out n (by omega) (by omega)).1 (by omega)
                  obtain ⟨p2, hp2⟩ := (HM.out q (by omega) (by omega)).2 (Int.le_refl _)
                  rw [hp] at hfi
                  have HFI2 := Lib.hid (fun w1 (h : Below w.heap.size w w1) => (show Calls Try.prog 12 _ w1 fun e w' => e = .returned (.tuple #[.agg #[.int .i64 p2, .int .i64 q], .int .i64 0]) ∧ Below w1.heap.size w1 w' by have h1 := HFI.out q w1 h; rw [hp2] at h1; exact h1))
                  clear hp hp2 HM HFI
                  go_wp2_with fail
                  refine hfi.mono ?_
                  clear hfi
                  rintro e w4 ⟨rfl, hb4⟩
                  have hb04 := (hb03.trans (hb4.mono hb03.size))
                  have hb05 := hb04.alloc hb04.size (.cells #[.int .i64 0, .int .i64 0] 27)
                  have hf2 := HFI2.out _ hb05
                  simp only
                  go_wp2_with fail
                  refine hf2.mono ?_
                  clear hf2 HFI2
                  rintro e w5 ⟨rfl, hb5⟩
                  have hb06 := hb05.trans (hb5.mono hb05.size)
                  have hb07 := hb06.alloc hb06.size (.cells #[.int .i64 p2, .int .i64 q] 27)
                  clear hb4 hb5
                  go_wp2_with fail
                  refine (awake_true _).mono ?_
                  rintro e w6 ⟨rfl, hb8⟩
                  go_wp2
                  go_ret
                  rw [decide_eq_false (show ¬ n ≤ q by omega)]
                  exact ⟨rfl, hb07.trans (hb8.mono hb07.size)⟩
        · rw [decide_eq_false hok] at hri
          generalize l.length = m at *
          clear hA hok
          have g0 : ¬ (m : Int) > 30 := by omega
          go_enter Try.func8, Try.ntmps8
          go_wp2_with fail
          refine hri.mono ?_
          clear hri
          rintro e w0 ⟨rfl, hb0⟩
          go_wp2_with fail
          refine (awake_true _).mono ?_
          rintro e w1 ⟨rfl, hb1⟩
          go_wp2
          go_ret
          exact ⟨rfl, hb0.trans (hb1.mono hb0.size)⟩
  · generalize l.length = m at *
    clear hA
    have g0 : (m : Int) > 30 := by omega
    go_enter Try.func8, Try.ntmps8
    go_wp2_with fail
    refine (awake_true _).mono ?_
    rintro e w1 ⟨rfl, hb1⟩
    go_wp2
    go_ret
    exact ⟨rfl, hb1⟩

end Go.Proofs.Ytodcngkcaeahhaa
