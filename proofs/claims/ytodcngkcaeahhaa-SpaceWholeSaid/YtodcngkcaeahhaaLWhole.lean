/- The walk of SpaceWhole. -/
import Derived.Test.YtodcngkcaeahhaaApp
namespace Go.Proofs.Ytodcngkcaeahhaa
open Go.RowKit

set_option maxHeartbeats 4000000 in
set_option maxRecDepth 100000 in
theorem whole_walk (f t : Int) (A : Option Addr) (c : Nat) (l : List Ex) (w : World) (hA : Exs w w.heap.size A l) (hn : l.length ≤ maxLen) (hz : A = none → c = 0) :
    Calls Try.prog 5 #[.int .i64 f, .int .i64 t, .slice A l.length c] w fun e w' => e = .returned (.bool true) ∧ Below w.heap.size w w' := by
  unfold maxLen at hn
  by_cases h30 : l.length ≤ 30
  · have hri := right_any f t A c l w hA (by omega)
    have HFR := Lib.hid (fun w1 (h : Below w.heap.size w w1) => free_any f t A c l w1 (Lies.on hA h) (by omega))
    by_cases hok : Ok f t l
    · rw [decide_eq_true hok] at hri
      obtain ⟨k1, k2⟩ := whole_ok hok
      have k3 := left_sum hok
      have hfl := free_len f t l
      have HAP := Lib.hid (free_apart f t l)
      have HLE := Lib.hid (fun w1 (h : Below w.heap.size w w1) => left_any f t A c l w1 (Lies.on hA h) (by omega))
      have HRA := Lib.hid (fun A' c' w1 (h : Exs w1 w1.heap.size A' (l ++ freeL f t l)) => right_any f t A' c' (l ++ freeL f t l) w1 h (by simp; omega))
      have HLA := Lib.hid (fun A' c' w1 (h : Exs w1 w1.heap.size A' (l ++ freeL f t l)) => left_any f t A' c' (l ++ freeL f t l) w1 h (by simp; omega))
      rw [decide_eq_true k1] at HRA
      rw [k2] at HLA
      rw [k3] at HLE
      have HSF := Lib.hid (fun k => sum_front (l := l) (fun x hx => (hok.2.1 x hx).2.1) k)
      have HPO := Lib.hid (fun g (h : g ∈ freeL f t l) => (free_sound hok h).1)
      have hlb := left_bound f t l
      rw [k3] at hlb
      obtain ⟨a1, a2, a3⟩ := hok.1
      have HA := Lib.hid hA
      generalize hF : freeL f t l = F at *
      have hlen : (l ++ F).length = l.length + F.length := by simp
      rw [hlen] at HRA HLA
      generalize hl : l.length = m at *
      have HM := Lib.hid hl
      have g0 : ¬ (m : Int) > 30 := by omega
      clear hA hok k1 k2 k3 hF hl hlen
      go_enter Try.func5, Try.ntmps5
      go_wp2_with fail
      refine hri.mono ?_
      clear hri
      rintro e w1 ⟨rfl, hb1⟩
      have hfr := HFR.out w1 hb1
      clear HFR
      go_wp2_with fail
      refine hfr.mono ?_
      clear hfr
      rintro e w2 ⟨A2, c2, rfl, hF, hb2, hz2⟩
      have hb02 := hb1.trans (hb2.mono hb1.size)
      have HF := Lib.hid hF
      generalize hl : F.length = fl at *
      have HL := Lib.hid hl
      clear hF hl hb1 hb2
      have HA2 := Lib.hid (Lies.on HA.out hb02)
      go_wp2_with (at_builtin; refine append_exs _ rfl _ _ rfl w2.heap.size _ 0 [] rfl (World.ownsRow_made w2 #[] 0 (Nat.le_refl _) (Nat.zero_le _) rfl) _ A m c l rfl HM.out (Lies.on HA2.out ((Below.refl _ _).alloc (Nat.le_refl _) _)) hz ?c4 ?c5 ?_)
      case c4 => omega
      case c5 => simp
      intro v3 w3 hown3 hg3
      have hb23 : Below w2.heap.size w2 w3 := ((Below.refl _ w2).alloc (Nat.le_refl _) _).grown hg3 (by simp) (by intro k hk; simp [Value.ownBlock] at hk; omega)
      obtain ⟨A3, c3, rfl⟩ := own_shape hown3
      have HO3 := Lib.hid hown3
      have hlt3 := hb23.size
      have HLT := Lib.hid (fun k hk => (hown3.lt k hk))
      clear hown3 hg3
      go_wp2_with (at_builtin; refine append_exs _ rfl _ _ rfl w2.heap.size _ m _ rfl HO3.out _ A2 fl c2 F rfl HL.out (Lies.on HF.out hb23) hz2 ?c4 ?c5 ?_)
      case c4 => omega
      case c5 => omega
      intro v4 w4 hown4 hg4
      have hb24 : Below w2.heap.size w2 w4 := hb23.grown hg4 hb23.size (fun k hk => (HLT.out k hk).1)
      obtain ⟨A4, c4, rfl⟩ := own_shape hown4
      have HALL := Lib.hid (show Exs w4 w4.heap.size A4 (l ++ F) from Lies.own Ex.cells2 (n := m + fl) (c := c4) (e := 27) (base := w2.heap.size) (by simpa [HM.out, HL.out] using hown4))
      have HF4 := Lib.hid (Lies.on HF.out hb24)
      have HA4 := Lib.hid (Lies.on HA2.out hb24)
      have hb04 := hb02.trans (hb24.mono hb02.size)
      clear hown4 hg4 hb24 hb23 HF HA2 HO3 HLT
      go_wp2
      go_loopw [9, 48] (fun s i wr => ∃ (k : Nat), s = .int .i64 (sumL (l.take k)) ∧ i = .int .i64 k ∧ k ≤ m ∧ Below w4.heap.size w4 wr) (fun _ i _ => (m - intOf i).toNat)
      case atStart => exact ⟨0, rfl, rfl, by omega, Below.refl _ _⟩
      case round =>
        obtain ⟨k, rfl, rfl, hk, hbr⟩ := hrel
        by_cases hlt : k < m
        · obtain ⟨ad, rfl, hab, hca⟩ := (HA4.out.below hbr).seeE (by rw [HM.out]; omega)
          obtain ⟨x1, x2⟩ := hca k (by rw [HM.out]; omega)
          have HT := Lib.hid (sumL_take l k (by rw [HM.out]; omega))
          have hp1 := HSF.out k
          have hp2 := HSF.out (k + 1)
          rw [HT.out] at hp2
          obtain ⟨x, hx⟩ : ∃ x, x = l[k]'(by rw [HM.out]; omega) := ⟨_, rfl⟩
          rw [← hx] at x1 x2 HT hp2
          clear hx hca
          obtain ⟨xa, xn⟩ := x
          simp only at x1 x2 hp2 HT
          have hlt3 : (ad.add (k * 2)).block < w4.heap.size := by rw [block_of_add]; exact hab
          have hlw := hbr.size
          generalize sumL (l.take k) = q at *
          go_wp2
          go_roundw
          case rel => exact ⟨k + 1, by rw [HT.out], by go_num, by omega, hbr.alloc hbr.size _⟩
          case measure => simp [intOf]; omega
        · have HE := Lib.hid (show sumL (l.take k) = sumL l by rw [List.take_of_length_le (by rw [HM.out]; omega)])
          rw [HE.out]
          have hsl := HSF.out m
          rw [List.take_of_length_le (by rw [HM.out]; omega)] at hsl
          generalize sumL l = q at *
          clear HE
          go_wp2
          go_loopw [59] (fun i wx => ∃ (k : Nat), i = .int .i64 k ∧ k ≤ fl ∧ Below wr.heap.size wr wx) (fun i _ => (fl - intOf i).toNat)
          case atStart => exact ⟨0, rfl, by omega, Below.refl _ _⟩
          case round =>
            obtain ⟨j, rfl, hj, hbx⟩ := hrel
            have hb4x := hbr.trans (hbx.mono hbr.size)
            by_cases hlt2 : j < fl
            · rcases j with _ | j
              · go_wp2
                go_quiet (fail)
                go_wp2
                go_roundw
                case rel => exact ⟨1, by go_num, by omega, below_drewN hbx _⟩
                case measure => simp [intOf]; omega
              · obtain ⟨ad, rfl, hab, hca⟩ := (HF4.out.below hb4x).seeE (by rw [HL.out]; omega)
                obtain ⟨x1, x2⟩ := hca j (by rw [HL.out]; omega)
                obtain ⟨y1, y2⟩ := hca (j + 1) (by rw [HL.out]; omega)
                have hap := List.pairwise_iff_getElem.1 HAP.out j (j + 1) (by rw [HL.out]; omega) (by rw [HL.out]; omega) (by omega)
                have hpo := HPO.out (F[j]'(by rw [HL.out]; omega)) (List.getElem_mem _)
                generalize F[j]'(by rw [HL.out]; omega) = x at *
                generalize F[j + 1]'(by rw [HL.out]; omega) = y at *
                obtain ⟨xa, xn⟩ := x
                obtain ⟨ya, yn⟩ := y
                obtain ⟨i1, i2, i3⟩ := hpo
                simp only [Apart] at x1 x2 y1 y2 hap i1 i2 i3
                clear hca
                have hq : ¬ (xa + xn ≥ ya) := by omega
                go_wp2
                go_quiet (fail)
                go_wp2
                go_roundw
                case rel => exact ⟨j + 1 + 1, by go_num, by omega, below_drewN hbx _⟩
                case measure => simp [intOf]; omega
            · have hb0x := hb04.trans (hb4x.mono hb04.size)
              have hra := HRA.out A4 c4 _ (Lies.on HALL.out hb4x)
              clear HRA
              go_wp2_with fail
              refine hra.mono ?_
              clear hra
              rintro e w5 ⟨rfl, hb5⟩
              have hla := HLA.out A4 c4 w5 (Lies.on (Lies.on HALL.out hb4x) hb5)
              clear HLA
              have hb05 := hb0x.trans (hb5.mono hb0x.size)
              go_wp2_with fail
              refine hla.mono ?_
              clear hla
              rintro e w6 ⟨rfl, hb6⟩
              have hb06 := hb05.trans (hb6.mono hb05.size)
              have hle := HLE.out w6 hb06
              clear HLE
              go_wp2_with fail
              refine hle.mono ?_
              clear hle
              rintro e w7 ⟨rfl, hb7⟩
              have hb07 := hb06.trans (hb7.mono hb06.size)
              go_wp2_with fail
              refine (awake_true _).mono ?_
              rintro e w8 ⟨rfl, hb8⟩
              go_wp2
              go_ret
              exact ⟨rfl, hb07.trans (hb8.mono hb07.size)⟩
    · rw [decide_eq_false hok] at hri
      rw [free_not hok] at HFR
      generalize l.length = m at *
      clear hA hok
      have g0 : ¬ (m : Int) > 30 := by omega
      go_enter Try.func5, Try.ntmps5
      go_wp2_with fail
      refine hri.mono ?_
      clear hri
      rintro e w1 ⟨rfl, hb1⟩
      have hfr := HFR.out w1 hb1
      clear HFR
      go_wp2_with fail
      refine hfr.mono ?_
      clear hfr
      rintro e w2 ⟨A2, c2, rfl, hF, hb2, hz2⟩
      have hb02 := hb1.trans (hb2.mono hb1.size)
      clear hF
      simp only [List.length_nil]
      go_wp2_with fail
      refine (awake_true _).mono ?_
      rintro e w3 ⟨rfl, hb3⟩
      go_wp2
      go_ret
      exact ⟨rfl, hb02.trans (hb3.mono hb02.size)⟩
  · generalize l.length = m at *
    clear hA
    have g0 : (m : Int) > 30 := by omega
    go_enter Try.func5, Try.ntmps5
    go_wp2_with fail
    refine (awake_true _).mono ?_
    rintro e w1 ⟨rfl, hb1⟩
    go_wp2
    go_ret
    exact ⟨rfl, hb1⟩

end Go.Proofs.Ytodcngkcaeahhaa
