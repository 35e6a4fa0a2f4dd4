/- The walk of the law RootNone. -/
import Derived.Test.YthcolmdfpciolaaAwake
namespace Go.Proofs.Ythcolmdfpciolaa
open Go.RowKit

theorem wrong_none {S : List ByteArray} {W : List Wr} (h : rightB S W = false) (a : Int) : readB S W a = false := by unfold readB tellB; rw [h]; rfl
theorem wrong_best {S : List ByteArray} {W : List Wr} (h : rightB S W = false) : bestB S W = false ∧ bestR S W = rt0 := by
  unfold bestB bestR
  rw [wrong_none h, wrong_none h, readR_none (wrong_none h 0)]
  exact ⟨rfl, rfl⟩
theorem DV.none (w : World) : DV w (.agg #[.slice none 0 0, .slice none 0 0]) [] [] := ⟨.none, 0, .none, 0, rfl, Strs.nil _ _ _, Lies.nil⟩

set_option maxHeartbeats 4000000 in
set_option maxRecDepth 100000 in
theorem none_walk (n a : Int) (w : World) :
    Calls Try.prog 7 #[.int .i64 n, .int .i64 a] w fun e w' => e = .returned (.bool true) ∧ Below w.heap.size w w' := by
  have key : ∃ (S : List ByteArray) (E : Int), S.length ≤ 512 ∧ (bestB S [] = false ∧ bestR S [] = rt0) ∧ readB S [] a = false ∧ ((E = 0 ∧ decide (1 ≤ n) = true ∧ decide (n ≤ 512) = true) ∨ (E = 1 ∧ decide (1 ≤ n) = true ∧ decide (n ≤ 512) = false) ∨ (E = 1 ∧ decide (1 ≤ n) = false)) ∧ Calls Try.prog 20 #[.int .i64 n] w fun e w' => ∃ v', e = .returned (.tuple #[v', .int .i64 E]) ∧ DV w' v' S [] ∧ Below w.heap.size w w' := by
    by_cases hok : 1 ≤ n ∧ n ≤ 512
    · obtain ⟨k, rfl⟩ := Int.eq_ofNat_of_zero_le (show 0 ≤ n by omega)
      exact ⟨List.replicate k zeroS, 0, by rw [List.length_replicate]; omega, zero_best k, zero_none k a, .inl ⟨rfl, decide_eq_true hok.1, decide_eq_true hok.2⟩, new_ok k w (by omega) (by omega)⟩
    · refine ⟨[], 1, by decide, wrong_best rfl, wrong_none rfl a, .inr ?_, (new_bad n w hok).mono ?_⟩
      · by_cases h1 : 1 ≤ n
        · exact .inl ⟨rfl, decide_eq_true h1, decide_eq_false fun h2 => hok ⟨h1, h2⟩⟩
        · exact .inr ⟨rfl, decide_eq_false h1⟩
      · rintro e w' ⟨rfl, hb⟩
        exact ⟨_, rfl, DV.none w', hb⟩
  obtain ⟨S, E, hS, hbst, hrd, hq, hnew⟩ := key
  have hbs := fun (wx : World) (v : Value) (h : DV wx v S []) => rbest_any h (by omega) (by decide)
  have hrs := fun (wx : World) (v : Value) (h : DV wx v S []) => rread_any (a := a) h (by omega) (by decide)
  unfold bestE at hbs
  rw [hbst.1, hbst.2] at hbs
  rw [readR_none hrd, hrd] at hrs
  simp only [Rt.v, rt0] at hbs hrs
  have HB := Lib.hid hbs
  have HR := Lib.hid hrs
  clear hS hbst hrd hbs hrs
  rcases hq with ⟨rfl, g1, g2⟩ | ⟨rfl, g1, g2⟩ | ⟨rfl, g1⟩
  all_goals
    go_enter Try.func7, Try.ntmps7
    go_wp2_with fail
    refine hnew.mono ?_
    clear hnew
    rintro e w1 ⟨v1, rfl, hv1, hb1⟩
    obtain ⟨A, c, B, d, rfl, hA, hB⟩ := hv1
    have hv1 : DV w1 _ S [] := ⟨A, c, B, d, rfl, hA, hB⟩
    rw [show ([] : List Wr).length = 0 from rfl] at hv1 ⊢
    generalize S.length = sn at *
    have H1 := Lib.hid (Holds.fresh hv1 hb1)
    clear hv1 hb1 hA hB
    go_wp2_with fail
    refine (HB.out _ _ H1.out.dv).mono ?_
    rintro e w2 ⟨rfl, hb2⟩
    have hba := hb2.alloc hb2.size (.cells #[.int .i64 0, .int .i64 0, .int .i64 0] 27)
    have H2 := Lib.hid (H1.out.on hba)
    have HQ := Lib.hid (show RBlk (w2.alloc (.cells #[.int .i64 0, .int .i64 0, .int .i64 0] 27)) w2.heap.size rt0 from Box.fresh _ _ _)
    clear hb2 hba H1
    obtain ⟨k0, k1⟩ := DBlk.cells H2.out.blk
    have hz := Box.lt H2.out.blk
    go_wp2_with fail
    refine (HR.out _ _ H2.out.dv).mono ?_
    clear k0 k1 hz
    rintro e w3 ⟨rfl, hb3⟩
    have hba := hb3.alloc hb3.size (.cells #[.int .i64 0, .int .i64 0, .int .i64 0] 27)
    have H3 := Lib.hid (H2.out.on hba)
    have HQ3 := Lib.hid (show RBlk (w3.alloc (.cells #[.int .i64 0, .int .i64 0, .int .i64 0] 27)) w2.heap.size rt0 from Box.on HQ.out hba)
    have HP3 := Lib.hid (show RBlk (w3.alloc (.cells #[.int .i64 0, .int .i64 0, .int .i64 0] 27)) w3.heap.size rt0 from Box.fresh _ _ _)
    clear hb3 hba H2 HQ HB HR
    obtain ⟨q0, q1, q2⟩ := RBlk.cells HQ3.out
    obtain ⟨p0, p1, p2⟩ := RBlk.cells HP3.out
    simp only [rt0] at q0 q1 q2 p0 p1 p2
    have hz1 := Box.lt HQ3.out
    have hz2 := Box.lt HP3.out
    go_wp2_with fail
    refine (awake_true _).mono ?_
    rintro e w9 ⟨rfl, hb9⟩
    go_wp2
    go_ret
    exact ⟨rfl, H3.out.below.trans (hb9.mono H3.out.below.size)⟩

end Go.Proofs.Ythcolmdfpciolaa
