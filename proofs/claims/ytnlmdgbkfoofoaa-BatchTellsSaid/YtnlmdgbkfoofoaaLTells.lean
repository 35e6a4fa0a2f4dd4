/- The walk of BatchTells. -/
import Derived.Test.YtnlmdgbkfoofoaaRB
import Derived.Test.YtnlmdgbkfoofoaaRSame
set_option linter.unusedVariables false
set_option linter.unusedSimpArgs false
namespace Go.Proofs.Ytnlmdgbkfoofoaa
open Go.RowKit

set_option maxRecDepth 100000 in
set_option maxHeartbeats 4000000 in
theorem tells_walk (v u : Value) (s : Int) (l : List Pr) (ns : List Nt) (w0 : World) (hv : PV w0 v l) (hu : NV w0 u ns) (hm : ns.length ≤ maxLen) :
    Calls Try.prog 3 #[v, .int .i64 s, u] w0 fun e w' => e = .returned (.bool true) ∧ Below w0.heap.size w0 w' := by
  have HV0 := Lib.hid hv
  have HU0 := Lib.hid hu
  have HM := Lib.hid hm
  have HB0 := Lib.hid (Below.refl w0.heap.size w0)
  clear hv hu hm
  go_enter Try.func3, Try.ntmps3
  go_wp2_with fail
  refine (small_v HV0.out).mono ?_
  rintro e w1 ⟨R, rfl, hR, hb⟩
  have HB1 := Lib.hid (HB0.out.trans (hb.mono HB0.out.size))
  have HV1 := Lib.hid (HV0.out.on hb)
  have HU1 := Lib.hid (HU0.out.on hb)
  clear hb HB0 HV0 HU0 
  cases R with
  | false =>
    clear hR
    go_wp2_with fail
    refine (awake_true _).mono ?_
    rintro e w2 ⟨rfl, hb⟩
    have HB2 := Lib.hid (HB1.out.trans (hb.mono HB1.out.size))
    clear hb HB1 
    go_wp2
    go_ret
    exact ⟨rfl, HB2.out⟩
  | true =>
    have HN := Lib.hid (hR rfl)
    clear hR
    go_wp2_with fail
    refine (few_v HU1.out).mono ?_
    rintro e w3 ⟨R, rfl, hR, hb⟩
    have HB3 := Lib.hid (HB1.out.trans (hb.mono HB1.out.size))
    have HV3 := Lib.hid (HV1.out.on hb)
    have HU3 := Lib.hid (HU1.out.on hb)
    clear hb HB1 HV1 HU1 
    cases R with
    | false =>
      clear hR
      go_wp2_with fail
      refine (awake_true _).mono ?_
      rintro e w4 ⟨rfl, hb⟩
      have HB4 := Lib.hid (HB3.out.trans (hb.mono HB3.out.size))
      clear hb HB3 
      go_wp2
      go_ret
      exact ⟨rfl, HB4.out⟩
    | true =>
      have HNS := Lib.hid (hR rfl)
      clear hR
      have hr := run_any s HV3.out HU3.out (by have := HN.out; omega) HM.out
      rw [(out_one l s ns).1, (out_one l s ns).2.1, (out_one l s ns).2.2] at hr
      go_wp2_with fail
      refine (hr).mono ?_
      rintro e w5 ⟨cv, pv, rfl, hc, hp, hb⟩
      have HC5 := Lib.hid hc
      clear hc
      have HP5 := Lib.hid hp
      clear hp
      have HB5 := Lib.hid (HB3.out.trans (hb.mono HB3.out.size))
      have HV5 := Lib.hid (HV3.out.on hb)
      have HU5 := Lib.hid (HU3.out.on hb)
      clear hb HB3 HV3 HU3 hr
      have hr := drun_any s HV5.out HU5.out (by have := HN.out; omega) HM.out
      go_wp2_with fail
      refine (hr).mono ?_
      rintro e w6 ⟨dv, qv, rfl, hc, hp, hb⟩
      have HD6 := Lib.hid hc
      clear hc
      have HQ6 := Lib.hid hp
      clear hp
      have HB6 := Lib.hid (HB5.out.trans (hb.mono HB5.out.size))
      have HV6 := Lib.hid (HV5.out.on hb)
      have HU6 := Lib.hid (HU5.out.on hb)
      have HC6 := Lib.hid (HC5.out.on hb)
      have HP6 := Lib.hid (HP5.out.on hb)
      clear hb HB5 HV5 HU5 HC5 HP5 hr
      obtain ⟨E, hE⟩ : ∃ q, runE l s ns = q := ⟨_, rfl⟩
      rw [hE]
      clear hE
      obtain ⟨A, c, e0⟩ : ∃ A c, u = .slice A ns.length c := by obtain ⟨A, c, e, _⟩ := HU6.out; exact ⟨A, c, e⟩
      obtain ⟨n, hn⟩ : ∃ q, ns.length = q := ⟨_, rfl⟩
      rw [hn] at e0
      subst e0
      have HNL := Lib.hid hn
      clear hn
      have hk := bright_v HU6.out HM.out
      go_wp2_with fail
      refine (hk).mono ?_
      rintro e w7 ⟨rfl, hb⟩
      have HB7 := Lib.hid (HB6.out.trans (hb.mono HB6.out.size))
      have HV7 := Lib.hid (HV6.out.on hb)
      have HU7 := Lib.hid (HU6.out.on hb)
      have HC7 := Lib.hid (HC6.out.on hb)
      have HP7 := Lib.hid (HP6.out.on hb)
      have HD7 := Lib.hid (HD6.out.on hb)
      have HQ7 := Lib.hid (HQ6.out.on hb)
      clear hb HB6 HV6 HU6 HC6 HP6 HD6 HQ6 hk
      by_cases h8 : n ≤ 8
      case neg =>
        have hd : decide (n ≤ 8) = false := decide_eq_false h8
        have HBF := Lib.hid (show batchB ns = false from by unfold batchB; rw [HNL.out, hd]; rfl)
        rw [HBF.out]
        have hk := dsame_v HC7.out HD7.out (by have := (lenB l s ns).1; unfold maxLen; omega)
        rw [decide_eq_true rfl] at hk
        go_wp2_with fail
        refine (hk).mono ?_
        rintro e w8 ⟨rfl, hb⟩
        have HB8 := Lib.hid (HB7.out.trans (hb.mono HB7.out.size))
        have HV8 := Lib.hid (HV7.out.on hb)
        have HU8 := Lib.hid (HU7.out.on hb)
        have HC8 := Lib.hid (HC7.out.on hb)
        have HP8 := Lib.hid (HP7.out.on hb)
        have HD8 := Lib.hid (HD7.out.on hb)
        have HQ8 := Lib.hid (HQ7.out.on hb)
        clear hb HB7 HV7 HU7 HC7 HP7 HD7 HQ7 hk
        have hk := same_v HP8.out HQ8.out (by have := (lenB l s ns).2; have := HN.out; unfold maxLen; omega)
        rw [decide_eq_true rfl] at hk
        go_wp2_with fail
        refine (hk).mono ?_
        rintro e w9 ⟨rfl, hb⟩
        have HB9 := Lib.hid (HB8.out.trans (hb.mono HB8.out.size))
        have HV9 := Lib.hid (HV8.out.on hb)
        have HU9 := Lib.hid (HU8.out.on hb)
        have HC9 := Lib.hid (HC8.out.on hb)
        have HP9 := Lib.hid (HP8.out.on hb)
        have HD9 := Lib.hid (HD8.out.on hb)
        have HQ9 := Lib.hid (HQ8.out.on hb)
        clear hb HB8 HV8 HU8 HC8 HP8 HD8 HQ8 hk
        go_wp2_with fail
        refine (awake_true _).mono ?_
        rintro e w10 ⟨rfl, hb⟩
        have HB10 := Lib.hid (HB9.out.trans (hb.mono HB9.out.size))
        clear hb HB9 
        go_wp2
        go_ret
        exact ⟨rfl, HB10.out⟩
      have hd : decide (n ≤ 8) = true := decide_eq_true h8
      obtain ⟨R, hR⟩ : ∃ q, ns.all rightN = q := ⟨_, rfl⟩
      have hbb : batchB ns = R := by unfold batchB; rw [HNL.out, hd, hR]; rfl
      have hk : Calls Try.prog 15 #[.slice A n c] w7 fun e w' => e = .returned (.bool R) ∧ Below w7.heap.size w7 w' := by
        obtain ⟨A0, c0, e0, hp0, _⟩ := HU7.out
        have h9 := dall_any A0 c0 ns w7 hp0 HM.out
        rw [← e0, hR] at h9
        exact h9
      rw [hbb]
      clear hR hbb
      go_wp2_with fail
      refine (hk).mono ?_
      rintro e w11 ⟨rfl, hb⟩
      have HB11 := Lib.hid (HB7.out.trans (hb.mono HB7.out.size))
      have HV11 := Lib.hid (HV7.out.on hb)
      have HU11 := Lib.hid (HU7.out.on hb)
      have HC11 := Lib.hid (HC7.out.on hb)
      have HP11 := Lib.hid (HP7.out.on hb)
      have HD11 := Lib.hid (HD7.out.on hb)
      have HQ11 := Lib.hid (HQ7.out.on hb)
      clear hb HB7 HV7 HU7 HC7 HP7 HD7 HQ7 hk
      have he : (R == R) = true := by simp
      have hk := dsame_v HC11.out HD11.out (by have := (lenB l s ns).1; unfold maxLen; omega)
      rw [decide_eq_true rfl] at hk
      go_wp2_with fail
      refine (hk).mono ?_
      rintro e w12 ⟨rfl, hb⟩
      have HB12 := Lib.hid (HB11.out.trans (hb.mono HB11.out.size))
      have HV12 := Lib.hid (HV11.out.on hb)
      have HU12 := Lib.hid (HU11.out.on hb)
      have HC12 := Lib.hid (HC11.out.on hb)
      have HP12 := Lib.hid (HP11.out.on hb)
      have HD12 := Lib.hid (HD11.out.on hb)
      have HQ12 := Lib.hid (HQ11.out.on hb)
      clear hb HB11 HV11 HU11 HC11 HP11 HD11 HQ11 hk
      have hk := same_v HP12.out HQ12.out (by have := (lenB l s ns).2; have := HN.out; unfold maxLen; omega)
      rw [decide_eq_true rfl] at hk
      go_wp2_with fail
      refine (hk).mono ?_
      rintro e w13 ⟨rfl, hb⟩
      have HB13 := Lib.hid (HB12.out.trans (hb.mono HB12.out.size))
      have HV13 := Lib.hid (HV12.out.on hb)
      have HU13 := Lib.hid (HU12.out.on hb)
      have HC13 := Lib.hid (HC12.out.on hb)
      have HP13 := Lib.hid (HP12.out.on hb)
      have HD13 := Lib.hid (HD12.out.on hb)
      have HQ13 := Lib.hid (HQ12.out.on hb)
      clear hb HB12 HV12 HU12 HC12 HP12 HD12 HQ12 hk
      go_wp2_with fail
      refine (awake_true _).mono ?_
      rintro e w14 ⟨rfl, hb⟩
      have HB14 := Lib.hid (HB13.out.trans (hb.mono HB13.out.size))
      clear hb HB13 
      go_wp2
      go_ret
      exact ⟨rfl, HB14.out⟩

end Go.Proofs.Ytnlmdgbkfoofoaa
