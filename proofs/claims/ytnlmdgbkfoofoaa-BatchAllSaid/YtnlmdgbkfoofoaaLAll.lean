/- The walk of BatchAll. -/
import Derived.Test.YtnlmdgbkfoofoaaRB
import Derived.Test.YtnlmdgbkfoofoaaRSame
set_option linter.unusedVariables false
set_option linter.unusedSimpArgs false
namespace Go.Proofs.Ytnlmdgbkfoofoaa
open Go.RowKit

set_option maxRecDepth 100000 in
set_option maxHeartbeats 4000000 in
theorem all_walk (v u : Value) (s : Int) (l : List Pr) (bs : List (List Nt)) (w0 : World) (hv : PV w0 v l) (hu : NVV w0 u bs) (hm : ∀ b ∈ bs, b.length ≤ maxLen) :
    Calls Try.prog 4 #[v, .int .i64 s, u] w0 fun e w' => e = .returned (.bool true) ∧ Below w0.heap.size w0 w' := by
  obtain ⟨A, c, rfl⟩ : ∃ A c, u = .slice A bs.length c := by obtain ⟨A, c, e⟩ := NVB.shape hu; exact ⟨A, c, e⟩
  have HV0 := Lib.hid hv
  have HU0 := Lib.hid hu
  have HM := Lib.hid hm
  have HB0 := Lib.hid (Below.refl w0.heap.size w0)
  obtain ⟨n, hn⟩ : ∃ n, bs.length = n := ⟨_, rfl⟩
  rw [hn] at HU0 ⊢
  have HNL := Lib.hid hn
  clear hv hu hm hn
  go_enter Try.func4, Try.ntmps4
  go_wp2_with fail
  refine (small_v HV0.out).mono ?_
  rintro e w1 ⟨R, rfl, hR, hb⟩
  have HB1 := Lib.hid (HB0.out.trans (hb.mono HB0.out.size))
  have HV1 := Lib.hid (HV0.out.on hb)
  have HU1 := Lib.hid (HU0.out.on hb)
  clear hb HB0 HV0 HU0 
  cases R with
  | false =>
    clear hR
    go_wp2_with fail
    refine (awake_true _).mono ?_
    rintro e w2 ⟨rfl, hb⟩
    have HB2 := Lib.hid (HB1.out.trans (hb.mono HB1.out.size))
    clear hb HB1 
    go_wp2
    go_ret
    exact ⟨rfl, HB2.out⟩
  | true =>
    have HN := Lib.hid (hR rfl)
    clear hR
    by_cases h10 : n ≤ 10
    case neg =>
      have hd : decide (10 < n) = true := by simp; omega
      go_wp2_with fail
      refine (awake_true _).mono ?_
      rintro e w3 ⟨rfl, hb⟩
      have HB3 := Lib.hid (HB1.out.trans (hb.mono HB1.out.size))
      clear hb HB1 
      go_wp2
      go_ret
      exact ⟨rfl, HB3.out⟩
    have hd : decide (10 < n) = false := by simp; omega
    have HBS := Lib.hid (show bs.length ≤ 10 from by rw [HNL.out]; exact h10)
    clear hd
    go_wp2
    go_loopw [28] (fun i wr => ∃ (k : Nat), i = .int .i64 k ∧ k ≤ n ∧ Below w1.heap.size w1 wr) (fun i _ => (n - intOf i).toNat)
    case atStart => exact ⟨0, rfl, by omega, Below.refl _ _⟩
    case round =>
      obtain ⟨k, rfl, hk, hbr⟩ := hrel
      have HBr := Lib.hid (HB1.out.trans (hbr.mono HB1.out.size))
      have HVr := Lib.hid (HV1.out.on hbr)
      have HUr := Lib.hid (HU1.out.on hbr)
      by_cases hlt : k < n
      · have hkl : k < bs.length := by rw [HNL.out]; exact hlt
        obtain ⟨A', c', e', hel⟩ := HUr.out.part
        injection e' with e1 e2 e3
        subst e1 e3
        obtain ⟨ad, bv, rfl, hab, hcell, hnb⟩ := hel k hkl
        have hk1 := few_v hnb
        obtain ⟨BA, bd, rfl⟩ : ∃ A d, bv = .slice A (bs[k]'hkl).length d := by obtain ⟨A, d, e, _⟩ := hnb; exact ⟨A, d, e⟩
        obtain ⟨pn, hpn⟩ : ∃ q, (bs[k]'hkl).length = q := ⟨_, rfl⟩
        rw [hpn] at hk1 hcell
        clear hel hnb hpn e2
        go_wp2_with fail
        refine hk1.mono ?_
        rintro e wq ⟨R, rfl, _, hb⟩
        have HBq := Lib.hid (HBr.out.trans (hb.mono HBr.out.size))
        have hbq := hbr.trans (hb.mono hbr.size)
        clear hb hk1 hcell hbr HBr HVr HUr
        cases R with
        | false =>
          go_wp2_with fail
          refine (awake_true _).mono ?_
          rintro e wz ⟨rfl, hb⟩
          have HBz := Lib.hid (HBq.out.trans (hb.mono HBq.out.size))
          clear hb
          go_wp2
          go_ret
          exact ⟨rfl, HBz.out⟩
        | true =>
          go_wp2
          go_roundw
          case rel => exact ⟨k + 1, by go_num, by omega, hbq⟩
          case measure => simp [intOf]; omega
      · clear hbr
        have hr := all_any s HVr.out HUr.out (by have := HN.out; omega) (by have := HBS.out; omega) HM.out
        go_wp2_with fail
        refine (hr).mono ?_
        rintro e w4 ⟨cv, pv, nv, rfl, hc, hp, hi, hb⟩
        have HC4 := Lib.hid hc
        clear hc
        have HP4 := Lib.hid hp
        clear hp
        have HI4 := Lib.hid hi
        clear hi
        have HB4 := Lib.hid (HBr.out.trans (hb.mono HBr.out.size))
        have HV4 := Lib.hid (HVr.out.on hb)
        have HU4 := Lib.hid (HUr.out.on hb)
        clear hb HBr HVr HUr hr
        have hr := dall_all s HV4.out HU4.out (by have := HN.out; omega) (by have := HBS.out; omega) HM.out
        go_wp2_with fail
        refine (hr).mono ?_
        rintro e w5 ⟨dv, qv, mv, rfl, hc, hp, hi, hb⟩
        have HD5 := Lib.hid hc
        clear hc
        have HQ5 := Lib.hid hp
        clear hp
        have HJ5 := Lib.hid hi
        clear hi
        have HB5 := Lib.hid (HB4.out.trans (hb.mono HB4.out.size))
        have HV5 := Lib.hid (HV4.out.on hb)
        have HU5 := Lib.hid (HU4.out.on hb)
        have HC5 := Lib.hid (HC4.out.on hb)
        have HP5 := Lib.hid (HP4.out.on hb)
        have HI5 := Lib.hid (HI4.out.on hb)
        clear hb HB4 HV4 HU4 HC4 HP4 HI4 hr
        obtain ⟨E, hE⟩ : ∃ q, outE l s bs = q := ⟨_, rfl⟩
        rw [hE]
        clear hE
        have HLN := Lib.hid (out_len l s bs)
        have hk := dsame_v HC5.out HD5.out (by have := HLN.out.1; have := HBS.out; unfold maxLen; omega)
        rw [decide_eq_true rfl] at hk
        go_wp2_with fail
        refine (hk).mono ?_
        rintro e w6 ⟨rfl, hb⟩
        have HB6 := Lib.hid (HB5.out.trans (hb.mono HB5.out.size))
        have HV6 := Lib.hid (HV5.out.on hb)
        have HU6 := Lib.hid (HU5.out.on hb)
        have HC6 := Lib.hid (HC5.out.on hb)
        have HP6 := Lib.hid (HP5.out.on hb)
        have HI6 := Lib.hid (HI5.out.on hb)
        have HD6 := Lib.hid (HD5.out.on hb)
        have HQ6 := Lib.hid (HQ5.out.on hb)
        have HJ6 := Lib.hid (HJ5.out.on hb)
        clear hb HB5 HV5 HU5 HC5 HP5 HI5 HD5 HQ5 HJ5 hk
        have hk := same_v HP6.out HQ6.out (by have := HLN.out.2.1; have := HBS.out; have := HN.out; unfold maxLen; omega)
        rw [decide_eq_true rfl] at hk
        go_wp2_with fail
        refine (hk).mono ?_
        rintro e w7 ⟨rfl, hb⟩
        have HB7 := Lib.hid (HB6.out.trans (hb.mono HB6.out.size))
        have HV7 := Lib.hid (HV6.out.on hb)
        have HU7 := Lib.hid (HU6.out.on hb)
        have HC7 := Lib.hid (HC6.out.on hb)
        have HP7 := Lib.hid (HP6.out.on hb)
        have HI7 := Lib.hid (HI6.out.on hb)
        have HD7 := Lib.hid (HD6.out.on hb)
        have HQ7 := Lib.hid (HQ6.out.on hb)
        have HJ7 := Lib.hid (HJ6.out.on hb)
        clear hb HB6 HV6 HU6 HC6 HP6 HI6 HD6 HQ6 HJ6 hk
        have hk := numbers_any HI7.out HJ7.out (by have := HLN.out.2.2; have := HBS.out; omega)
        rw [decide_eq_true rfl] at hk
        go_wp2_with fail
        refine (hk).mono ?_
        rintro e w8 ⟨rfl, hb⟩
        have HB8 := Lib.hid (HB7.out.trans (hb.mono HB7.out.size))
        have HV8 := Lib.hid (HV7.out.on hb)
        have HU8 := Lib.hid (HU7.out.on hb)
        have HC8 := Lib.hid (HC7.out.on hb)
        have HP8 := Lib.hid (HP7.out.on hb)
        have HI8 := Lib.hid (HI7.out.on hb)
        have HD8 := Lib.hid (HD7.out.on hb)
        have HQ8 := Lib.hid (HQ7.out.on hb)
        have HJ8 := Lib.hid (HJ7.out.on hb)
        clear hb HB7 HV7 HU7 HC7 HP7 HI7 HD7 HQ7 HJ7 hk
        go_wp2_with fail
        refine (awake_true _).mono ?_
        rintro e w9 ⟨rfl, hb⟩
        have HB9 := Lib.hid (HB8.out.trans (hb.mono HB8.out.size))
        clear hb HB8 
        go_wp2
        go_ret
        exact ⟨rfl, HB9.out⟩

end Go.Proofs.Ytnlmdgbkfoofoaa
