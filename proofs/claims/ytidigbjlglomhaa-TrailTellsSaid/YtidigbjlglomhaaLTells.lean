/- The walk of TrailTells: what the program tells of any changes is what the document says. -/
import Derived.Test.YtidigbjlglomhaaAwk
import Derived.Test.YtidigbjlglomhaaSf
import Derived.Test.YtidigbjlglomhaaRRight
import Derived.Test.YtidigbjlglomhaaRSince
import Derived.Test.YtidigbjlglomhaaRNewest
import Derived.Test.YtidigbjlglomhaaRSame
set_option linter.unusedVariables false
set_option linter.unusedSimpArgs false
namespace Go.Proofs.Ytidigbjlglomhaa
open Go.RowKit

theorem CV.none {w : World} {v : Value} (h : CV w v []) : ∃ A c, v = .slice A 0 c := by
  obtain ⟨A, c, rfl, _⟩ := h
  exact ⟨A, c, rfl⟩

set_option maxRecDepth 100000 in
set_option maxHeartbeats 8000000 in
theorem tells_walk (v rv : Value) (l : List Ch) (rs : List Rng) (s m : Int) (w : World) (hv : CV w v l) (hr : RgV w rv rs) (hn : l.length ≤ maxLen) (hrn : rs.length ≤ maxLen) :
    Calls Try.prog 3 #[v, .int .i64 s, .int .i64 m, rv] w fun e w' => e = .returned (.bool true) ∧ Below w.heap.size w w' := by
  obtain ⟨A, n, c, rfl, hnl, hA⟩ : ∃ A n c, v = .slice A n c ∧ l.length = n ∧ Chs w w.heap.size A l := by obtain ⟨A, c, e, h1, _⟩ := hv; exact ⟨A, _, c, e, rfl, h1⟩
  obtain ⟨Ar, nr, cr, rfl, hnr⟩ : ∃ A n c, rv = .slice A n c ∧ rs.length = n := by obtain ⟨A, c, e, _⟩ := hr; exact ⟨A, _, c, e, rfl⟩
  have HLN := Lib.hid hnl
  have HRN := Lib.hid hnr
  have HMX := Lib.hid hn
  have HRX := Lib.hid hrn
  have VL := Lib.hid hv
  have HA := Lib.hid hA
  have VR := Lib.hid hr
  have HB := Lib.hid (Below.refl w.heap.size w)
  clear hv hr hn hrn hnl hnr hA
  go_enter Try.func3, Try.ntmps3
  go_wp2_with fail
  refine (few_v VL.out).mono ?_
  rintro e w1 ⟨R1, rfl, h1, hb⟩
  have HB1 := Lib.hid (HB.out.trans (hb.mono HB.out.size))
  have VL1 := Lib.hid (VL.out.on hb)
  have HA1 := Lib.hid (HA.out.on hb)
  have VR1 := Lib.hid (VR.out.on hb)
  clear hb HB VL HA VR 
  have H1 := Lib.hid h1
  clear h1
  cases R1 with
  | false =>
    go_wp2_with fail
    refine (awake_true _).mono ?_
    rintro e w2 ⟨rfl, hb⟩
    have HB2 := Lib.hid (HB1.out.trans (hb.mono HB1.out.size))
    clear hb HB1 
    go_wp2
    go_ret
    exact ⟨rfl, HB2.out⟩
  | true =>
    have HL := Lib.hid (H1.out (by simp)).1
    have HL2 := Lib.hid (show l.length ≤ 1000 from by have := HL.out; omega)
    clear H1
    by_cases h10 : nr ≤ 10
    case neg =>
      have hd : decide (10 < (nr : Int)) = true := by simp; omega
      go_wp2_with fail
      refine (awake_true _).mono ?_
      rintro e w3 ⟨rfl, hb⟩
      have HB3 := Lib.hid (HB1.out.trans (hb.mono HB1.out.size))
      clear hb HB1 
      go_wp2
      go_ret
      exact ⟨rfl, HB3.out⟩
    have hd : decide (10 < (nr : Int)) = false := by simp; omega
    clear h10
    obtain ⟨R, hR⟩ : ∃ R, trailB l = R := ⟨_, rfl⟩
    have HR := Lib.hid hR
    cases R with
    | false =>
      have hk := since_v s m VL1.out VR1.out HL2.out HRX.out
      rw [show sinceL l s m rs = [] from by unfold sinceL; rw [hR]; rfl] at hk
      go_wp2_with fail
      refine (hk).mono ?_
      rintro e w4 ⟨vs, rfl, hp, hb⟩
      have VS4 := Lib.hid hp
      clear hp
      have HB4 := Lib.hid (HB1.out.trans (hb.mono HB1.out.size))
      have VL4 := Lib.hid (VL1.out.on hb)
      have HA4 := Lib.hid (HA1.out.on hb)
      have VR4 := Lib.hid (VR1.out.on hb)
      clear hb HB1 VL1 HA1 VR1 hk
      have hk := drop_v s VL4.out (by have := HL.out; omega)
      rw [show dropL l s = [] from by unfold dropL; rw [hR]; rfl] at hk
      go_wp2_with fail
      refine (hk).mono ?_
      rintro e w5 ⟨vd, rfl, hp, hb⟩
      have VD5 := Lib.hid hp
      clear hp
      have HB5 := Lib.hid (HB4.out.trans (hb.mono HB4.out.size))
      have VL5 := Lib.hid (VL4.out.on hb)
      have HA5 := Lib.hid (HA4.out.on hb)
      have VR5 := Lib.hid (VR4.out.on hb)
      have VS5 := Lib.hid (VS4.out.on hb)
      clear hb HB4 VL4 HA4 VR4 VS4 hk
      have hk := newest_v s VL5.out HL2.out
      rw [show newestL l s = [] from by unfold newestL; rw [hR]; rfl] at hk
      go_wp2_with fail
      refine (hk).mono ?_
      rintro e w6 ⟨vn, rfl, hp, hb⟩
      have VN6 := Lib.hid hp
      clear hp
      have HB6 := Lib.hid (HB5.out.trans (hb.mono HB5.out.size))
      have VL6 := Lib.hid (VL5.out.on hb)
      have HA6 := Lib.hid (HA5.out.on hb)
      have VR6 := Lib.hid (VR5.out.on hb)
      have VS6 := Lib.hid (VS5.out.on hb)
      have VD6 := Lib.hid (VD5.out.on hb)
      clear hb HB5 VL5 HA5 VR5 VS5 VD5 hk
      have hk := dright_v VL6.out (by have := HL.out; omega)
      rw [hR] at hk
      go_wp2_with fail
      refine (hk).mono ?_
      rintro e w7 ⟨rfl, hb⟩
      have HB7 := Lib.hid (HB6.out.trans (hb.mono HB6.out.size))
      have VL7 := Lib.hid (VL6.out.on hb)
      have HA7 := Lib.hid (HA6.out.on hb)
      have VR7 := Lib.hid (VR6.out.on hb)
      have VS7 := Lib.hid (VS6.out.on hb)
      have VD7 := Lib.hid (VD6.out.on hb)
      have VN7 := Lib.hid (VN6.out.on hb)
      clear hb HB6 VL6 HA6 VR6 VS6 VD6 VN6 hk
      have hk := right_v VL7.out HMX.out
      rw [hR] at hk
      go_wp2_with fail
      refine (hk).mono ?_
      rintro e w8 ⟨rfl, hb⟩
      have HB8 := Lib.hid (HB7.out.trans (hb.mono HB7.out.size))
      have VL8 := Lib.hid (VL7.out.on hb)
      have HA8 := Lib.hid (HA7.out.on hb)
      have VR8 := Lib.hid (VR7.out.on hb)
      have VS8 := Lib.hid (VS7.out.on hb)
      have VD8 := Lib.hid (VD7.out.on hb)
      have VN8 := Lib.hid (VN7.out.on hb)
      clear hb HB7 VL7 HA7 VR7 VS7 VD7 VN7 hk
      obtain ⟨A1, c1, rfl⟩ := VS8.out.none
      obtain ⟨A2, c2, rfl⟩ := VD8.out.none
      obtain ⟨A3, c3, rfl⟩ := VN8.out.none
      have hk := last_v VL8.out HMX.out
      rw [show lastL l = 0 from by unfold lastL; rw [hR]; rfl] at hk
      clear hR
      go_wp2_with fail
      refine (hk).mono ?_
      rintro e w9 ⟨rfl, hb⟩
      have HB9 := Lib.hid (HB8.out.trans (hb.mono HB8.out.size))
      have VL9 := Lib.hid (VL8.out.on hb)
      have HA9 := Lib.hid (HA8.out.on hb)
      have VR9 := Lib.hid (VR8.out.on hb)
      have VS9 := Lib.hid (VS8.out.on hb)
      have VD9 := Lib.hid (VD8.out.on hb)
      have VN9 := Lib.hid (VN8.out.on hb)
      clear hb HB8 VL8 HA8 VR8 VS8 VD8 VN8 hk
      go_wp2_with fail
      refine (awake_true _).mono ?_
      rintro e w10 ⟨rfl, hb⟩
      have HB10 := Lib.hid (HB9.out.trans (hb.mono HB9.out.size))
      clear hb HB9 
      go_wp2
      go_ret
      exact ⟨rfl, HB10.out⟩
    | true =>
      have HT := Lib.hid (trail_t.1 hR)
      go_wp2_with fail
      refine (since_v s m VL1.out VR1.out HL2.out HRX.out).mono ?_
      rintro e w11 ⟨vs, rfl, hp, hb⟩
      have VS11 := Lib.hid hp
      clear hp
      have HB11 := Lib.hid (HB1.out.trans (hb.mono HB1.out.size))
      have VL11 := Lib.hid (VL1.out.on hb)
      have HA11 := Lib.hid (HA1.out.on hb)
      have VR11 := Lib.hid (VR1.out.on hb)
      clear hb HB1 VL1 HA1 VR1 
      go_wp2_with fail
      refine (drop_v s VL11.out (by have := HL.out; omega)).mono ?_
      rintro e w12 ⟨vd, rfl, hp, hb⟩
      have VD12 := Lib.hid hp
      clear hp
      have HB12 := Lib.hid (HB11.out.trans (hb.mono HB11.out.size))
      have VL12 := Lib.hid (VL11.out.on hb)
      have HA12 := Lib.hid (HA11.out.on hb)
      have VR12 := Lib.hid (VR11.out.on hb)
      have VS12 := Lib.hid (VS11.out.on hb)
      clear hb HB11 VL11 HA11 VR11 VS11 
      go_wp2_with fail
      refine (newest_v s VL12.out HL2.out).mono ?_
      rintro e w13 ⟨vn, rfl, hp, hb⟩
      have VN13 := Lib.hid hp
      clear hp
      have HB13 := Lib.hid (HB12.out.trans (hb.mono HB12.out.size))
      have VL13 := Lib.hid (VL12.out.on hb)
      have HA13 := Lib.hid (HA12.out.on hb)
      have VR13 := Lib.hid (VR12.out.on hb)
      have VS13 := Lib.hid (VS12.out.on hb)
      have VD13 := Lib.hid (VD12.out.on hb)
      clear hb HB12 VL12 HA12 VR12 VS12 VD12 
      have hk := dright_v VL13.out (by have := HL.out; omega)
      rw [hR] at hk
      go_wp2_with fail
      refine (hk).mono ?_
      rintro e w14 ⟨rfl, hb⟩
      have HB14 := Lib.hid (HB13.out.trans (hb.mono HB13.out.size))
      have VL14 := Lib.hid (VL13.out.on hb)
      have HA14 := Lib.hid (HA13.out.on hb)
      have VR14 := Lib.hid (VR13.out.on hb)
      have VS14 := Lib.hid (VS13.out.on hb)
      have VD14 := Lib.hid (VD13.out.on hb)
      have VN14 := Lib.hid (VN13.out.on hb)
      clear hb HB13 VL13 HA13 VR13 VS13 VD13 VN13 hk
      have hk := right_v VL14.out HMX.out
      rw [hR] at hk
      go_wp2_with fail
      refine (hk).mono ?_
      rintro e w15 ⟨rfl, hb⟩
      have HB15 := Lib.hid (HB14.out.trans (hb.mono HB14.out.size))
      have VL15 := Lib.hid (VL14.out.on hb)
      have HA15 := Lib.hid (HA14.out.on hb)
      have VR15 := Lib.hid (VR14.out.on hb)
      have VS15 := Lib.hid (VS14.out.on hb)
      have VD15 := Lib.hid (VD14.out.on hb)
      have VN15 := Lib.hid (VN14.out.on hb)
      clear hb HB14 VL14 HA14 VR14 VS14 VD14 VN14 hk
      have HE := Lib.hid (show lastL l = endL l from by unfold lastL; rw [hR]; rfl)
      clear hR
      have hnb : n ≤ 60 := by have := HL.out; rw [HLN.out] at this; exact this
      go_wp2
      go_loopw [13, 63] (fun lv iv wr => ∃ (k : Nat), iv = .int .i64 k ∧ k ≤ n ∧ lv = .int .i64 (endL (l.take k)) ∧ Below w15.heap.size w15 wr) (fun _ iv _ => (n - intOf iv).toNat)
      case atStart => exact ⟨0, rfl, by omega, rfl, Below.refl _ _⟩
      case round =>
        obtain ⟨k, rfl, hk, rfl, hbr⟩ := hrel
        by_cases hlt : k < n
        · have hkl : k < l.length := by rw [HLN.out]; exact hlt
          obtain ⟨ad, rfl, hab, hca⟩ := (HA15.out.below hbr).seeC (by rw [HLN.out]; omega)
          obtain ⟨c0, c1, c2, c3, c4, c5⟩ := hca k hkl
          have HS := Lib.hid (show endL (l.take (k + 1)) = (l[k]'hkl).seq from by rw [take_snoc hkl, endL_snoc])
          obtain ⟨x, hx⟩ : ∃ x, x = l[k]'hkl := ⟨_, rfl⟩
          rw [← hx] at c0 c1 c2 c3 c4 c5 HS
          clear hx hca
          obtain ⟨xs, xk, xh, xb, xg, xa⟩ := x
          simp only at c0 c1 c2 c3 c4 c5 HS
          go_wp2
          go_roundw
          case rel => exact ⟨k + 1, by go_num, by omega, by rw [HS.out], hbr.alloc hbr.size _⟩
          case measure => simp [intOf]; omega
        · have hkn : k = n := by omega
          have HEK := Lib.hid (show endL (l.take k) = lastL l from by rw [HE.out, List.take_of_length_le (by rw [HLN.out]; omega)])
          obtain ⟨z, hz⟩ : ∃ z, z = endL (l.take k) := ⟨_, rfl⟩
          rw [← hz]
          have HZ := Lib.hid (show lastL l = z from by rw [hz, HEK.out])
          clear hkn hz HEK HE
          have HBr := Lib.hid (HB15.out.trans (hbr.mono HB15.out.size))
          have VLr := Lib.hid (VL15.out.on hbr)
          have HAr := Lib.hid (HA15.out.on hbr)
          have VRr := Lib.hid (VR15.out.on hbr)
          have VSr := Lib.hid (VS15.out.on hbr)
          have VDr := Lib.hid (VD15.out.on hbr)
          have VNr := Lib.hid (VN15.out.on hbr)
          clear hbr HB15 VL15 HA15 VR15 VS15 VD15 VN15 
          go_wp2_with fail
          refine (dsince_v s m VLr.out VRr.out HL2.out HRX.out HT.out).mono ?_
          rintro e w16 ⟨vs2, rfl, hp, hb⟩
          have VT16 := Lib.hid hp
          clear hp
          have HB16 := Lib.hid (HBr.out.trans (hb.mono HBr.out.size))
          have VL16 := Lib.hid (VLr.out.on hb)
          have HA16 := Lib.hid (HAr.out.on hb)
          have VR16 := Lib.hid (VRr.out.on hb)
          have VS16 := Lib.hid (VSr.out.on hb)
          have VD16 := Lib.hid (VDr.out.on hb)
          have VN16 := Lib.hid (VNr.out.on hb)
          clear hb HBr VLr HAr VRr VSr VDr VNr 
          have hk := dsame_v VS16.out VT16.out (by have := since_len l s m rs; have := HL.out; unfold maxLen; omega)
          rw [decide_eq_true rfl] at hk
          go_wp2_with fail
          refine (hk).mono ?_
          rintro e w17 ⟨rfl, hb⟩
          have HB17 := Lib.hid (HB16.out.trans (hb.mono HB16.out.size))
          have VL17 := Lib.hid (VL16.out.on hb)
          have HA17 := Lib.hid (HA16.out.on hb)
          have VR17 := Lib.hid (VR16.out.on hb)
          have VS17 := Lib.hid (VS16.out.on hb)
          have VD17 := Lib.hid (VD16.out.on hb)
          have VN17 := Lib.hid (VN16.out.on hb)
          have VT17 := Lib.hid (VT16.out.on hb)
          clear hb HB16 VL16 HA16 VR16 VS16 VD16 VN16 VT16 hk
          go_wp2_with fail
          refine (ddrop_v s VL17.out HL2.out HT.out).mono ?_
          rintro e w18 ⟨vd2, rfl, hp, hb⟩
          have VE18 := Lib.hid hp
          clear hp
          have HB18 := Lib.hid (HB17.out.trans (hb.mono HB17.out.size))
          have VL18 := Lib.hid (VL17.out.on hb)
          have HA18 := Lib.hid (HA17.out.on hb)
          have VR18 := Lib.hid (VR17.out.on hb)
          have VS18 := Lib.hid (VS17.out.on hb)
          have VD18 := Lib.hid (VD17.out.on hb)
          have VN18 := Lib.hid (VN17.out.on hb)
          have VT18 := Lib.hid (VT17.out.on hb)
          clear hb HB17 VL17 HA17 VR17 VS17 VD17 VN17 VT17 
          have hk := dsame_v VD18.out VE18.out (by have := drop_len l s; have := HL.out; unfold maxLen; omega)
          rw [decide_eq_true rfl] at hk
          go_wp2_with fail
          refine (hk).mono ?_
          rintro e w19 ⟨rfl, hb⟩
          have HB19 := Lib.hid (HB18.out.trans (hb.mono HB18.out.size))
          have VL19 := Lib.hid (VL18.out.on hb)
          have HA19 := Lib.hid (HA18.out.on hb)
          have VR19 := Lib.hid (VR18.out.on hb)
          have VS19 := Lib.hid (VS18.out.on hb)
          have VD19 := Lib.hid (VD18.out.on hb)
          have VN19 := Lib.hid (VN18.out.on hb)
          have VT19 := Lib.hid (VT18.out.on hb)
          have VE19 := Lib.hid (VE18.out.on hb)
          clear hb HB18 VL18 HA18 VR18 VS18 VD18 VN18 VT18 VE18 hk
          go_wp2_with fail
          refine (dnewest_v s VL19.out HL2.out HT.out).mono ?_
          rintro e w20 ⟨vn2, rfl, hp, hb⟩
          have VF20 := Lib.hid hp
          clear hp
          have HB20 := Lib.hid (HB19.out.trans (hb.mono HB19.out.size))
          have VL20 := Lib.hid (VL19.out.on hb)
          have HA20 := Lib.hid (HA19.out.on hb)
          have VR20 := Lib.hid (VR19.out.on hb)
          have VS20 := Lib.hid (VS19.out.on hb)
          have VD20 := Lib.hid (VD19.out.on hb)
          have VN20 := Lib.hid (VN19.out.on hb)
          have VT20 := Lib.hid (VT19.out.on hb)
          have VE20 := Lib.hid (VE19.out.on hb)
          clear hb HB19 VL19 HA19 VR19 VS19 VD19 VN19 VT19 VE19 
          have hk := dsame_v VN20.out VF20.out (by have := newest_len l s; have := HL.out; unfold maxLen; omega)
          rw [decide_eq_true rfl] at hk
          go_wp2_with fail
          refine (hk).mono ?_
          rintro e w21 ⟨rfl, hb⟩
          have HB21 := Lib.hid (HB20.out.trans (hb.mono HB20.out.size))
          have VL21 := Lib.hid (VL20.out.on hb)
          have HA21 := Lib.hid (HA20.out.on hb)
          have VR21 := Lib.hid (VR20.out.on hb)
          have VS21 := Lib.hid (VS20.out.on hb)
          have VD21 := Lib.hid (VD20.out.on hb)
          have VN21 := Lib.hid (VN20.out.on hb)
          have VT21 := Lib.hid (VT20.out.on hb)
          have VE21 := Lib.hid (VE20.out.on hb)
          have VF21 := Lib.hid (VF20.out.on hb)
          clear hb HB20 VL20 HA20 VR20 VS20 VD20 VN20 VT20 VE20 VF20 hk
          have hk := last_v VL21.out HMX.out
          rw [HZ.out] at hk
          go_wp2_with fail
          refine (hk).mono ?_
          rintro e w22 ⟨rfl, hb⟩
          have HB22 := Lib.hid (HB21.out.trans (hb.mono HB21.out.size))
          have VL22 := Lib.hid (VL21.out.on hb)
          have HA22 := Lib.hid (HA21.out.on hb)
          have VR22 := Lib.hid (VR21.out.on hb)
          have VS22 := Lib.hid (VS21.out.on hb)
          have VD22 := Lib.hid (VD21.out.on hb)
          have VN22 := Lib.hid (VN21.out.on hb)
          have VT22 := Lib.hid (VT21.out.on hb)
          have VE22 := Lib.hid (VE21.out.on hb)
          have VF22 := Lib.hid (VF21.out.on hb)
          clear hb HB21 VL21 HA21 VR21 VS21 VD21 VN21 VT21 VE21 VF21 hk
          go_wp2_with fail
          refine (awake_true _).mono ?_
          rintro e w23 ⟨rfl, hb⟩
          have HB23 := Lib.hid (HB22.out.trans (hb.mono HB22.out.size))
          clear hb HB22 
          go_wp2
          go_ret
          exact ⟨rfl, HB23.out⟩

end Go.Proofs.Ytidigbjlglomhaa
