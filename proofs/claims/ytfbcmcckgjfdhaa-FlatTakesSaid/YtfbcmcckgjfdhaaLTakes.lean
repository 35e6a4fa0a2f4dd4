/- The walk of FlatTakes: what any bytes begin with is what the document says, or nothing, one by one. -/
import Derived.Test.YtfbcmcckgjfdhaaTkD
import Derived.Deep.CutBlock
set_option linter.unusedVariables false
set_option linter.unusedSimpArgs false
namespace Go.Proofs.Ytfbcmcckgjfdhaa
open Go.RowKit Go.Sort

set_option maxRecDepth 100000 in
set_option maxHeartbeats 16000000 in
theorem takes_walk (s : ByteArray) (w : World) (hs0 : s.size ≤ maxLen) :
    Calls Try.prog 4 #[.string s] w fun e w' => e = .returned (.bool true) ∧ Below w.heap.size w w' := by
  by_cases h3 : s.size ≤ 300
  case neg =>
    have hd : decide (300 < (s.size : Int)) = true := by simp; omega
    go_enter Try.func4, Try.ntmps4
    go_wp2_with fail
    refine (awake_true _).mono ?_
    rintro e w1 ⟨rfl, hb⟩
    have HB := Lib.hid hb
    clear hb
    go_wp2
    go_ret
    exact ⟨rfl, HB.out⟩
  have hd : decide (300 < (s.size : Int)) = false := by simp; omega
  have tN := fun w => tnotes_v s w hs0
  have cdN := fun k g ok l x (h : kN.At s k g l) hk ht => kN.at_cond (ok := ok) (x := x) h hk ht
  have stN := fun k g ok l x (h : kN.At s k g l) hk ht => kN.at_step (ok := ok) (x := x) h hk ht
  have enN := fun g l (h : kN.At s (takeN s 2) g l) => kN.at_end h
  have brN := fun k l (h : kN.At s k false l) => kN.at_break h
  have saN := kN.at_start h3
  generalize kN.tL s = LN at *
  generalize kN.tR s = RN at *
  generalize kN.tE s = EN at *
  have tP := fun w => tpairs_v s w hs0
  have cdP := fun k g ok l x (h : kP.At s k g l) hk ht => kP.at_cond (ok := ok) (x := x) h hk ht
  have stP := fun k g ok l x (h : kP.At s k g l) hk ht => kP.at_step (ok := ok) (x := x) h hk ht
  have enP := fun g l (h : kP.At s (takeN s 2) g l) => kP.at_end h
  have brP := fun k l (h : kP.At s k false l) => kP.at_break h
  have saP := kP.at_start h3
  generalize kP.tL s = LP at *
  generalize kP.tR s = RP at *
  generalize kP.tE s = EP at *
  have tC := fun w => tchanges_v s w hs0
  have cdC := fun k g ok l x (h : kC.At s k g l) hk ht => kC.at_cond (ok := ok) (x := x) h hk ht
  have stC := fun k g ok l x (h : kC.At s k g l) hk ht => kC.at_step (ok := ok) (x := x) h hk ht
  have enC := fun g l (h : kC.At s (takeN s 2) g l) => kC.at_end h
  have brC := fun k l (h : kC.At s k false l) => kC.at_break h
  have saC := kC.at_start h3
  generalize kC.tL s = LC at *
  generalize kC.tR s = RC at *
  generalize kC.tE s = EC at *
  have tR := fun w => ranget_any s w hs0
  have dR := fun w => dtakerange_any s w h3
  have ro := range_once s
  generalize tRx s = X at *
  generalize tRr s = RR at *
  generalize tRe s = ER at *
  generalize (kR.dec s).isSome = OR at *
  obtain ⟨xlo, xhi, xop⟩ := X
  unfold Rng.v at tR dR
  simp only at tR dR
  have dt := fun w => dtake_any s 2 w
  have hM := takeN_lt s 2 (by decide)
  have hI : (takeE s 2 == 0) = takeOk s 2 := by
    have h := takeE_ne s 2
    rw [bne, Bool.not_eq_eq_eq_not, Bool.not_not] at h
    exact h
  generalize hMM : takeN s 2 = M at *
  generalize takeR s 2 = rest at *
  generalize takeE s 2 = I at *
  generalize takeOk s 2 = O0 at *
  have hM2 : M < 65536 := hM
  have hwM := i64_nat M (by omega)
  have HTR := Lib.hid tR
  have HDR := Lib.hid dR
  have HRO := Lib.hid ro
  have HDT := Lib.hid dt
  have H3 := Lib.hid h3
  have HTN := Lib.hid tN
  have HCDN := Lib.hid cdN
  have HSTN := Lib.hid stN
  have HENN := Lib.hid enN
  have HBRN := Lib.hid brN
  have HSAN := Lib.hid saN
  have HTP := Lib.hid tP
  have HCDP := Lib.hid cdP
  have HSTP := Lib.hid stP
  have HENP := Lib.hid enP
  have HBRP := Lib.hid brP
  have HSAP := Lib.hid saP
  have HTC := Lib.hid tC
  have HCDC := Lib.hid cdC
  have HSTC := Lib.hid stC
  have HENC := Lib.hid enC
  have HBRC := Lib.hid brC
  have HSAC := Lib.hid saC
  clear tR dR ro dt hM hMM h3 tN cdN stN enN brN saN tP cdP stP enP brP saP tC cdC stC enC brC saC
  have HB0 := Lib.hid (Below.refl w.heap.size w)
  obtain ⟨w0, hw0⟩ : ∃ w0, w0 = w := ⟨_, rfl⟩
  clear hw0
  go_enter Try.func4, Try.ntmps4
  go_wp2_with fail
  refine (HTN.out _).mono ?_
  rintro e w1 ⟨vN, rfl, hv, hb⟩
  have VN1 := Lib.hid hv
  clear hv
  have HB1 := Lib.hid (HB0.out.trans (hb.mono HB0.out.size))
  clear hb HB0 
  go_wp2_with fail
  refine (HTP.out _).mono ?_
  rintro e w2 ⟨vP, rfl, hv, hb⟩
  have VP2 := Lib.hid hv
  clear hv
  have HB2 := Lib.hid (HB1.out.trans (hb.mono HB1.out.size))
  have VN2 := Lib.hid (VN1.out.on hb)
  clear hb HB1 VN1 
  go_wp2_with fail
  refine (HTC.out _).mono ?_
  rintro e w3 ⟨vC, rfl, hv, hb⟩
  have VC3 := Lib.hid hv
  clear hv
  have HB3 := Lib.hid (HB2.out.trans (hb.mono HB2.out.size))
  have VN3 := Lib.hid (VN2.out.on hb)
  have VP3 := Lib.hid (VP2.out.on hb)
  clear hb HB2 VN2 VP2 
  go_wp2_with fail
  refine (HTR.out _).mono ?_
  rintro e w4 ⟨rfl, hb⟩
  have HB4 := Lib.hid (HB3.out.trans (hb.mono HB3.out.size))
  have VN4 := Lib.hid (VN3.out.on hb)
  have VP4 := Lib.hid (VP3.out.on hb)
  have VC4 := Lib.hid (VC3.out.on hb)
  clear hb HB3 VN3 VP3 VC3 
  obtain ⟨w5, hw5⟩ : ∃ wz, wz = w4.alloc (.cells #[.string xlo, .string xhi, .bool xop] 26) := ⟨_, rfl⟩
  obtain ⟨gA, hgA⟩ : ∃ gz, gz = w4.heap.size := ⟨_, rfl⟩
  have hb : Below w4.heap.size w4 w5 := by rw [hw5]; exact (Below.refl _ _).alloc (Nat.le_refl _) _
  have XA5 := Lib.hid (show Box w5 gA 26 #[.string xlo, .string xhi, .bool xop] from by rw [hw5]; exact Box.at_ w4 _ _ hgA)
  have HB5 := Lib.hid (HB4.out.trans (hb.mono HB4.out.size))
  have VN5 := Lib.hid (VN4.out.on hb)
  have VP5 := Lib.hid (VP4.out.on hb)
  have VC5 := Lib.hid (VC4.out.on hb)
  clear hb HB4 VN4 VP4 VC4 
  go_upto_region 7 with fail
  rw [← hgA, ← hw5]
  clear hgA hw5
  go_wp2_with fail
  refine (HDR.out _).mono ?_
  rintro e w6 ⟨rfl, hb⟩
  have HB6 := Lib.hid (HB5.out.trans (hb.mono HB5.out.size))
  have VN6 := Lib.hid (VN5.out.on hb)
  have VP6 := Lib.hid (VP5.out.on hb)
  have VC6 := Lib.hid (VC5.out.on hb)
  have XA6 := Lib.hid (XA5.out.on hb)
  clear hb HB5 VN5 VP5 VC5 XA5 
  obtain ⟨w7, hw7⟩ : ∃ wz, wz = w6.alloc (.cells #[.string xlo, .string xhi, .bool xop] 26) := ⟨_, rfl⟩
  obtain ⟨gB, hgB⟩ : ∃ gz, gz = w6.heap.size := ⟨_, rfl⟩
  have hb : Below w6.heap.size w6 w7 := by rw [hw7]; exact (Below.refl _ _).alloc (Nat.le_refl _) _
  have XB7 := Lib.hid (show Box w7 gB 26 #[.string xlo, .string xhi, .bool xop] from by rw [hw7]; exact Box.at_ w6 _ _ hgB)
  have HB7 := Lib.hid (HB6.out.trans (hb.mono HB6.out.size))
  have VN7 := Lib.hid (VN6.out.on hb)
  have VP7 := Lib.hid (VP6.out.on hb)
  have VC7 := Lib.hid (VC6.out.on hb)
  have XA7 := Lib.hid (XA6.out.on hb)
  clear hb HB6 VN6 VP6 VC6 XA6 
  go_upto_region 8 with fail
  rw [← hgB, ← hw7]
  clear hgB hw7
  obtain ⟨a0, a1, a2⟩ := (⟨Box.cell XA7.out 0 rfl, Box.cell XA7.out 1 rfl, Box.cell XA7.out 2 rfl⟩ : _ ∧ _ ∧ _)
  obtain ⟨b0, b1, b2⟩ := (⟨Box.cell XB7.out 0 rfl, Box.cell XB7.out 1 rfl, Box.cell XB7.out 2 rfl⟩ : _ ∧ _ ∧ _)
  go_cut [87] (fun v wx => v = .bool false ∧ w7 = wx)
  case first =>
    rcases HRO.out with ⟨rfl, rfl⟩ | ⟨rfl, rfl⟩
    · go_wp2
      go_meet
      case rel => exact ⟨by first | rfl | trivial, by first | rfl | trivial⟩
    · go_wp2
      go_meet
      case rel => exact ⟨by first | rfl | trivial, by first | rfl | trivial⟩
  case rest =>
  as_aux_lemma =>
  obtain ⟨rfl, rfl⟩ := hcut
  clear a0 a1 a2 b0 b1 b2 HRO
  clear XA7 XB7
  go_wp2_with fail
  refine (HDT.out _).mono ?_
  rintro e w8 ⟨rfl, hb⟩
  have HB8 := Lib.hid (HB7.out.trans (hb.mono HB7.out.size))
  have VN8 := Lib.hid (VN7.out.on hb)
  have VP8 := Lib.hid (VP7.out.on hb)
  have VC8 := Lib.hid (VC7.out.on hb)
  clear hb HB7 VN7 VP7 VC7 
  obtain ⟨wb, hwb⟩ : ∃ wz, wz = w8 := ⟨_, rfl⟩
  rw [← hwb]
  have HBw := HB8
  have VN := VN8
  have VP := VP8
  have VC := VC8
  rw [← hwb] at HBw VN VP VC
  clear HB8 VN8 VP8 VC8 hwb
  obtain ⟨w1, hw1⟩ : ∃ wz, wz = (wb.alloc (.cells #[.bool O0, .bool O0, .bool O0] 59)).alloc (.cells #[.string rest, .string rest, .string rest] 60) := ⟨_, rfl⟩
  obtain ⟨gG, hgG⟩ : ∃ gz, gz = wb.heap.size := ⟨_, rfl⟩
  obtain ⟨gL, hgL⟩ : ∃ gz, gz = wb.heap.size + 1 := ⟨_, rfl⟩
  have HB1 := Lib.hid (show Below wb.heap.size wb w1 from by rw [hw1]; exact ((Below.refl _ _).alloc (Nat.le_refl _) _).alloc (by simp) _)
  have BG1 := Lib.hid (show Box w1 gG 59 #[.bool O0, .bool O0, .bool O0] from by rw [hw1, hgG]; exact (Box.fresh _ _ _).push _)
  have BL1 := Lib.hid (show Box w1 gL 60 #[.string rest, .string rest, .string rest] from by rw [hw1, hgL]; exact Box.at_ _ _ _ (by simp))
  have HGB := Lib.hid (show wb.heap.size ≤ gG from by omega)
  have HLB0 := Lib.hid (show wb.heap.size ≤ gL from by omega)
  have HGL := Lib.hid (show gG ≠ gL from by omega)
  go_upto_region 13 with fail
  rw [← hgL, ← hgG, ← hw1]
  clear hw1 hgG hgL hI
  obtain ⟨AN, cN, rfl, hAN, _⟩ := VN.out
  obtain ⟨AP, cP, rfl, hAP, _⟩ := VP.out
  obtain ⟨AC, cC, rfl, hAC, _⟩ := VC.out
  obtain ⟨nN, hnN⟩ : ∃ m, LN.length = m := ⟨_, rfl⟩
  obtain ⟨nP, hnP⟩ : ∃ m, LP.length = m := ⟨_, rfl⟩
  obtain ⟨nC, hnC⟩ : ∃ m, LC.length = m := ⟨_, rfl⟩
  rw [hnN, hnP, hnC]
  have NLN := Lib.hid hnN
  have NLP := Lib.hid hnP
  have NLC := Lib.hid hnC
  have HAN := Lib.hid hAN
  have HAP := Lib.hid hAP
  have HAC := Lib.hid hAC
  clear hAN hAP hAC hnN hnP hnC VN VP VC
  go_upto_block 0 with fail
  go_cut [2] (fun v wx => v = .bool false ∧ ∃ (g0 g1 g2 : Bool) (l0 l1 l2 : ByteArray), Hid (OutE g0 EN RN l0) ∧ Hid (OutE g1 EP RP l1) ∧ Hid (OutE g2 EC RC l2) ∧ Hid (Box wx gG 59 #[.bool g0, .bool g1, .bool g2]) ∧ Hid (Box wx gL 60 #[.string l0, .string l1, .string l2]) ∧ Below wb.heap.size wb wx)
  case first =>
    go_wp2
    go_loopw [2, 107] (fun v2 vi wr => ∃ (k : Nat) (g0 g1 g2 : Bool) (l0 l1 l2 : ByteArray), vi = .int .i64 k ∧ v2 = .bool false ∧ k ≤ M ∧ Hid (kN.At s k g0 l0) ∧ Hid (kP.At s k g1 l1) ∧ Hid (kC.At s k g2 l2) ∧ Hid (Box wr gG 59 #[.bool g0, .bool g1, .bool g2]) ∧ Hid (Box wr gL 60 #[.string l0, .string l1, .string l2]) ∧ Below wb.heap.size wb wr) (fun _ vi _ => (M - intOf vi).toNat)
    case atStart => exact ⟨0, _, _, _, _, _, _, rfl, rfl, by omega, HSAN, HSAP, HSAC, BG1, BL1, HB1.out⟩
    case round =>
      clear HSAN HSAP HSAC BG1 BL1 HB1
      obtain ⟨k, g0, g1, g2, l0, l1, l2, rfl, rfl, hk, AtN, AtP, AtC, BGr, BLr, hbr⟩ := hrel
      by_cases hlt : k < M
      case neg =>
        have hkM : k = M := by omega
        have hN := AtN.out
        have hP := AtP.out
        have hC := AtC.out
        rw [hkM] at hN hP hC
        have ON := Lib.hid (HENN.out _ _ hN)
        have OP := Lib.hid (HENP.out _ _ hP)
        have OC := Lib.hid (HENC.out _ _ hC)
        clear hN hP hC hkM
        go_wp2
        go_meet
        case rel => exact ⟨by first | rfl | trivial, _, _, _, _, _, _, ON, OP, OC, BGr, BLr, hbr⟩
      have HLT := Lib.hid hlt
      obtain ⟨w2, hw2⟩ : ∃ wz, wz = wr := ⟨_, rfl⟩
      rw [← hw2] at BGr BLr hbr ⊢
      have HB2 := Lib.hid hbr
      have BG2 := BGr
      have BL2 := BLr
      clear hw2 hbr BGr BLr
      obtain ⟨z0, z1, z2⟩ := (⟨Box.cell BL2.out 0 rfl, Box.cell BL2.out 1 rfl, Box.cell BL2.out 2 rfl⟩ : _ ∧ _ ∧ _)
      go_wp2_with fail
      refine (dtakenote_any l0 _ AtN.out.1).mono ?_
      rintro e w3 ⟨xN, okN, rfl, htN, hb⟩
      have HB3 := Lib.hid (HB2.out.trans (hb.mono HB2.out.size))
      have BG3 := Lib.hid (BG2.out.on hb)
      have BL3 := Lib.hid (BL2.out.on hb)
      clear hb HB2 BG2 BL2 z0 z1 z2
      obtain ⟨xk, xkey, xval, xn⟩ := xN
      have HTLN := Lib.hid htN
      clear htN
      unfold Nt.v
      simp only
      obtain ⟨w4, hw4⟩ : ∃ wz, wz = w3.alloc (.cells #[.int .i64 xk, .string xkey, .string xval, .int .u64 (xn.toNat : Int)] 62) := ⟨_, rfl⟩
      obtain ⟨gxN, hgxN⟩ : ∃ gz, gz = w3.heap.size := ⟨_, rfl⟩
      have HNXN := Lib.hid (show gxN ≠ gG ∧ gxN ≠ gL from by have h1 := BG3.out.lt; have h2 := BL3.out.lt; omega)
      have hb : Below w3.heap.size w3 w4 := by rw [hw4]; exact (Below.refl _ _).alloc (Nat.le_refl _) _
      have XN4 := Lib.hid (show Box w4 gxN 62 #[.int .i64 xk, .string xkey, .string xval, .int .u64 (xn.toNat : Int)] from by rw [hw4]; exact Box.at_ w3 _ _ hgxN)
      have HB4 := Lib.hid (HB3.out.trans (hb.mono HB3.out.size))
      have BG4 := Lib.hid (BG3.out.on hb)
      have BL4 := Lib.hid (BL3.out.on hb)
      clear hb HB3 BG3 BL3 
      go_upto_region 17 with fail
      rw [← hgxN, ← hw4]
      clear hgxN hw4
      obtain ⟨gn0, hgn0⟩ : ∃ b, b = (g0 && okN) := ⟨_, rfl⟩
      have HGN0 := Lib.hid hgn0
      clear hgn0
      go_cut [2] (fun v wx => v = .bool false ∧ Hid (Box wx gG 59 #[.bool gn0, .bool g1, .bool g2]) ∧ Hid (Box wx gL 60 #[.string l0, .string l1, .string l2]) ∧ Hid (Box wx gxN 62 #[.int .i64 xk, .string xkey, .string xval, .int .u64 (xn.toNat : Int)]) ∧ Below wb.heap.size wb wx)
      case first =>
        as_aux_lemma =>
        obtain ⟨y0, y1, y2⟩ := (⟨Box.cell BG4.out 0 rfl, Box.cell BG4.out 1 rfl, Box.cell BG4.out 2 rfl⟩ : _ ∧ _ ∧ _)
        have f0 := Box.free BG4.out 0
        have hbz := Lib.hid (show Box (w4.setCell ⟨gG, 0, none⟩ (.bool gn0)) gG 59 #[.bool gn0, .bool g1, .bool g2] from Box.set BG4.out 0 _)
        have hlz := Lib.hid (show Box (w4.setCell ⟨gG, 0, none⟩ (.bool gn0)) gL 60 #[.string l0, .string l1, .string l2] from Box.away BL4.out (fun e => HGL.out e.symm) _)
        have hbb := Lib.hid (HB4.out.setCell (p := ⟨gG, 0, none⟩) HGB.out (.bool gn0))
        have hxzN := Lib.hid (show Box (w4.setCell ⟨gG, 0, none⟩ (.bool gn0)) gxN 62 #[.int .i64 xk, .string xkey, .string xval, .int .u64 (xn.toNat : Int)] from Box.away XN4.out (by have h1 := BG4.out.lt; have h2 := HNXN.out; show gxN ≠ gG; omega) _)
        have hgn := HGN0.out
        cases g0 with
        | true =>
          rw [Bool.true_and] at hgn
          rw [hgn] at hbz hlz hbb hxzN
          go_wp2
          go_meet
          case rel => exact ⟨by first | rfl | trivial, by rw [hgn]; exact hbz, hlz, hxzN, hbb.out⟩
        | false =>
          rw [Bool.false_and] at hgn
          rw [hgn] at hbz hlz hbb hxzN
          go_wp2
          go_meet
          case rel => exact ⟨by first | rfl | trivial, by rw [hgn]; exact hbz, hlz, hxzN, hbb.out⟩
      case rest =>
      as_aux_lemma =>
      obtain ⟨rfl, cBG, cBL, cXN, chb⟩ := hcut
      obtain ⟨w5, hw5⟩ : ∃ wz, wz = wc := ⟨_, rfl⟩
      rw [← hw5] at cBG cBL cXN chb ⊢
      clear HB4 BG4 BL4 XN4 hw5
      have HB5 := Lib.hid chb
      have BG5 := cBG
      have BL5 := cBL
      have XN5 := cXN
      clear chb cBG cBL cXN
      obtain ⟨z0, z1, z2⟩ := (⟨Box.cell BL5.out 0 rfl, Box.cell BL5.out 1 rfl, Box.cell BL5.out 2 rfl⟩ : _ ∧ _ ∧ _)
      go_wp2_with fail
      refine (dtakepair_any l1 _ (by have := AtP.out.1; unfold maxLen; omega)).mono ?_
      rintro e w6 ⟨xP, okP, rfl, htP, hb⟩
      have HB6 := Lib.hid (HB5.out.trans (hb.mono HB5.out.size))
      have BG6 := Lib.hid (BG5.out.on hb)
      have BL6 := Lib.hid (BL5.out.on hb)
      have XN6 := Lib.hid (XN5.out.on hb)
      clear hb HB5 BG5 BL5 XN5 z0 z1 z2
      obtain ⟨pk, pv⟩ := xP
      have HTLP := Lib.hid htP
      clear htP
      unfold Pr.v'
      simp only
      obtain ⟨w7, hw7⟩ : ∃ wz, wz = w6.alloc (.cells #[.string pk, .string pv] 66) := ⟨_, rfl⟩
      obtain ⟨gxP, hgxP⟩ : ∃ gz, gz = w6.heap.size := ⟨_, rfl⟩
      have HNXP := Lib.hid (show gxP ≠ gG ∧ gxP ≠ gL from by have h1 := BG6.out.lt; have h2 := BL6.out.lt; omega)
      have hb : Below w6.heap.size w6 w7 := by rw [hw7]; exact (Below.refl _ _).alloc (Nat.le_refl _) _
      have XP7 := Lib.hid (show Box w7 gxP 66 #[.string pk, .string pv] from by rw [hw7]; exact Box.at_ w6 _ _ hgxP)
      have HB7 := Lib.hid (HB6.out.trans (hb.mono HB6.out.size))
      have BG7 := Lib.hid (BG6.out.on hb)
      have BL7 := Lib.hid (BL6.out.on hb)
      have XN7 := Lib.hid (XN6.out.on hb)
      clear hb HB6 BG6 BL6 XN6 
      go_upto_region 19 with fail
      rw [← hgxP, ← hw7]
      clear hgxP hw7
      obtain ⟨gn1, hgn1⟩ : ∃ b, b = (g1 && okP) := ⟨_, rfl⟩
      have HGN1 := Lib.hid hgn1
      clear hgn1
      go_cut [2] (fun v wx => v = .bool false ∧ Hid (Box wx gG 59 #[.bool gn0, .bool gn1, .bool g2]) ∧ Hid (Box wx gL 60 #[.string l0, .string l1, .string l2]) ∧ Hid (Box wx gxN 62 #[.int .i64 xk, .string xkey, .string xval, .int .u64 (xn.toNat : Int)]) ∧ Hid (Box wx gxP 66 #[.string pk, .string pv]) ∧ Below wb.heap.size wb wx)
      case first =>
        as_aux_lemma =>
        obtain ⟨y0, y1, y2⟩ := (⟨Box.cell BG7.out 0 rfl, Box.cell BG7.out 1 rfl, Box.cell BG7.out 2 rfl⟩ : _ ∧ _ ∧ _)
        have f0 := Box.free BG7.out 1
        have hbz := Lib.hid (show Box (w7.setCell ⟨gG, 1, none⟩ (.bool gn1)) gG 59 #[.bool gn0, .bool gn1, .bool g2] from Box.set BG7.out 1 _)
        have hlz := Lib.hid (show Box (w7.setCell ⟨gG, 1, none⟩ (.bool gn1)) gL 60 #[.string l0, .string l1, .string l2] from Box.away BL7.out (fun e => HGL.out e.symm) _)
        have hbb := Lib.hid (HB7.out.setCell (p := ⟨gG, 1, none⟩) HGB.out (.bool gn1))
        have hxzN := Lib.hid (show Box (w7.setCell ⟨gG, 1, none⟩ (.bool gn1)) gxN 62 #[.int .i64 xk, .string xkey, .string xval, .int .u64 (xn.toNat : Int)] from Box.away XN7.out (by have h1 := BG7.out.lt; have h2 := HNXN.out; show gxN ≠ gG; omega) _)
        have hxzP := Lib.hid (show Box (w7.setCell ⟨gG, 1, none⟩ (.bool gn1)) gxP 66 #[.string pk, .string pv] from Box.away XP7.out (by have h1 := BG7.out.lt; have h2 := HNXP.out; show gxP ≠ gG; omega) _)
        have hgn := HGN1.out
        cases g1 with
        | true =>
          rw [Bool.true_and] at hgn
          rw [hgn] at hbz hlz hbb hxzN hxzP
          go_wp2
          go_meet
          case rel => exact ⟨by first | rfl | trivial, by rw [hgn]; exact hbz, hlz, hxzN, hxzP, hbb.out⟩
        | false =>
          rw [Bool.false_and] at hgn
          rw [hgn] at hbz hlz hbb hxzN hxzP
          go_wp2
          go_meet
          case rel => exact ⟨by first | rfl | trivial, by rw [hgn]; exact hbz, hlz, hxzN, hxzP, hbb.out⟩
      case rest =>
      as_aux_lemma =>
      obtain ⟨rfl, cBG, cBL, cXN, cXP, chb⟩ := hcut
      obtain ⟨w8, hw8⟩ : ∃ wz, wz = wc := ⟨_, rfl⟩
      rw [← hw8] at cBG cBL cXN cXP chb ⊢
      clear HB7 BG7 BL7 XN7 XP7 hw8
      have HB8 := Lib.hid chb
      have BG8 := cBG
      have BL8 := cBL
      have XN8 := cXN
      have XP8 := cXP
      clear chb cBG cBL cXN cXP
      obtain ⟨z0, z1, z2⟩ := (⟨Box.cell BL8.out 0 rfl, Box.cell BL8.out 1 rfl, Box.cell BL8.out 2 rfl⟩ : _ ∧ _ ∧ _)
      go_wp2_with fail
      refine (dtakechange_any l2 _ AtC.out.1).mono ?_
      rintro e w9 ⟨xC, okC, rfl, htC, hb⟩
      have HB9 := Lib.hid (HB8.out.trans (hb.mono HB8.out.size))
      have BG9 := Lib.hid (BG8.out.on hb)
      have BL9 := Lib.hid (BL8.out.on hb)
      have XN9 := Lib.hid (XN8.out.on hb)
      have XP9 := Lib.hid (XP8.out.on hb)
      clear hb HB8 BG8 BL8 XN8 XP8 z0 z1 z2
      obtain ⟨cs, ck, ch, cb, cg, ca⟩ := xC
      have HTLC := Lib.hid htC
      clear htC
      unfold Ch.v
      simp only
      obtain ⟨w10, hw10⟩ : ∃ wz, wz = w9.alloc (.cells #[.int .i64 cs, .string ck, .bool ch, .string cb, .bool cg, .string ca] 42) := ⟨_, rfl⟩
      obtain ⟨gxC, hgxC⟩ : ∃ gz, gz = w9.heap.size := ⟨_, rfl⟩
      have HNXC := Lib.hid (show gxC ≠ gG ∧ gxC ≠ gL from by have h1 := BG9.out.lt; have h2 := BL9.out.lt; omega)
      have hb : Below w9.heap.size w9 w10 := by rw [hw10]; exact (Below.refl _ _).alloc (Nat.le_refl _) _
      have XC10 := Lib.hid (show Box w10 gxC 42 #[.int .i64 cs, .string ck, .bool ch, .string cb, .bool cg, .string ca] from by rw [hw10]; exact Box.at_ w9 _ _ hgxC)
      have HB10 := Lib.hid (HB9.out.trans (hb.mono HB9.out.size))
      have BG10 := Lib.hid (BG9.out.on hb)
      have BL10 := Lib.hid (BL9.out.on hb)
      have XN10 := Lib.hid (XN9.out.on hb)
      have XP10 := Lib.hid (XP9.out.on hb)
      clear hb HB9 BG9 BL9 XN9 XP9 
      go_upto_region 21 with fail
      rw [← hgxC, ← hw10]
      clear hgxC hw10
      obtain ⟨gn2, hgn2⟩ : ∃ b, b = (g2 && okC) := ⟨_, rfl⟩
      have HGN2 := Lib.hid hgn2
      clear hgn2
      go_cut [2] (fun v wx => v = .bool false ∧ Hid (Box wx gG 59 #[.bool gn0, .bool gn1, .bool gn2]) ∧ Hid (Box wx gL 60 #[.string l0, .string l1, .string l2]) ∧ Hid (Box wx gxN 62 #[.int .i64 xk, .string xkey, .string xval, .int .u64 (xn.toNat : Int)]) ∧ Hid (Box wx gxP 66 #[.string pk, .string pv]) ∧ Hid (Box wx gxC 42 #[.int .i64 cs, .string ck, .bool ch, .string cb, .bool cg, .string ca]) ∧ Below wb.heap.size wb wx)
      case first =>
        as_aux_lemma =>
        obtain ⟨y0, y1, y2⟩ := (⟨Box.cell BG10.out 0 rfl, Box.cell BG10.out 1 rfl, Box.cell BG10.out 2 rfl⟩ : _ ∧ _ ∧ _)
        have f0 := Box.free BG10.out 2
        have hbz := Lib.hid (show Box (w10.setCell ⟨gG, 2, none⟩ (.bool gn2)) gG 59 #[.bool gn0, .bool gn1, .bool gn2] from Box.set BG10.out 2 _)
        have hlz := Lib.hid (show Box (w10.setCell ⟨gG, 2, none⟩ (.bool gn2)) gL 60 #[.string l0, .string l1, .string l2] from Box.away BL10.out (fun e => HGL.out e.symm) _)
        have hbb := Lib.hid (HB10.out.setCell (p := ⟨gG, 2, none⟩) HGB.out (.bool gn2))
        have hxzN := Lib.hid (show Box (w10.setCell ⟨gG, 2, none⟩ (.bool gn2)) gxN 62 #[.int .i64 xk, .string xkey, .string xval, .int .u64 (xn.toNat : Int)] from Box.away XN10.out (by have h1 := BG10.out.lt; have h2 := HNXN.out; show gxN ≠ gG; omega) _)
        have hxzP := Lib.hid (show Box (w10.setCell ⟨gG, 2, none⟩ (.bool gn2)) gxP 66 #[.string pk, .string pv] from Box.away XP10.out (by have h1 := BG10.out.lt; have h2 := HNXP.out; show gxP ≠ gG; omega) _)
        have hxzC := Lib.hid (show Box (w10.setCell ⟨gG, 2, none⟩ (.bool gn2)) gxC 42 #[.int .i64 cs, .string ck, .bool ch, .string cb, .bool cg, .string ca] from Box.away XC10.out (by have h1 := BG10.out.lt; have h2 := HNXC.out; show gxC ≠ gG; omega) _)
        have hgn := HGN2.out
        cases g2 with
        | true =>
          rw [Bool.true_and] at hgn
          rw [hgn] at hbz hlz hbb hxzN hxzP hxzC
          go_wp2
          go_meet
          case rel => exact ⟨by first | rfl | trivial, by rw [hgn]; exact hbz, hlz, hxzN, hxzP, hxzC, hbb.out⟩
        | false =>
          rw [Bool.false_and] at hgn
          rw [hgn] at hbz hlz hbb hxzN hxzP hxzC
          go_wp2
          go_meet
          case rel => exact ⟨by first | rfl | trivial, by rw [hgn]; exact hbz, hlz, hxzN, hxzP, hxzC, hbb.out⟩
      case rest =>
      as_aux_lemma =>
      obtain ⟨rfl, cBG, cBL, cXN, cXP, cXC, chb⟩ := hcut
      obtain ⟨w11, hw11⟩ : ∃ wz, wz = wc := ⟨_, rfl⟩
      rw [← hw11] at cBG cBL cXN cXP cXC chb ⊢
      clear HB10 BG10 BL10 XN10 XP10 XC10 hw11
      have HB11 := Lib.hid chb
      have BG11 := cBG
      have BL11 := cBL
      have XN11 := cXN
      have XP11 := cXP
      have XC11 := cXC
      clear chb cBG cBL cXN cXP cXC
      obtain ⟨ln0, hln0⟩ : ∃ t, t = (if gn0 = true then l0.extract (noteB (⟨xk, xkey, xval, xn⟩ : Nt)).size l0.size else l0) := ⟨_, rfl⟩
      have HLN0 := Lib.hid hln0
      clear hln0
      obtain ⟨y0, y1, y2⟩ := (⟨Box.cell BG11.out 0 rfl, Box.cell BG11.out 1 rfl, Box.cell BG11.out 2 rfl⟩ : _ ∧ _ ∧ _)
      go_upto_if 147 with fail
      clear y0 y1 y2
      go_cut [2] (fun v wx => v = .bool false ∧ Hid (Box wx gG 59 #[.bool gn0, .bool gn1, .bool gn2]) ∧ Hid (Box wx gL 60 #[.string ln0, .string l1, .string l2]) ∧ Hid (Box wx gxN 62 #[.int .i64 xk, .string xkey, .string xval, .int .u64 (xn.toNat : Int)]) ∧ Hid (Box wx gxP 66 #[.string pk, .string pv]) ∧ Hid (Box wx gxC 42 #[.int .i64 cs, .string ck, .bool ch, .string cb, .bool cg, .string ca]) ∧ Below wb.heap.size wb wx)
      case first =>
        as_aux_lemma =>
        cases hg : gn0 with
        | false =>
          have hln := HLN0.out
          rw [hg] at hln
          simp only [Bool.false_eq_true, if_false] at hln
          go_wp2
          go_meet
          case rel => exact ⟨by first | rfl | trivial, BG11, by rw [hln]; exact BL11, XN11, XP11, XC11, HB11.out⟩
        | true =>
          have hln := HLN0.out
          have hok := HGN0.out
          rw [hg] at hln hok
          simp only [if_true] at hln
          have hok2 : okN = true := by
            cases okN with
            | true => rfl
            | false => rw [Bool.and_false] at hok; cases hok
          have htl := HTLN.out
          rw [hok2] at htl
          obtain ⟨hr, hle⟩ := kN.tells_ok htl
          have hr2 : rightN (⟨xk, xkey, xval, xn⟩ : Nt) = true := hr
          have hle2 : (noteB (⟨xk, xkey, xval, xn⟩ : Nt)).size ≤ l0.size := hle
          obtain ⟨hkd, hk16, hv32⟩ := right_of hr2
          simp only at hkd hk16 hv32
          obtain ⟨xq, hxq⟩ := Int.eq_ofNat_of_zero_le (show 0 ≤ xk by omega)
          have hnb := fun w => dnotebytes_any xkey xval xq xn.toNat w (by omega) (by omega) (by omega) xn.toNat_lt
          rw [← hxq] at hnb
          have henc : noteB (⟨xk, xkey, xval, xn⟩ : Nt) = nS 1 xq ++ textS xkey ++ textS xval ++ nS 8 xn.toNat := by unfold noteB; rw [show xk = ((xq : Nat) : Int) from hxq]; simp only [Int.toNat_natCast, ba_assoc]
          rw [← henc] at hnb
          obtain ⟨enc, hen⟩ : ∃ t, t = noteB (⟨xk, xkey, xval, xn⟩ : Nt) := ⟨_, rfl⟩
          rw [← hen] at hnb hle2 hln
          obtain ⟨ly, hly⟩ : ∃ t, l0.extract enc.size l0.size = t := ⟨_, rfl⟩
          rw [hly] at hln
          have HNB := Lib.hid hnb
          have HLN := Lib.hid hln
          have HLY := Lib.hid hly
          have HLE := Lib.hid hle2
          have HNL := Lib.hid (show gxN ≠ gL ∧ gxP ≠ gL ∧ gxC ≠ gL from ⟨HNXN.out.2, HNXP.out.2, HNXC.out.2⟩)
          clear hnb hly hle2 hln htl hr hle hr2 henc hen hok hok2
          go_upto_region 23 with fail
          refine tk23 l0 l1 l2 ly enc gL gxN xk xkey xval xn _ _ _ (by rfl) (by rfl) (by rfl) BL11 XN11 HNL.out.1 HNB HLY.out HLE.out (fun fv wa hex hbz => ?_)
          have Z1 := Lib.hid hbz
          have Z2 := Lib.hid (hex.box BG11.out HGL.out)
          have Z3 := Lib.hid (hex.box XN11.out HNL.out.1)
          have Z4 := Lib.hid (hex.box XP11.out HNL.out.2.1)
          have Z5 := Lib.hid (hex.box XC11.out HNL.out.2.2)
          have Z6 := Lib.hid (Ex.below HB11.out hex HLB0.out HB11.out.size)
          clear hbz hex HNB
          simp only [puts, Act.put, List.setIfInBounds_toArray, List.set_cons_succ, List.set_cons_zero]
          go_wp2
          go_meet
          case rel => exact ⟨by first | rfl | trivial, Z2, by rw [HLN.out]; exact Z1, Z3, Z4, Z5, Z6.out⟩
      case rest =>
      as_aux_lemma =>
      obtain ⟨rfl, cBG, cBL, cXN, cXP, cXC, chb⟩ := hcut
      obtain ⟨w12, hw12⟩ : ∃ wz, wz = wc := ⟨_, rfl⟩
      rw [← hw12] at cBG cBL cXN cXP cXC chb ⊢
      clear HB11 BG11 BL11 XN11 XP11 XC11 hw12
      have HB12 := Lib.hid chb
      have BG12 := cBG
      have BL12 := cBL
      have XN12 := cXN
      have XP12 := cXP
      have XC12 := cXC
      clear chb cBG cBL cXN cXP cXC
      obtain ⟨ln1, hln1⟩ : ∃ t, t = (if gn1 = true then l1.extract (pairB (⟨pk, pv⟩ : Pr)).size l1.size else l1) := ⟨_, rfl⟩
      have HLN1 := Lib.hid hln1
      clear hln1
      obtain ⟨y0, y1, y2⟩ := (⟨Box.cell BG12.out 0 rfl, Box.cell BG12.out 1 rfl, Box.cell BG12.out 2 rfl⟩ : _ ∧ _ ∧ _)
      go_upto_if 156 with fail
      clear y0 y1 y2
      go_cut [2] (fun v wx => v = .bool false ∧ Hid (Box wx gG 59 #[.bool gn0, .bool gn1, .bool gn2]) ∧ Hid (Box wx gL 60 #[.string ln0, .string ln1, .string l2]) ∧ Hid (Box wx gxN 62 #[.int .i64 xk, .string xkey, .string xval, .int .u64 (xn.toNat : Int)]) ∧ Hid (Box wx gxP 66 #[.string pk, .string pv]) ∧ Hid (Box wx gxC 42 #[.int .i64 cs, .string ck, .bool ch, .string cb, .bool cg, .string ca]) ∧ Below wb.heap.size wb wx)
      case first =>
        as_aux_lemma =>
        cases hg : gn1 with
        | false =>
          have hln := HLN1.out
          rw [hg] at hln
          simp only [Bool.false_eq_true, if_false] at hln
          go_wp2
          go_meet
          case rel => exact ⟨by first | rfl | trivial, BG12, by rw [hln]; exact BL12, XN12, XP12, XC12, HB12.out⟩
        | true =>
          have hln := HLN1.out
          have hok := HGN1.out
          rw [hg] at hln hok
          simp only [if_true] at hln
          have hok2 : okP = true := by
            cases okP with
            | true => rfl
            | false => rw [Bool.and_false] at hok; cases hok
          have htl := HTLP.out
          rw [hok2] at htl
          obtain ⟨hr, hle⟩ := kP.tells_ok htl
          have hr2 : fitsP (⟨pk, pv⟩ : Pr) = true := hr
          have hle2 : (pairB (⟨pk, pv⟩ : Pr)).size ≤ l1.size := hle
          obtain ⟨hk16, hv32⟩ := (fitsP_iff _).1 hr2
          simp only at hk16 hv32
          have hnb := fun w => dpairbytes_any pk pv w (by omega) (by omega)
          have henc : pairB (⟨pk, pv⟩ : Pr) = textS pk ++ textS pv := rfl
          rw [← henc] at hnb
          obtain ⟨enc, hen⟩ : ∃ t, t = pairB (⟨pk, pv⟩ : Pr) := ⟨_, rfl⟩
          rw [← hen] at hnb hle2 hln
          obtain ⟨ly, hly⟩ : ∃ t, l1.extract enc.size l1.size = t := ⟨_, rfl⟩
          rw [hly] at hln
          have HNB := Lib.hid hnb
          have HLN := Lib.hid hln
          have HLY := Lib.hid hly
          have HLE := Lib.hid hle2
          have HNL := Lib.hid (show gxN ≠ gL ∧ gxP ≠ gL ∧ gxC ≠ gL from ⟨HNXN.out.2, HNXP.out.2, HNXC.out.2⟩)
          clear hnb hly hle2 hln htl hr hle hr2 henc hen hok hok2
          go_upto_region 25 with fail
          refine tk25 ln0 l1 l2 ly enc gL gxP pk pv _ _ _ (by rfl) (by rfl) (by rfl) BL12 XP12 HNL.out.2.1 HNB HLY.out HLE.out (fun fv wa hex hbz => ?_)
          have Z1 := Lib.hid hbz
          have Z2 := Lib.hid (hex.box BG12.out HGL.out)
          have Z3 := Lib.hid (hex.box XN12.out HNL.out.1)
          have Z4 := Lib.hid (hex.box XP12.out HNL.out.2.1)
          have Z5 := Lib.hid (hex.box XC12.out HNL.out.2.2)
          have Z6 := Lib.hid (Ex.below HB12.out hex HLB0.out HB12.out.size)
          clear hbz hex HNB
          simp only [puts, Act.put, List.setIfInBounds_toArray, List.set_cons_succ, List.set_cons_zero]
          go_wp2
          go_meet
          case rel => exact ⟨by first | rfl | trivial, Z2, by rw [HLN.out]; exact Z1, Z3, Z4, Z5, Z6.out⟩
      case rest =>
      as_aux_lemma =>
      obtain ⟨rfl, cBG, cBL, cXN, cXP, cXC, chb⟩ := hcut
      obtain ⟨w13, hw13⟩ : ∃ wz, wz = wc := ⟨_, rfl⟩
      rw [← hw13] at cBG cBL cXN cXP cXC chb ⊢
      clear HB12 BG12 BL12 XN12 XP12 XC12 hw13
      have HB13 := Lib.hid chb
      have BG13 := cBG
      have BL13 := cBL
      have XN13 := cXN
      have XP13 := cXP
      have XC13 := cXC
      clear chb cBG cBL cXN cXP cXC
      obtain ⟨ln2, hln2⟩ : ∃ t, t = (if gn2 = true then l2.extract (chB (⟨cs, ck, ch, cb, cg, ca⟩ : Ch)).size l2.size else l2) := ⟨_, rfl⟩
      have HLN2 := Lib.hid hln2
      clear hln2
      obtain ⟨y0, y1, y2⟩ := (⟨Box.cell BG13.out 0 rfl, Box.cell BG13.out 1 rfl, Box.cell BG13.out 2 rfl⟩ : _ ∧ _ ∧ _)
      go_upto_if 165 with fail
      clear y0 y1 y2
      go_cut [2] (fun v wx => v = .bool false ∧ Hid (Box wx gG 59 #[.bool gn0, .bool gn1, .bool gn2]) ∧ Hid (Box wx gL 60 #[.string ln0, .string ln1, .string ln2]) ∧ Hid (Box wx gxN 62 #[.int .i64 xk, .string xkey, .string xval, .int .u64 (xn.toNat : Int)]) ∧ Hid (Box wx gxP 66 #[.string pk, .string pv]) ∧ Hid (Box wx gxC 42 #[.int .i64 cs, .string ck, .bool ch, .string cb, .bool cg, .string ca]) ∧ Below wb.heap.size wb wx)
      case first =>
        as_aux_lemma =>
        cases hg : gn2 with
        | false =>
          have hln := HLN2.out
          rw [hg] at hln
          simp only [Bool.false_eq_true, if_false] at hln
          go_wp2
          go_meet
          case rel => exact ⟨by first | rfl | trivial, BG13, by rw [hln]; exact BL13, XN13, XP13, XC13, HB13.out⟩
        | true =>
          have hln := HLN2.out
          have hok := HGN2.out
          rw [hg] at hln hok
          simp only [if_true] at hln
          have hok2 : okC = true := by
            cases okC with
            | true => rfl
            | false => rw [Bool.and_false] at hok; cases hok
          have htl := HTLC.out
          rw [hok2] at htl
          obtain ⟨hr, hle⟩ := kC.tells_ok htl
          have hr2 : mayC (⟨cs, ck, ch, cb, cg, ca⟩ : Ch) = true := hr
          have hle2 : (chB (⟨cs, ck, ch, cb, cg, ca⟩ : Ch)).size ≤ l2.size := hle
          obtain ⟨hs1, hs2, hk16, hb32, ha32⟩ := may_of hr2
          simp only at hs1 hs2 hk16 hb32 ha32
          obtain ⟨xq, hxq⟩ := Int.eq_ofNat_of_zero_le (show 0 ≤ cs by omega)
          have hnb := fun w => dchbytes_any ck cb ca ch cg xq w (by omega) (by omega) (by omega) (by omega)
          rw [← hxq] at hnb
          have henc : chB (⟨cs, ck, ch, cb, cg, ca⟩ : Ch) = nS 4 xq ++ textS ck ++ fS ch ++ textS cb ++ fS cg ++ textS ca := by unfold chB; rw [show cs = ((xq : Nat) : Int) from hxq]; simp only [Int.toNat_natCast, ba_assoc]
          rw [← henc] at hnb
          obtain ⟨enc, hen⟩ : ∃ t, t = chB (⟨cs, ck, ch, cb, cg, ca⟩ : Ch) := ⟨_, rfl⟩
          rw [← hen] at hnb hle2 hln
          obtain ⟨ly, hly⟩ : ∃ t, l2.extract enc.size l2.size = t := ⟨_, rfl⟩
          rw [hly] at hln
          have HNB := Lib.hid hnb
          have HLN := Lib.hid hln
          have HLY := Lib.hid hly
          have HLE := Lib.hid hle2
          have HNL := Lib.hid (show gxN ≠ gL ∧ gxP ≠ gL ∧ gxC ≠ gL from ⟨HNXN.out.2, HNXP.out.2, HNXC.out.2⟩)
          clear hnb hly hle2 hln htl hr hle hr2 henc hen hok hok2
          go_upto_region 27 with fail
          refine tk27 ln0 ln1 l2 ly enc gL gxC cs ck cb ca ch cg _ _ _ (by rfl) (by rfl) (by rfl) BL13 XC13 HNL.out.2.2 HNB HLY.out HLE.out (fun fv wa hex hbz => ?_)
          have Z1 := Lib.hid hbz
          have Z2 := Lib.hid (hex.box BG13.out HGL.out)
          have Z3 := Lib.hid (hex.box XN13.out HNL.out.1)
          have Z4 := Lib.hid (hex.box XP13.out HNL.out.2.1)
          have Z5 := Lib.hid (hex.box XC13.out HNL.out.2.2)
          have Z6 := Lib.hid (Ex.below HB13.out hex HLB0.out HB13.out.size)
          clear hbz hex HNB
          simp only [puts, Act.put, List.setIfInBounds_toArray, List.set_cons_succ, List.set_cons_zero]
          go_wp2
          go_meet
          case rel => exact ⟨by first | rfl | trivial, Z2, by rw [HLN.out]; exact Z1, Z3, Z4, Z5, Z6.out⟩
      case rest =>
      as_aux_lemma =>
      obtain ⟨rfl, cBG, cBL, cXN, cXP, cXC, chb⟩ := hcut
      obtain ⟨w14, hw14⟩ : ∃ wz, wz = wc := ⟨_, rfl⟩
      rw [← hw14] at cBG cBL cXN cXP cXC chb ⊢
      clear HB13 BG13 BL13 XN13 XP13 XC13 hw14
      have HB14 := Lib.hid chb
      have BG14 := cBG
      have BL14 := cBL
      have XN14 := cXN
      have XP14 := cXP
      have XC14 := cXC
      clear chb cBG cBL cXN cXP cXC
      have cN := HCDN.out _ _ _ _ _ AtN.out hlt HTLN.out
      have cP := HCDP.out _ _ _ _ _ AtP.out hlt HTLP.out
      have cC := HCDC.out _ _ _ _ _ AtC.out hlt HTLC.out
      have sN := HSTN.out _ _ _ _ _ AtN.out hlt HTLN.out
      have sP := HSTP.out _ _ _ _ _ AtP.out hlt HTLP.out
      have sC := HSTC.out _ _ _ _ _ AtC.out hlt HTLC.out
      rw [← HGN0.out] at cN sN
      rw [← HGN1.out] at cP sP
      rw [← HGN2.out] at cC sC
      have sN2 : kN.At s (k + 1) gn0 ln0 := by rw [HLN0.out]; exact sN
      have sP2 : kP.At s (k + 1) gn1 ln1 := by rw [HLN1.out]; exact sP
      have sC2 : kC.At s (k + 1) gn2 ln2 := by rw [HLN2.out]; exact sC
      have HCN := Lib.hid cN
      have HCP := Lib.hid cP
      have HCC := Lib.hid cC
      have HSN := Lib.hid sN2
      have HSP := Lib.hid sP2
      have HSC := Lib.hid sC2
      clear cN cP cC sN sP sC sN2 sP2 sC2 AtN AtP AtC HTLN HTLP HTLC
      go_upto_region 28 with fail
      go_cut [239] (fun v wx => v = .bool false ∧ Below w14.heap.size w14 wx)
      case first =>
        as_aux_lemma =>
        refine tk28 gG k gn0 gn1 gn2 wb _ _ _ (by rfl) (by rfl) (by rfl) HB14 BG14 (by rfl) (by rfl) (by rfl) NLN HAN XN14 HCN (by rfl) (by rfl) (by rfl) NLP HAP XP14 HCP (by rfl) (by rfl) (by rfl) NLC HAC XC14 HCC (fun fv wf hS e239 => ?_)
        have HSf := Lib.hid hS
        clear hS
        simp only [puts, Act.put, List.setIfInBounds_toArray, List.set_cons_succ, List.set_cons_zero]
        rw [e239]
        go_wp2
        go_meet
        case rel => exact ⟨by first | rfl | trivial, HSf.out⟩
      case rest =>
      as_aux_lemma =>
      obtain ⟨rfl, hbf⟩ := hcut
      obtain ⟨w15, hw15⟩ : ∃ wz, wz = wc := ⟨_, rfl⟩
      rw [← hw15] at hbf ⊢
      clear hw15
      have HB15 := Lib.hid (HB14.out.trans (hbf.mono HB14.out.size))
      have BG15 := Lib.hid (BG14.out.on hbf)
      have BL15 := Lib.hid (BL14.out.on hbf)
      have XN15 := Lib.hid (XN14.out.on hbf)
      have XP15 := Lib.hid (XP14.out.on hbf)
      have XC15 := Lib.hid (XC14.out.on hbf)
      clear hbf HB14 BG14 BL14 XN14 XP14 XC14 
      clear XN15 XP15 XC15
      have hBR := BG15.out
      obtain ⟨y0, y1, y2⟩ := (⟨Box.cell BG15.out 0 rfl, Box.cell BG15.out 1 rfl, Box.cell BG15.out 2 rfl⟩ : _ ∧ _ ∧ _)
      clear hBR
      cases gn0 with
      | true =>
        go_wp2
        go_roundw
        case rel => exact ⟨k + 1, _, _, _, _, _, _, by go_num, by first | rfl | trivial, by omega, HSN, HSP, HSC, BG15, BL15, HB15.out⟩
        case measure => simp [intOf]; omega
      | false =>
        cases gn1 with
        | true =>
          go_wp2
          go_roundw
          case rel => exact ⟨k + 1, _, _, _, _, _, _, by go_num, by first | rfl | trivial, by omega, HSN, HSP, HSC, BG15, BL15, HB15.out⟩
          case measure => simp [intOf]; omega
        | false =>
          cases gn2 with
          | true =>
            go_wp2
            go_roundw
            case rel => exact ⟨k + 1, _, _, _, _, _, _, by go_num, by first | rfl | trivial, by omega, HSN, HSP, HSC, BG15, BL15, HB15.out⟩
            case measure => simp [intOf]; omega
          | false =>
            have ON := Lib.hid (HBRN.out _ _ HSN.out)
            have OP := Lib.hid (HBRP.out _ _ HSP.out)
            have OC := Lib.hid (HBRC.out _ _ HSC.out)
            go_wp2
            go_meet
            case rel => exact ⟨by first | rfl | trivial, _, _, _, _, _, _, ON, OP, OC, BG15, BL15, HB15.out⟩
  case rest =>
  obtain ⟨rfl, g0, g1, g2, l0, l1, l2, ON, OP, OC, cBG, cBL, chb⟩ := hcut
  obtain ⟨w2, hw2⟩ : ∃ wz, wz = wc := ⟨_, rfl⟩
  rw [← hw2] at cBG cBL chb ⊢
  have HB2 := Lib.hid chb
  clear hw2 chb
  obtain ⟨w3, hw3⟩ : ∃ wz, wz = w2.alloc (.cells #[.int .i64 EN, .int .i64 EP, .int .i64 EC] 30) := ⟨_, rfl⟩
  obtain ⟨gE, hgE⟩ : ∃ gz, gz = w2.heap.size := ⟨_, rfl⟩
  have hb3 : Below w2.heap.size w2 w3 := by rw [hw3]; exact (Below.refl _ _).alloc (Nat.le_refl _) _
  have BE3 := Lib.hid (show Box w3 gE 30 #[.int .i64 EN, .int .i64 EP, .int .i64 EC] from by rw [hw3]; exact Box.at_ w2 _ _ hgE)
  have BG3 := Lib.hid (cBG.out.on hb3)
  have BL3 := Lib.hid (cBL.out.on hb3)
  have HB3 := Lib.hid (HB2.out.trans (hb3.mono HB2.out.size))
  clear hb3 cBG cBL HB2
  go_upto_block 2 with fail
  rw [← hgE, ← hw3]
  clear hgE hw3
  go_wp2
  go_loopw [259] (fun vi wr => ∃ (k : Nat), vi = .int .i64 k ∧ k ≤ 3 ∧ w3 = wr) (fun vi _ => (3 - intOf vi).toNat)
  case atStart => exact ⟨0, rfl, by omega, rfl⟩
  case round =>
    obtain ⟨k, rfl, hk, hwr⟩ := hrel
    subst hwr
    obtain ⟨y0, y1, y2⟩ := (⟨Box.cell BG3.out 0 rfl, Box.cell BG3.out 1 rfl, Box.cell BG3.out 2 rfl⟩ : _ ∧ _ ∧ _)
    obtain ⟨e0, e1, e2⟩ := (⟨Box.cell BE3.out 0 rfl, Box.cell BE3.out 1 rfl, Box.cell BE3.out 2 rfl⟩ : _ ∧ _ ∧ _)
    rcases (show k = 0 ∨ k = 1 ∨ k = 2 ∨ k = 3 by omega) with rfl | rfl | rfl | rfl
    · rcases ON.out with ⟨rfl, rfl, _⟩ | ⟨rfl, rfl⟩
      · go_wp2
        go_roundw
        case rel => exact ⟨1, by go_num, by omega, by first | rfl | trivial⟩
        case measure => simp [intOf]
      · go_wp2
        go_roundw
        case rel => exact ⟨1, by go_num, by omega, by first | rfl | trivial⟩
        case measure => simp [intOf]
    · rcases OP.out with ⟨rfl, rfl, _⟩ | ⟨rfl, rfl⟩
      · go_wp2
        go_roundw
        case rel => exact ⟨2, by go_num, by omega, by first | rfl | trivial⟩
        case measure => simp [intOf]
      · go_wp2
        go_roundw
        case rel => exact ⟨2, by go_num, by omega, by first | rfl | trivial⟩
        case measure => simp [intOf]
    · rcases OC.out with ⟨rfl, rfl, _⟩ | ⟨rfl, rfl⟩
      · go_wp2
        go_roundw
        case rel => exact ⟨3, by go_num, by omega, by first | rfl | trivial⟩
        case measure => simp [intOf]
      · go_wp2
        go_roundw
        case rel => exact ⟨3, by go_num, by omega, by first | rfl | trivial⟩
        case measure => simp [intOf]
    · clear e0 e1 e2
      obtain ⟨z0, z1, z2⟩ := (⟨Box.cell BL3.out 0 rfl, Box.cell BL3.out 1 rfl, Box.cell BL3.out 2 rfl⟩ : _ ∧ _ ∧ _)
      have oN := ON.out
      have oP := OP.out
      have oC := OC.out
      unfold OutE at oN oP oC
      rcases oN with ⟨rfl, rfl, rfl⟩ | ⟨rfl, rfl⟩ <;> rcases oP with ⟨rfl, rfl, rfl⟩ | ⟨rfl, rfl⟩ <;> rcases oC with ⟨rfl, rfl, rfl⟩ | ⟨rfl, rfl⟩ <;>
      · go_wp2_with fail
        refine (awake_true _).mono ?_
        rintro e w9 ⟨rfl, hb⟩
        have HB9 := Lib.hid (HB3.out.trans (hb.mono HB3.out.size))
        have HBZ := Lib.hid (HBw.out.trans (HB9.out.mono HBw.out.size))
        clear hb
        go_wp2
        go_ret
        exact ⟨rfl, HBZ.out⟩

end Go.Proofs.Ytfbcmcckgjfdhaa
