/- The walk of FlatCuts: of what is written no beginning, but the whole, is taken. -/
import Derived.Test.YtfbcmcckgjfdhaaFk
set_option linter.unusedVariables false
set_option linter.unusedSimpArgs false
namespace Go.Proofs.Ytfbcmcckgjfdhaa
open Go.RowKit Go.Sort

theorem Kd.cuts {α : Type} (K : Kd α) (l : List α) (h30 : l.length ≤ 30) : K.listE l = 1 ∨ (K.listE l = 0 ∧ 0 < (K.listS l).size ∧ (K.listS l).size ≤ 10000 ∧ ∀ m, m < (K.listS l).size → K.tL ((K.listS l).extract 0 m) = [] ∧ K.tR ((K.listS l).extract 0 m) = noB ∧ K.tE ((K.listS l).extract 0 m) = 2) := by
  cases h : K.may l with
  | false => exact .inl (K.no_S h).2
  | true =>
    obtain ⟨y1, y2⟩ := K.yes_S h
    have hl := K.list_len h
    rw [y1, y2]
    exact .inr ⟨rfl, by omega, by omega, fun m hm => K.t_none (K.takeL_cut h m hm)⟩
theorem cuts_rng (r : Rng) : rE r = 1 ∨ (rE r = 0 ∧ 0 < (rS r).size ∧ (rS r).size ≤ 10000 ∧ ∀ m, m < (rS r).size → tRx ((rS r).extract 0 m) = noR ∧ tRr ((rS r).extract 0 m) = noB ∧ tRe ((rS r).extract 0 m) = 2) := by
  cases h : rightB r with
  | false => exact .inl (by unfold rE; rw [h]; rfl)
  | true =>
    have e1 : rS r = kR.enc r := by unfold rS; rw [h]; rfl
    have e2 : rE r = 0 := by unfold rE; rw [h]; rfl
    have hl := kR.len (x := r) h
    rw [e1, e2]
    exact .inr ⟨rfl, by omega, by omega, fun m hm => tR_none (kR.dec_cut h m hm)⟩

set_option maxRecDepth 100000 in
set_option maxHeartbeats 8000000 in
theorem cuts_walk (vn vp vc : Value) (ln : List Nt) (lp : List Pr) (lc : List Ch) (lo hi : ByteArray) (op : Bool) (a : Nat) (w : World) (hn : NV w vn ln) (hp : PV w vp lp) (hc : CV w vc lc) (mn : ln.length ≤ maxLen) (mp : lp.length ≤ maxLen) (mc : lc.length ≤ maxLen) (ha : a < 65536) :
    Calls Try.prog 8 #[vn, vp, vc, .agg #[.string lo, .string hi, .bool op], .int .u16 (a : Int)] w fun e w' => e = .returned (.bool true) ∧ Below w.heap.size w w' := by
  obtain ⟨w0, hw0⟩ : ∃ w0, w0 = w.alloc (.cells #[.string lo, .string hi, .bool op] 26) := ⟨_, rfl⟩
  obtain ⟨g, hg⟩ : ∃ g, g = w.heap.size := ⟨_, rfl⟩
  have hb0 : Below w.heap.size w w0 := by rw [hw0]; exact (Below.refl _ _).alloc (Nat.le_refl _) _
  have HB0 := Lib.hid hb0
  have XR0 := Lib.hid (show Box w0 g 26 #[.string lo, .string hi, .bool op] from by rw [hw0]; exact Box.at_ w _ _ hg)
  have XN0 := Lib.hid (hn.on hb0)
  have XP0 := Lib.hid (hp.on hb0)
  have XC0 := Lib.hid (hc.on hb0)
  have cN := Kd.cuts kN ln
  have cP := Kd.cuts kP lp
  have cC := Kd.cuts kC lc
  have cR := cuts_rng ⟨lo, hi, op⟩
  have tN := fun v w h => notes_v v ln w h mn
  have tP := fun v w h => pairs_v v lp w h mp
  have tC := fun v w h => changes_v v lc w h mc
  have tR := fun w => rangew_any lo hi op w
  generalize kN.listS ln = SN at *
  generalize kN.listE ln = EN at *
  generalize kP.listS lp = SP at *
  generalize kP.listE lp = EP at *
  generalize kC.listS lc = SC at *
  generalize kC.listE lc = EC at *
  generalize rS ⟨lo, hi, op⟩ = SR at *
  generalize rE ⟨lo, hi, op⟩ = ER at *
  have HCN := Lib.hid cN
  have HTN := Lib.hid tN
  have HCP := Lib.hid cP
  have HTP := Lib.hid tP
  have HCC := Lib.hid cC
  have HTC := Lib.hid tC
  have HCR := Lib.hid cR
  have HTR := Lib.hid tR
  clear cN cP cC cR tN tP tC tR hn hp hc hb0 mn mp mc
  go_enter Try.func8, Try.ntmps8
  go_upto_region 1 with fail
  rw [← hg, ← hw0]
  clear hg hw0
  go_wp2_with fail
  refine (fit_v vn vp vc ln lp lc _ XN0.out XP0.out XC0.out).mono ?_
  rintro e w1 ⟨R, rfl, hR, hb⟩
  have HB1 := Lib.hid (HB0.out.trans (hb.mono HB0.out.size))
  have XR1 := Lib.hid (XR0.out.on hb)
  have XN1 := Lib.hid (XN0.out.on hb)
  have XP1 := Lib.hid (XP0.out.on hb)
  have XC1 := Lib.hid (XC0.out.on hb)
  clear hb HB0 XR0 XN0 XP0 XC0 
  cases R with
  | false =>
    go_wp2_with fail
    refine (awake_true _).mono ?_
    rintro e w2 ⟨rfl, hb⟩
    have HB2 := Lib.hid (HB1.out.trans (hb.mono HB1.out.size))
    clear hb HB1 
    go_wp2
    go_ret
    exact ⟨rfl, HB2.out⟩
  | true =>
  obtain ⟨h1, h2, h3⟩ := hR rfl
  have cN := HCN.out h1
  have cP := HCP.out h2
  have cC := HCC.out h3
  have cR := HCR.out
  have DN := Lib.hid cN
  have DP := Lib.hid cP
  have DC := Lib.hid cC
  have DR := Lib.hid cR
  clear cN cP cC cR HCN HCP HCC HCR h1 h2 h3 hR
  obtain ⟨k0, k1, k2⟩ := (⟨Box.cell XR1.out 0 rfl, Box.cell XR1.out 1 rfl, Box.cell XR1.out 2 rfl⟩ : _ ∧ _ ∧ _)
  go_wp2_with fail
  refine (short_two lo hi w1 _).mono ?_
  rintro e w3 ⟨R, rfl, _, hb⟩
  have HB3 := Lib.hid (HB1.out.trans (hb.mono HB1.out.size))
  have XR3 := Lib.hid (XR1.out.on hb)
  have XN3 := Lib.hid (XN1.out.on hb)
  have XP3 := Lib.hid (XP1.out.on hb)
  have XC3 := Lib.hid (XC1.out.on hb)
  clear hb HB1 XR1 XN1 XP1 XC1 k0 k1 k2
  cases R with
  | false =>
    go_wp2_with fail
    refine (awake_true _).mono ?_
    rintro e w4 ⟨rfl, hb⟩
    have HB4 := Lib.hid (HB3.out.trans (hb.mono HB3.out.size))
    clear hb HB3 
    go_wp2
    go_ret
    exact ⟨rfl, HB4.out⟩
  | true =>
  go_wp2_with fail
  refine (HTN.out _ _ XN3.out).mono ?_
  rintro e w5 ⟨rfl, hb⟩
  have HB5 := Lib.hid (HB3.out.trans (hb.mono HB3.out.size))
  have XR5 := Lib.hid (XR3.out.on hb)
  have XN5 := Lib.hid (XN3.out.on hb)
  have XP5 := Lib.hid (XP3.out.on hb)
  have XC5 := Lib.hid (XC3.out.on hb)
  clear hb HB3 XR3 XN3 XP3 XC3 
  clear XN5
  go_wp2_with fail
  refine (HTP.out _ _ XP5.out).mono ?_
  rintro e w6 ⟨rfl, hb⟩
  have HB6 := Lib.hid (HB5.out.trans (hb.mono HB5.out.size))
  have XR6 := Lib.hid (XR5.out.on hb)
  have XP6 := Lib.hid (XP5.out.on hb)
  have XC6 := Lib.hid (XC5.out.on hb)
  clear hb HB5 XR5 XP5 XC5 
  clear XP6
  go_wp2_with fail
  refine (HTC.out _ _ XC6.out).mono ?_
  rintro e w7 ⟨rfl, hb⟩
  have HB7 := Lib.hid (HB6.out.trans (hb.mono HB6.out.size))
  have XR7 := Lib.hid (XR6.out.on hb)
  have XC7 := Lib.hid (XC6.out.on hb)
  clear hb HB6 XR6 XC6 
  clear XC7
  obtain ⟨k0, k1, k2⟩ := (⟨Box.cell XR7.out 0 rfl, Box.cell XR7.out 1 rfl, Box.cell XR7.out 2 rfl⟩ : _ ∧ _ ∧ _)
  go_wp2_with fail
  refine (HTR.out _).mono ?_
  rintro e w8 ⟨rfl, hb⟩
  have HB8 := Lib.hid (HB7.out.trans (hb.mono HB7.out.size))
  have XR8 := Lib.hid (XR7.out.on hb)
  clear hb HB7 XR7 k0 k1 k2
  clear XR8
  obtain ⟨q, hq⟩ : ∃ q : Bool, (q = false ∧ EN = 1) ∨ (q = true ∧ EN = 0) := by
    rcases DN.out with h | ⟨h, _⟩
    · exact ⟨false, .inl ⟨rfl, h⟩⟩
    · exact ⟨true, .inr ⟨rfl, h⟩⟩
  have HQ := Lib.hid hq
  clear hq
  go_upto_region 7 with fail
  go_cut [72] (fun v wx => v = .bool q ∧ w8 = wx)
  case first =>
    rcases DN.out with rfl | ⟨rfl, hz, _, _⟩
    · obtain rfl : q = false := by rcases HQ.out with ⟨h, _⟩ | ⟨_, h⟩ <;> first | exact h | exact absurd h (by decide)
      go_wp2
      go_meet
      case rel => exact ⟨by first | rfl | trivial, by first | rfl | trivial⟩
    · obtain rfl : q = true := by rcases HQ.out with ⟨_, h⟩ | ⟨h, _⟩ <;> first | exact h | exact absurd h (by decide)
      have hzi : (0 : Int) < (SN.size : Int) := by omega
      go_wp2
      go_meet
      case rel => exact ⟨by first | rfl | trivial, by first | rfl | trivial⟩
  case rest =>
  obtain ⟨rfl, rfl⟩ := hcut
  go_upto_if 72 with fail
  go_cut [10] (fun v wx => v = .bool false ∧ Below w.heap.size w wx)
  case first =>
    cases q with
    | false =>
      go_wp2
      go_meet
      case rel => exact ⟨by first | rfl | trivial, HB8.out⟩
    | true =>
    rcases DN.out with h1 | ⟨rfl, hz, hz2, hcut⟩
    · rcases HQ.out with ⟨h, _⟩ | ⟨_, h⟩
      · cases h
      · rw [h1] at h; cases h
    obtain ⟨m, hm⟩ : ∃ m, m = a % SN.size := ⟨_, rfl⟩
    have hml : m < SN.size := by rw [hm]; exact Nat.mod_lt _ hz
    obtain ⟨q1, q2, q3⟩ := hcut m hml
    have hmi : ((a : Int).tmod (SN.size : Int)) = (m : Int) := by rw [hm]; rfl
    have hmj : ((a : Int) % (SN.size : Int)) = (m : Int) := by rw [hm]; omega
    have hwa : IntKind.i64.wrap (a : Int) = (a : Int) := i64_nat a (by omega)
    have hzs : ¬ (SN.size : Int) = 0 := by omega
    have HM := Lib.hid hm
    have Q1 := Lib.hid q1
    have Q2 := Lib.hid q2
    have Q3 := Lib.hid q3
    clear hm q1 q2 q3 hcut
    have hc := tnotes_v (SN.extract 0 m) w8 (by rw [ByteArray.size_extract]; unfold maxLen; omega)
    rw [Q1.out, Q2.out, Q3.out] at hc
    have HC := Lib.hid hc
    clear hc Q1 Q2 Q3
    go_wp2_with fail
    refine (HC.out).mono ?_
    rintro e w9 ⟨v, rfl, _, hb⟩
    have HB9 := Lib.hid (HB8.out.trans (hb.mono HB8.out.size))
    clear hb HB8 
    go_wp2
    go_meet
    case rel => exact ⟨by first | rfl | trivial, HB9.out⟩
  case rest =>
  obtain ⟨rfl, hb10⟩ := hcut
  obtain ⟨w10, hw10⟩ : ∃ wz, wz = wc := ⟨_, rfl⟩
  rw [← hw10] at hb10 ⊢
  clear HB8 DN HQ hw10
  have HB10 := Lib.hid hb10
  clear hb10
  obtain ⟨q, hq⟩ : ∃ q : Bool, (q = false ∧ EP = 1) ∨ (q = true ∧ EP = 0) := by
    rcases DP.out with h | ⟨h, _⟩
    · exact ⟨false, .inl ⟨rfl, h⟩⟩
    · exact ⟨true, .inr ⟨rfl, h⟩⟩
  have HQ := Lib.hid hq
  clear hq
  go_upto_region 11 with fail
  go_cut [97] (fun v wx => v = .bool q ∧ w10 = wx)
  case first =>
    rcases DP.out with rfl | ⟨rfl, hz, _, _⟩
    · obtain rfl : q = false := by rcases HQ.out with ⟨h, _⟩ | ⟨_, h⟩ <;> first | exact h | exact absurd h (by decide)
      go_wp2
      go_meet
      case rel => exact ⟨by first | rfl | trivial, by first | rfl | trivial⟩
    · obtain rfl : q = true := by rcases HQ.out with ⟨_, h⟩ | ⟨h, _⟩ <;> first | exact h | exact absurd h (by decide)
      have hzi : (0 : Int) < (SP.size : Int) := by omega
      go_wp2
      go_meet
      case rel => exact ⟨by first | rfl | trivial, by first | rfl | trivial⟩
  case rest =>
  obtain ⟨rfl, rfl⟩ := hcut
  go_upto_if 97 with fail
  go_cut [10] (fun v wx => v = .bool false ∧ Below w.heap.size w wx)
  case first =>
    cases q with
    | false =>
      go_wp2
      go_meet
      case rel => exact ⟨by first | rfl | trivial, HB10.out⟩
    | true =>
    rcases DP.out with h1 | ⟨rfl, hz, hz2, hcut⟩
    · rcases HQ.out with ⟨h, _⟩ | ⟨_, h⟩
      · cases h
      · rw [h1] at h; cases h
    obtain ⟨m, hm⟩ : ∃ m, m = a % SP.size := ⟨_, rfl⟩
    have hml : m < SP.size := by rw [hm]; exact Nat.mod_lt _ hz
    obtain ⟨q1, q2, q3⟩ := hcut m hml
    have hmi : ((a : Int).tmod (SP.size : Int)) = (m : Int) := by rw [hm]; rfl
    have hmj : ((a : Int) % (SP.size : Int)) = (m : Int) := by rw [hm]; omega
    have hwa : IntKind.i64.wrap (a : Int) = (a : Int) := i64_nat a (by omega)
    have hzs : ¬ (SP.size : Int) = 0 := by omega
    have HM := Lib.hid hm
    have Q1 := Lib.hid q1
    have Q2 := Lib.hid q2
    have Q3 := Lib.hid q3
    clear hm q1 q2 q3 hcut
    have hc := tpairs_v (SP.extract 0 m) w10 (by rw [ByteArray.size_extract]; unfold maxLen; omega)
    rw [Q1.out, Q2.out, Q3.out] at hc
    have HC := Lib.hid hc
    clear hc Q1 Q2 Q3
    go_wp2_with fail
    refine (HC.out).mono ?_
    rintro e w11 ⟨v, rfl, _, hb⟩
    have HB11 := Lib.hid (HB10.out.trans (hb.mono HB10.out.size))
    clear hb HB10 
    go_wp2
    go_meet
    case rel => exact ⟨by first | rfl | trivial, HB11.out⟩
  case rest =>
  obtain ⟨rfl, hb12⟩ := hcut
  obtain ⟨w12, hw12⟩ : ∃ wz, wz = wc := ⟨_, rfl⟩
  rw [← hw12] at hb12 ⊢
  clear HB10 DP HQ hw12
  have HB12 := Lib.hid hb12
  clear hb12
  obtain ⟨q, hq⟩ : ∃ q : Bool, (q = false ∧ EC = 1) ∨ (q = true ∧ EC = 0) := by
    rcases DC.out with h | ⟨h, _⟩
    · exact ⟨false, .inl ⟨rfl, h⟩⟩
    · exact ⟨true, .inr ⟨rfl, h⟩⟩
  have HQ := Lib.hid hq
  clear hq
  go_upto_region 15 with fail
  go_cut [122] (fun v wx => v = .bool q ∧ w12 = wx)
  case first =>
    rcases DC.out with rfl | ⟨rfl, hz, _, _⟩
    · obtain rfl : q = false := by rcases HQ.out with ⟨h, _⟩ | ⟨_, h⟩ <;> first | exact h | exact absurd h (by decide)
      go_wp2
      go_meet
      case rel => exact ⟨by first | rfl | trivial, by first | rfl | trivial⟩
    · obtain rfl : q = true := by rcases HQ.out with ⟨_, h⟩ | ⟨h, _⟩ <;> first | exact h | exact absurd h (by decide)
      have hzi : (0 : Int) < (SC.size : Int) := by omega
      go_wp2
      go_meet
      case rel => exact ⟨by first | rfl | trivial, by first | rfl | trivial⟩
  case rest =>
  obtain ⟨rfl, rfl⟩ := hcut
  go_upto_if 122 with fail
  go_cut [10] (fun v wx => v = .bool false ∧ Below w.heap.size w wx)
  case first =>
    cases q with
    | false =>
      go_wp2
      go_meet
      case rel => exact ⟨by first | rfl | trivial, HB12.out⟩
    | true =>
    rcases DC.out with h1 | ⟨rfl, hz, hz2, hcut⟩
    · rcases HQ.out with ⟨h, _⟩ | ⟨_, h⟩
      · cases h
      · rw [h1] at h; cases h
    obtain ⟨m, hm⟩ : ∃ m, m = a % SC.size := ⟨_, rfl⟩
    have hml : m < SC.size := by rw [hm]; exact Nat.mod_lt _ hz
    obtain ⟨q1, q2, q3⟩ := hcut m hml
    have hmi : ((a : Int).tmod (SC.size : Int)) = (m : Int) := by rw [hm]; rfl
    have hmj : ((a : Int) % (SC.size : Int)) = (m : Int) := by rw [hm]; omega
    have hwa : IntKind.i64.wrap (a : Int) = (a : Int) := i64_nat a (by omega)
    have hzs : ¬ (SC.size : Int) = 0 := by omega
    have HM := Lib.hid hm
    have Q1 := Lib.hid q1
    have Q2 := Lib.hid q2
    have Q3 := Lib.hid q3
    clear hm q1 q2 q3 hcut
    have hc := tchanges_v (SC.extract 0 m) w12 (by rw [ByteArray.size_extract]; unfold maxLen; omega)
    rw [Q1.out, Q2.out, Q3.out] at hc
    have HC := Lib.hid hc
    clear hc Q1 Q2 Q3
    go_wp2_with fail
    refine (HC.out).mono ?_
    rintro e w13 ⟨v, rfl, _, hb⟩
    have HB13 := Lib.hid (HB12.out.trans (hb.mono HB12.out.size))
    clear hb HB12 
    go_wp2
    go_meet
    case rel => exact ⟨by first | rfl | trivial, HB13.out⟩
  case rest =>
  obtain ⟨rfl, hb14⟩ := hcut
  obtain ⟨w14, hw14⟩ : ∃ wz, wz = wc := ⟨_, rfl⟩
  rw [← hw14] at hb14 ⊢
  clear HB12 DC HQ hw14
  have HB14 := Lib.hid hb14
  clear hb14
  obtain ⟨q, hq⟩ : ∃ q : Bool, (q = false ∧ ER = 1) ∨ (q = true ∧ ER = 0) := by
    rcases DR.out with h | ⟨h, _⟩
    · exact ⟨false, .inl ⟨rfl, h⟩⟩
    · exact ⟨true, .inr ⟨rfl, h⟩⟩
  have HQ := Lib.hid hq
  clear hq
  go_upto_region 19 with fail
  go_cut [147] (fun v wx => v = .bool q ∧ w14 = wx)
  case first =>
    rcases DR.out with rfl | ⟨rfl, hz, _, _⟩
    · obtain rfl : q = false := by rcases HQ.out with ⟨h, _⟩ | ⟨_, h⟩ <;> first | exact h | exact absurd h (by decide)
      go_wp2
      go_meet
      case rel => exact ⟨by first | rfl | trivial, by first | rfl | trivial⟩
    · obtain rfl : q = true := by rcases HQ.out with ⟨_, h⟩ | ⟨h, _⟩ <;> first | exact h | exact absurd h (by decide)
      have hzi : (0 : Int) < (SR.size : Int) := by omega
      go_wp2
      go_meet
      case rel => exact ⟨by first | rfl | trivial, by first | rfl | trivial⟩
  case rest =>
  obtain ⟨rfl, rfl⟩ := hcut
  go_upto_if 147 with fail
  go_cut [10] (fun v wx => v = .bool false ∧ Below w.heap.size w wx)
  case first =>
    cases q with
    | false =>
      go_wp2
      go_meet
      case rel => exact ⟨by first | rfl | trivial, HB14.out⟩
    | true =>
    rcases DR.out with h1 | ⟨rfl, hz, hz2, hcut⟩
    · rcases HQ.out with ⟨h, _⟩ | ⟨_, h⟩
      · cases h
      · rw [h1] at h; cases h
    obtain ⟨m, hm⟩ : ∃ m, m = a % SR.size := ⟨_, rfl⟩
    have hml : m < SR.size := by rw [hm]; exact Nat.mod_lt _ hz
    obtain ⟨q1, q2, q3⟩ := hcut m hml
    have hmi : ((a : Int).tmod (SR.size : Int)) = (m : Int) := by rw [hm]; rfl
    have hmj : ((a : Int) % (SR.size : Int)) = (m : Int) := by rw [hm]; omega
    have hwa : IntKind.i64.wrap (a : Int) = (a : Int) := i64_nat a (by omega)
    have hzs : ¬ (SR.size : Int) = 0 := by omega
    have HM := Lib.hid hm
    have Q1 := Lib.hid q1
    have Q2 := Lib.hid q2
    have Q3 := Lib.hid q3
    clear hm q1 q2 q3 hcut
    have hc := ranget_any (SR.extract 0 m) w14 (by rw [ByteArray.size_extract]; unfold maxLen; omega)
    rw [Q1.out, Q2.out, Q3.out] at hc
    unfold noR Rng.v at hc
    simp only at hc
    have HC := Lib.hid hc
    clear hc Q1 Q2 Q3
    go_wp2_with fail
    refine (HC.out).mono ?_
    rintro e w15 ⟨rfl, hb⟩
    have HB15 := Lib.hid (HB14.out.trans (hb.mono HB14.out.size))
    clear hb HB14 
    go_wp2
    go_meet
    case rel => exact ⟨by first | rfl | trivial, HB15.out.alloc HB15.out.size _⟩
  case rest =>
  obtain ⟨rfl, hb16⟩ := hcut
  obtain ⟨w16, hw16⟩ : ∃ wz, wz = wc := ⟨_, rfl⟩
  rw [← hw16] at hb16 ⊢
  clear HB14 DR HQ hw16
  have HB16 := Lib.hid hb16
  clear hb16
  go_wp2_with fail
  refine (awake_true _).mono ?_
  rintro e w17 ⟨rfl, hb⟩
  have HB17 := Lib.hid (HB16.out.trans (hb.mono HB16.out.size))
  clear hb HB16 
  go_wp2
  go_ret
  exact ⟨rfl, HB17.out⟩

end Go.Proofs.Ytfbcmcckgjfdhaa
