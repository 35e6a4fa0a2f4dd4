/- The walk of FlatJoins: the bytes of a list are how many there are, and those of its things, one by one. -/
import Derived.Test.YtfbcmcckgjfdhaaFk
import Derived.Lib.MinMaxS
set_option linter.unusedVariables false
set_option linter.unusedSimpArgs false
namespace Go.Proofs.Ytfbcmcckgjfdhaa
open Go.RowKit Go.Sort

section
variable {α : Type} (K : Kd α)
/-- What stands behind the count in the bytes of a list of one. -/
def Kd.tailS (x : α) : ByteArray := (K.listS [x]).extract (min 2 (K.listS [x]).size) (K.listS [x]).size
def Kd.jn (l : List α) : ByteArray := l.foldr (fun x r => K.tailS x ++ r) noB
theorem Kd.jn_nil : K.jn [] = noB := rfl
theorem Kd.jn_cons (x : α) (l : List α) : K.jn (x :: l) = K.tailS x ++ K.jn l := rfl
theorem Kd.jn_append (a b : List α) : K.jn (a ++ b) = K.jn a ++ K.jn b := by
  induction a with
  | nil => rw [List.nil_append, Kd.jn_nil, noB_left]
  | cons x a ih => rw [List.cons_append, Kd.jn_cons, ih, Kd.jn_cons, ba_assoc]
theorem Kd.jn_take (l : List α) (k : Nat) (h : k < l.length) : K.jn (l.take (k + 1)) = K.jn (l.take k) ++ K.tailS l[k] := by
  rw [List.take_succ_eq_append_getElem h, Kd.jn_append, Kd.jn_cons, Kd.jn_nil, noB_right]
theorem Kd.may_one (x : α) : K.may [x] = K.ok x := by unfold Kd.may; simp
theorem Kd.tail_ok {x : α} (h : K.ok x = true) : K.tailS x = K.enc x := by
  have e : K.listS [x] = nS 2 1 ++ K.enc x := by
    rw [(K.yes_S (by rw [Kd.may_one]; exact h)).1]
    unfold Kd.list
    rw [Kd.cat_cons, Kd.cat_nil, noB_right]
    rfl
  unfold Kd.tailS
  rw [e]
  have hs : (nS 2 1 ++ K.enc x).size = 2 + (K.enc x).size := by rw [ByteArray.size_append, nS_size]
  apply ba_ext
  rw [hs, show min 2 (2 + (K.enc x).size) = 2 by omega, Lib.extract_data, data_append, nS_data, List.drop_append_of_le_length (by rw [be_length]; exact Nat.le_refl _), List.drop_of_length_le (by rw [be_length]; exact Nat.le_refl _), List.nil_append, List.take_of_length_le (by rw [len_data]; omega)]
theorem Kd.tail_size (x : α) : (K.listS [x]).size ≤ 130 ∧ (K.tailS x).size ≤ 130 := by
  have h1 : (K.listS [x]).size ≤ 130 := by
    cases h : K.ok x with
    | true =>
      rw [(K.yes_S (l := [x]) (by rw [Kd.may_one]; exact h)).1]
      have := K.list_len (l := [x]) (by rw [Kd.may_one]; exact h)
      simpa using this.2
    | false =>
      rw [(K.no_S (l := [x]) (by rw [Kd.may_one]; exact h)).1]
      show 0 ≤ 130; omega
  refine ⟨h1, ?_⟩
  unfold Kd.tailS
  rw [ByteArray.size_extract]
  omega
theorem Kd.jn_size (l : List α) : (K.jn l).size ≤ 130 * l.length := by
  induction l with
  | nil => rw [Kd.jn_nil]; show 0 ≤ _; omega
  | cons x l ih =>
    have := (K.tail_size x).2
    rw [Kd.jn_cons, ByteArray.size_append, List.length_cons]; omega
theorem Kd.jn_cat {l : List α} (h : l.all K.ok = true) : K.jn l = K.cat l := by
  induction l with
  | nil => rw [Kd.jn_nil, Kd.cat_nil]
  | cons x l ih =>
    rw [List.all_cons, Bool.and_eq_true] at h
    rw [Kd.jn_cons, K.tail_ok h.1, ih h.2, Kd.cat_cons]
theorem Kd.joins (l : List α) (h30 : l.length ≤ 30) : K.listE l = 1 ∨ (K.listE l = 0 ∧ nS 2 l.length ++ K.jn l = K.listS l) := by
  cases h : K.may l with
  | false => exact .inl (K.no_S h).2
  | true =>
    obtain ⟨y1, y2⟩ := K.yes_S h
    rw [y1, y2]
    refine .inr ⟨rfl, ?_⟩
    unfold Kd.may at h
    rw [Bool.and_eq_true] at h
    rw [K.jn_cat h.2]
    unfold Kd.list
    rfl
end

set_option maxRecDepth 100000 in
/-- Two bytes, the higher one 0, as a text. -/
theorem conv_count (n : Nat) (h : n ≤ 30) (w : World) : (convert 80 9 (.slice (some ⟨w.heap.size, 0, none⟩) 2 2)).run Try.prog (w.alloc (.cells #[.int .u8 0, .int .u8 (n : Int)] 5)) = .ok (.string (nS 2 n)) (w.alloc (.cells #[.int .u8 0, .int .u8 (n : Int)] 5)) := by
  have h1 := conv_two w 0 (n : Int) (by omega) (by omega) (by omega) (by omega)
  rw [h1]
  congr 2
  apply ba_ext
  rw [nS_data, be_two]
  have e1 : n / 256 = 0 := by omega
  have e2 : n % 256 = n := by omega
  rw [e1, e2]
  simp
set_option maxRecDepth 100000 in
theorem conv_count1 (n : Nat) (h : n ≤ 30) (w : World) (o : Obj) : (convert 80 9 (.slice (some ⟨w.heap.size + 1, 0, none⟩) 2 2)).run Try.prog ((w.alloc o).alloc (.cells #[.int .u8 0, .int .u8 (n : Int)] 5)) = .ok (.string (nS 2 n)) ((w.alloc o).alloc (.cells #[.int .u8 0, .int .u8 (n : Int)] 5)) := by
  have e : (w.alloc o).heap.size = w.heap.size + 1 := by simp
  have h1 := conv_count n h (w.alloc o)
  rw [e] at h1
  exact h1
set_option maxRecDepth 100000 in
theorem conv_count2 (n : Nat) (h : n ≤ 30) (w : World) (o q : Obj) : (convert 80 9 (.slice (some ⟨w.heap.size + 1 + 1, 0, none⟩) 2 2)).run Try.prog (((w.alloc o).alloc q).alloc (.cells #[.int .u8 0, .int .u8 (n : Int)] 5)) = .ok (.string (nS 2 n)) (((w.alloc o).alloc q).alloc (.cells #[.int .u8 0, .int .u8 (n : Int)] 5)) := by
  have e : ((w.alloc o).alloc q).heap.size = w.heap.size + 1 + 1 := by simp
  have h1 := conv_count n h ((w.alloc o).alloc q)
  rw [e] at h1
  exact h1
theorem u8_nat (n : Nat) (h : n ≤ 30) : IntKind.u8.wrap (n : Int) = (n : Int) := by
  simp [IntKind.wrap, IntKind.bits, IntKind.signed]; omega

set_option maxRecDepth 100000 in
set_option maxHeartbeats 8000000 in
theorem joins_walk (vn vp vc : Value) (ln : List Nt) (lp : List Pr) (lc : List Ch) (w : World) (hn : NV w vn ln) (hp : PV w vp lp) (hc : CV w vc lc) (mn : ln.length ≤ maxLen) (mp : lp.length ≤ maxLen) (mc : lc.length ≤ maxLen) :
    Calls Try.prog 7 #[vn, vp, vc] w fun e w' => e = .returned (.bool true) ∧ Below w.heap.size w w' := by
  have cN := Kd.joins kN ln
  have cP := Kd.joins kP lp
  have cC := Kd.joins kC lc
  have tN := fun v w h => notes_v v ln w h mn
  have tP := fun v w h => pairs_v v lp w h mp
  have tC := fun v w h => changes_v v lc w h mc
  have HB0 := Lib.hid (Below.refl w.heap.size w)
  have XN0 := Lib.hid hn
  have XP0 := Lib.hid hp
  have XC0 := Lib.hid hc
  obtain ⟨w0, hw0⟩ : ∃ w0, w0 = w := ⟨_, rfl⟩
  generalize kN.listS ln = SN at *
  generalize kN.listE ln = EN at *
  generalize kP.listS lp = SP at *
  generalize kP.listE lp = EP at *
  generalize kC.listS lc = SC at *
  generalize kC.listE lc = EC at *
  have HCN := Lib.hid cN
  have HTN := Lib.hid tN
  have HCP := Lib.hid cP
  have HTP := Lib.hid tP
  have HCC := Lib.hid cC
  have HTC := Lib.hid tC
  clear cN cP cC tN tP tC hn hp hc mn mp mc hw0
  go_enter Try.func7, Try.ntmps7
  go_wp2_with fail
  refine (fit_v vn vp vc ln lp lc _ XN0.out XP0.out XC0.out).mono ?_
  rintro e w1 ⟨R, rfl, hR, hb⟩
  have HB1 := Lib.hid (HB0.out.trans (hb.mono HB0.out.size))
  have XN1 := Lib.hid (XN0.out.on hb)
  have XP1 := Lib.hid (XP0.out.on hb)
  have XC1 := Lib.hid (XC0.out.on hb)
  clear hb HB0 XN0 XP0 XC0 
  have HR := Lib.hid hR
  clear hR
  cases R with
  | false =>
    go_wp2_with fail
    refine (awake_true _).mono ?_
    rintro e w2 ⟨rfl, hb⟩
    have HB2 := Lib.hid (HB1.out.trans (hb.mono HB1.out.size))
    clear hb HB1 
    go_wp2
    go_ret
    exact ⟨rfl, HB2.out⟩
  | true =>
  obtain ⟨h1, h2, h3⟩ := HR.out (by first | rfl | trivial)
  have DN := Lib.hid (HCN.out h1)
  have DP := Lib.hid (HCP.out h2)
  have DC := Lib.hid (HCC.out h3)
  clear HCN HCP HCC HR
  go_wp2_with fail
  refine (HTN.out _ _ XN1.out).mono ?_
  rintro e w3 ⟨rfl, hb⟩
  have HB3 := Lib.hid (HB1.out.trans (hb.mono HB1.out.size))
  have XN3 := Lib.hid (XN1.out.on hb)
  have XP3 := Lib.hid (XP1.out.on hb)
  have XC3 := Lib.hid (XC1.out.on hb)
  clear hb HB1 XN1 XP1 XC1 
  go_wp2_with fail
  refine (HTP.out _ _ XP3.out).mono ?_
  rintro e w4 ⟨rfl, hb⟩
  have HB4 := Lib.hid (HB3.out.trans (hb.mono HB3.out.size))
  have XN4 := Lib.hid (XN3.out.on hb)
  have XP4 := Lib.hid (XP3.out.on hb)
  have XC4 := Lib.hid (XC3.out.on hb)
  clear hb HB3 XN3 XP3 XC3 
  go_wp2_with fail
  refine (HTC.out _ _ XC4.out).mono ?_
  rintro e w5 ⟨rfl, hb⟩
  have HB5 := Lib.hid (HB4.out.trans (hb.mono HB4.out.size))
  have XN5 := Lib.hid (XN4.out.on hb)
  have XP5 := Lib.hid (XP4.out.on hb)
  have XC5 := Lib.hid (XC4.out.on hb)
  clear hb HB4 XN4 XP4 XC4 
  obtain ⟨AN, cN, hvN, hlN, _⟩ := XN5.out
  obtain ⟨AP, cP, hvP, hlP, _⟩ := XP5.out
  obtain ⟨AC, cC, hvC, hlC, _⟩ := XC5.out
  obtain ⟨nN, hnN⟩ : ∃ m, ln.length = m := ⟨_, rfl⟩
  obtain ⟨nP, hnP⟩ : ∃ m, lp.length = m := ⟨_, rfl⟩
  obtain ⟨nC, hnC⟩ : ∃ m, lc.length = m := ⟨_, rfl⟩
  rw [hnN] at h1 hvN
  rw [hnP] at h2 hvP
  rw [hnC] at h3 hvC
  have HLN := Lib.hid hnN
  have HLP := Lib.hid hnP
  have HLC := Lib.hid hnC
  have HAN := Lib.hid hlN
  have HAP := Lib.hid hlP
  have HAC := Lib.hid hlC
  have HB := HB5
  obtain ⟨wb, hwb⟩ : ∃ wb, wb = w5 := ⟨_, rfl⟩
  rw [← hwb] at HB HAN HAP HAC
  rw [hvN, hvP, hvC, ← hwb]
  clear XN5 XP5 XC5 HB5 hvN hvP hvC hlN hlP hlC hnN hnP hnC hwb
  go_wp2
  go_loopw [13, 51] (fun x i wr => ∃ (k : Nat), i = .int .i64 k ∧ x = .string (kN.jn (ln.take k)) ∧ k ≤ nN ∧ Below wb.heap.size wb wr) (fun _ i _ => (nN - intOf i).toNat)
  case atStart => exact ⟨0, rfl, rfl, by omega, Below.refl _ _⟩
  case round =>
    obtain ⟨k, rfl, rfl, hk, hbr⟩ := hrel
    by_cases hlt : k < nN
    · obtain ⟨ad, rfl, hab, hca⟩ := (HAN.out.below hbr).seeN (by rw [HLN.out]; omega)
      have hkl : k < ln.length := by rw [HLN.out]; exact hlt
      obtain ⟨c0, c1, c2, c3⟩ := hca k hkl
      obtain ⟨x, hx⟩ : ∃ x, x = ln[k]'hkl := ⟨_, rfl⟩
      rw [← hx] at c0 c1 c2 c3
      have hj := kN.jn_take ln k hkl
      rw [← hx] at hj
      have hjs := kN.jn_size (ln.take k)
      rw [List.length_take] at hjs
      have hts := kN.tail_size x
      have hcall := fun v w h => notes_v v [x] w h (by unfold maxLen; simp)
      unfold Kd.tailS at hj hts
      obtain ⟨J, hJ⟩ : ∃ J, J = kN.jn (ln.take k) := ⟨_, rfl⟩
      obtain ⟨S1, hS1⟩ : ∃ S1, S1 = kN.listS [x] := ⟨_, rfl⟩
      obtain ⟨E1, hE1⟩ : ∃ E1, E1 = kN.listE [x] := ⟨_, rfl⟩
      rw [← hJ] at hj hjs ⊢
      rw [← hS1] at hj hts hcall
      rw [← hE1] at hcall
      obtain ⟨m, hm⟩ : ∃ m, m = min 2 S1.size := ⟨_, rfl⟩
      rw [← hm] at hj hts
      have emin : min (2 : Int) (S1.size : Int) = (m : Int) := by omega
      have emin2 : min 2 S1.size = m := hm.symm
      have hms : m ≤ S1.size := by omega
      have hmi : (m : Int) ≤ (S1.size : Int) := by omega
      obtain ⟨T1, hT1⟩ : ∃ T1, S1.extract m S1.size = T1 := ⟨_, rfl⟩
      rw [hT1] at hj hts
      have hzz : ¬ 9223372036854775807 < J.size + T1.size := by omega
      have HJ2 := Lib.hid hj
      have HCALL := Lib.hid hcall
      have HM := Lib.hid hm
      clear hj hcall hjs hts hJ hS1 hE1 hx hca hm
      obtain ⟨xk, xkey, xval, xn⟩ := x
      simp only at c0 c1 c2 c3
      have hlt3 : (ad.add (k * 4)).block < wb.heap.size := by rw [block_of_add]; exact hab
      have hbs := hbr.size
      obtain ⟨wx, hwx⟩ : ∃ wx, wx = wr.alloc (.cells #[.int .i64 xk, .string xkey, .string xval, .int .u64 (xn.toNat : Int)] 62) := ⟨_, rfl⟩
      obtain ⟨gx, hgx⟩ : ∃ gx, gx = wr.heap.size := ⟨_, rfl⟩
      have hbx : Box wx gx 62 #[.int .i64 xk, .string xkey, .string xval, .int .u64 (xn.toNat : Int)] := by rw [hwx]; exact Box.at_ wr _ _ hgx
      have HB1 := Lib.hid (hbr.trans (show Below wb.heap.size wr wx from by rw [hwx]; exact ((Below.refl _ _).alloc (Nat.le_refl _) _).mono hbs))
      obtain ⟨k0, k1, k2, k3⟩ : _ ∧ _ ∧ _ ∧ _ := ⟨Box.cell hbx 0 rfl, Box.cell hbx 1 rfl, Box.cell hbx 2 rfl, Box.cell hbx 3 rfl⟩
      go_upto_region 10 with fail
      rw [← hgx, ← hwx]
      clear hgx hwx c0 c1 c2 c3 hbx hbr hbs
      go_wp2_with fail
      refine (HCALL.out _ _ (NV.lit rfl rfl rfl)).mono ?_
      rintro e w3 ⟨rfl, hb⟩
      have HB3 := Lib.hid (HB1.out.trans ((below1 hb).mono HB1.out.size))
      clear hb HB1 k0 k1 k2 k3 HCALL
      go_wp2
      go_roundw
      case rel => exact ⟨k + 1, by go_num, by rw [HJ2.out], by omega, HB3.out⟩
      case measure => simp [intOf]; omega
    · have hkn : k = ln.length := by rw [HLN.out]; omega
      have hjz : kN.jn (ln.take k) = kN.jn ln := by rw [hkn, List.take_length]
      rw [hjz]
      have HBN2 := Lib.hid hbr
      clear hbr hkn hjz
      obtain ⟨JN, hJN⟩ : ∃ J, J = kN.jn ln := ⟨_, rfl⟩
      rw [← hJN]
      have HJN := Lib.hid hJN
      clear hJN
      obtain ⟨wN, hwN⟩ : ∃ wz, wz = wr := ⟨_, rfl⟩
      rw [← hwN] at HBN2 ⊢
      clear hwN
      go_wp2
      clear hk hlt
      go_loopw [14, 71] (fun x i wr => ∃ (k : Nat), i = .int .i64 k ∧ x = .string (kP.jn (lp.take k)) ∧ k ≤ nP ∧ Below wb.heap.size wb wr) (fun _ i _ => (nP - intOf i).toNat)
      case atStart => exact ⟨0, rfl, rfl, by omega, HBN2.out⟩
      case round =>
        obtain ⟨k, rfl, rfl, hk, hbr⟩ := hrel
        by_cases hlt : k < nP
        · obtain ⟨ad, rfl, hab, hca⟩ := (HAP.out.below hbr).seeP (by rw [HLP.out]; omega)
          have hkl : k < lp.length := by rw [HLP.out]; exact hlt
          obtain ⟨c0, c1⟩ := hca k hkl
          obtain ⟨x, hx⟩ : ∃ x, x = lp[k]'hkl := ⟨_, rfl⟩
          rw [← hx] at c0 c1
          have hj := kP.jn_take lp k hkl
          rw [← hx] at hj
          have hjs := kP.jn_size (lp.take k)
          rw [List.length_take] at hjs
          have hts := kP.tail_size x
          have hcall := fun v w h => pairs_v v [x] w h (by unfold maxLen; simp)
          unfold Kd.tailS at hj hts
          obtain ⟨J, hJ⟩ : ∃ J, J = kP.jn (lp.take k) := ⟨_, rfl⟩
          obtain ⟨S1, hS1⟩ : ∃ S1, S1 = kP.listS [x] := ⟨_, rfl⟩
          obtain ⟨E1, hE1⟩ : ∃ E1, E1 = kP.listE [x] := ⟨_, rfl⟩
          rw [← hJ] at hj hjs ⊢
          rw [← hS1] at hj hts hcall
          rw [← hE1] at hcall
          obtain ⟨m, hm⟩ : ∃ m, m = min 2 S1.size := ⟨_, rfl⟩
          rw [← hm] at hj hts
          have emin : min (2 : Int) (S1.size : Int) = (m : Int) := by omega
          have emin2 : min 2 S1.size = m := hm.symm
          have hms : m ≤ S1.size := by omega
          have hmi : (m : Int) ≤ (S1.size : Int) := by omega
          obtain ⟨T1, hT1⟩ : ∃ T1, S1.extract m S1.size = T1 := ⟨_, rfl⟩
          rw [hT1] at hj hts
          have hzz : ¬ 9223372036854775807 < J.size + T1.size := by omega
          have HJ2 := Lib.hid hj
          have HCALL := Lib.hid hcall
          have HM := Lib.hid hm
          clear hj hcall hjs hts hJ hS1 hE1 hx hca hm
          obtain ⟨xkey, xval⟩ := x
          simp only at c0 c1
          have hlt3 : (ad.add (k * 2)).block < wb.heap.size := by rw [block_of_add]; exact hab
          have hbs := hbr.size
          obtain ⟨wx, hwx⟩ : ∃ wx, wx = wr.alloc (.cells #[.string xkey, .string xval] 66) := ⟨_, rfl⟩
          obtain ⟨gx, hgx⟩ : ∃ gx, gx = wr.heap.size := ⟨_, rfl⟩
          have hbx : Box wx gx 66 #[.string xkey, .string xval] := by rw [hwx]; exact Box.at_ wr _ _ hgx
          have HB1 := Lib.hid (hbr.trans (show Below wb.heap.size wr wx from by rw [hwx]; exact ((Below.refl _ _).alloc (Nat.le_refl _) _).mono hbs))
          obtain ⟨k0, k1⟩ : _ ∧ _ := ⟨Box.cell hbx 0 rfl, Box.cell hbx 1 rfl⟩
          go_upto_region 16 with fail
          rw [← hgx, ← hwx]
          clear hgx hwx c0 c1 hbx hbr hbs
          go_wp2_with fail
          refine (HCALL.out _ _ (PV.lit rfl rfl rfl)).mono ?_
          rintro e w3 ⟨rfl, hb⟩
          have HB3 := Lib.hid (HB1.out.trans ((below1 hb).mono HB1.out.size))
          clear hb HB1 k0 k1 HCALL
          go_wp2
          go_roundw
          case rel => exact ⟨k + 1, by go_num, by rw [HJ2.out], by omega, HB3.out⟩
          case measure => simp [intOf]; omega
        · have hkn : k = lp.length := by rw [HLP.out]; omega
          have hjz : kP.jn (lp.take k) = kP.jn lp := by rw [hkn, List.take_length]
          rw [hjz]
          have HBP2 := Lib.hid hbr
          clear hbr hkn hjz
          obtain ⟨JP, hJP⟩ : ∃ J, J = kP.jn lp := ⟨_, rfl⟩
          rw [← hJP]
          have HJP := Lib.hid hJP
          clear hJP
          obtain ⟨wP, hwP⟩ : ∃ wz, wz = wr := ⟨_, rfl⟩
          rw [← hwP] at HBP2 ⊢
          clear hwP
          go_wp2
          clear hk hlt
          go_loopw [15, 91] (fun x i wr => ∃ (k : Nat), i = .int .i64 k ∧ x = .string (kC.jn (lc.take k)) ∧ k ≤ nC ∧ Below wb.heap.size wb wr) (fun _ i _ => (nC - intOf i).toNat)
          case atStart => exact ⟨0, rfl, rfl, by omega, HBP2.out⟩
          case round =>
            obtain ⟨k, rfl, rfl, hk, hbr⟩ := hrel
            by_cases hlt : k < nC
            · obtain ⟨ad, rfl, hab, hca⟩ := (HAC.out.below hbr).seeC (by rw [HLC.out]; omega)
              have hkl : k < lc.length := by rw [HLC.out]; exact hlt
              obtain ⟨c0, c1, c2, c3, c4, c5⟩ := hca k hkl
              obtain ⟨x, hx⟩ : ∃ x, x = lc[k]'hkl := ⟨_, rfl⟩
              rw [← hx] at c0 c1 c2 c3 c4 c5
              have hj := kC.jn_take lc k hkl
              rw [← hx] at hj
              have hjs := kC.jn_size (lc.take k)
              rw [List.length_take] at hjs
              have hts := kC.tail_size x
              have hcall := fun v w h => changes_v v [x] w h (by unfold maxLen; simp)
              unfold Kd.tailS at hj hts
              obtain ⟨J, hJ⟩ : ∃ J, J = kC.jn (lc.take k) := ⟨_, rfl⟩
              obtain ⟨S1, hS1⟩ : ∃ S1, S1 = kC.listS [x] := ⟨_, rfl⟩
              obtain ⟨E1, hE1⟩ : ∃ E1, E1 = kC.listE [x] := ⟨_, rfl⟩
              rw [← hJ] at hj hjs ⊢
              rw [← hS1] at hj hts hcall
              rw [← hE1] at hcall
              obtain ⟨m, hm⟩ : ∃ m, m = min 2 S1.size := ⟨_, rfl⟩
              rw [← hm] at hj hts
              have emin : min (2 : Int) (S1.size : Int) = (m : Int) := by omega
              have emin2 : min 2 S1.size = m := hm.symm
              have hms : m ≤ S1.size := by omega
              have hmi : (m : Int) ≤ (S1.size : Int) := by omega
              obtain ⟨T1, hT1⟩ : ∃ T1, S1.extract m S1.size = T1 := ⟨_, rfl⟩
              rw [hT1] at hj hts
              have hzz : ¬ 9223372036854775807 < J.size + T1.size := by omega
              have HJ2 := Lib.hid hj
              have HCALL := Lib.hid hcall
              have HM := Lib.hid hm
              clear hj hcall hjs hts hJ hS1 hE1 hx hca hm
              obtain ⟨xs, xkey, had, xb, has, xa⟩ := x
              simp only at c0 c1 c2 c3 c4 c5
              have hlt3 : (ad.add (k * 6)).block < wb.heap.size := by rw [block_of_add]; exact hab
              have hbs := hbr.size
              obtain ⟨wx, hwx⟩ : ∃ wx, wx = wr.alloc (.cells #[.int .i64 xs, .string xkey, .bool had, .string xb, .bool has, .string xa] 42) := ⟨_, rfl⟩
              obtain ⟨gx, hgx⟩ : ∃ gx, gx = wr.heap.size := ⟨_, rfl⟩
              have hbx : Box wx gx 42 #[.int .i64 xs, .string xkey, .bool had, .string xb, .bool has, .string xa] := by rw [hwx]; exact Box.at_ wr _ _ hgx
              have HB1 := Lib.hid (hbr.trans (show Below wb.heap.size wr wx from by rw [hwx]; exact ((Below.refl _ _).alloc (Nat.le_refl _) _).mono hbs))
              obtain ⟨k0, k1, k2, k3, k4, k5⟩ : _ ∧ _ ∧ _ ∧ _ ∧ _ ∧ _ := ⟨Box.cell hbx 0 rfl, Box.cell hbx 1 rfl, Box.cell hbx 2 rfl, Box.cell hbx 3 rfl, Box.cell hbx 4 rfl, Box.cell hbx 5 rfl⟩
              go_upto_region 22 with fail
              rw [← hgx, ← hwx]
              clear hgx hwx c0 c1 c2 c3 c4 c5 hbx hbr hbs
              go_wp2_with fail
              refine (HCALL.out _ _ (CV.lit rfl rfl rfl)).mono ?_
              rintro e w3 ⟨rfl, hb⟩
              have HB3 := Lib.hid (HB1.out.trans ((below1 hb).mono HB1.out.size))
              clear hb HB1 k0 k1 k2 k3 k4 k5 HCALL
              go_wp2
              go_roundw
              case rel => exact ⟨k + 1, by go_num, by rw [HJ2.out], by omega, HB3.out⟩
              case measure => simp [intOf]; omega
            · have hkn : k = lc.length := by rw [HLC.out]; omega
              have hjz : kC.jn (lc.take k) = kC.jn lc := by rw [hkn, List.take_length]
              rw [hjz]
              have HBC2 := Lib.hid hbr
              clear hbr hkn hjz
              obtain ⟨JC, hJC⟩ : ∃ J, J = kC.jn lc := ⟨_, rfl⟩
              rw [← hJC]
              have HJC := Lib.hid hJC
              clear hJC
              obtain ⟨wC, hwC⟩ : ∃ wz, wz = wr := ⟨_, rfl⟩
              rw [← hwC] at HBC2 ⊢
              clear hwC
              go_upto_region 25 with fail
              clear hk hlt
              have cvN := fun w => conv_count nN h1 w
              have cvP := fun w => conv_count nP h2 w
              have cvC := fun w => conv_count nC h3 w
              have cvP1 := fun w o => conv_count1 nP h2 w o
              have cvC1 := fun w o => conv_count1 nC h3 w o
              have cvC2 := fun w o q => conv_count2 nC h3 w o q
              have uN := u8_nat nN h1
              have uP := u8_nat nP h2
              have uC := u8_nat nC h3
              have dN := DN.out
              have dP := DP.out
              have dC := DC.out
              rw [HLN.out, ← HJN.out] at dN
              rw [HLP.out, ← HJP.out] at dP
              rw [HLC.out, ← HJC.out] at dC
              have zN : ¬ 9223372036854775807 < (nS 2 nN).size + JN.size := by
                have := kN.jn_size ln
                rw [HLN.out, ← HJN.out] at this
                rw [nS_size]; omega
              have zP : ¬ 9223372036854775807 < (nS 2 nP).size + JP.size := by
                have := kP.jn_size lp
                rw [HLP.out, ← HJP.out] at this
                rw [nS_size]; omega
              have zC : ¬ 9223372036854775807 < (nS 2 nC).size + JC.size := by
                have := kC.jn_size lc
                rw [HLC.out, ← HJC.out] at this
                rw [nS_size]; omega
              generalize nS 2 nN = ON at *
              generalize nS 2 nP = OP at *
              generalize nS 2 nC = OC at *
              clear DN DP DC HJN HJP HJC
              rcases dN with rfl | ⟨rfl, eN⟩ <;> rcases dP with rfl | ⟨rfl, eP⟩ <;> rcases dC with rfl | ⟨rfl, eC⟩ <;>
              · go_wp2_with fail
                first | refine (awake_true _).mono ?_ | fail "HERE"
                rintro e wz ⟨rfl, hb⟩
                have HBZ := Lib.hid (show Below wb.heap.size wC wz from by
                  first
                  | exact hb.mono HBC2.out.size
                  | exact (below1 hb).mono HBC2.out.size
                  | exact (below1 (below1 hb)).mono HBC2.out.size
                  | exact (below1 (below1 (below1 hb))).mono HBC2.out.size)
                have HBW := Lib.hid (HB.out.trans ((HBC2.out.trans HBZ.out).mono HB.out.size))
                clear hb HBZ
                go_wp2
                go_ret
                exact ⟨rfl, HBW.out⟩

end Go.Proofs.Ytfbcmcckgjfdhaa
