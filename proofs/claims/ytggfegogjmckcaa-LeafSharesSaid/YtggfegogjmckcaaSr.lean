/- The library's merge, where the second stretch is one note. -/
import Derived.Test.YtggfegogjmckcaaSt
namespace Go.Proofs.Ytggfegogjmckcaa
open Go.Shelf Go.RowKit Go.Lib Go.Sort

variable {P : Program} {k : Nat} {enc : Nt → List Value} {w0 : World} {blk off : Nat} {d0 : Array Nt} {g : Nat} {cb : Array Value} {cf : Nt → Nt → Int}


set_option maxHeartbeats 4000000 in
set_option maxRecDepth 1000000 in
theorem sym_right (C : SCtx P k enc w0 blk off d0 g cb cf) (cap a m b : Nat) (x u y : List Nt) (e0 : Nt) (dk : Array Nt) (W : World) (h : SWK enc k w0 blk off dk W) (hd : dk.toList = x ++ u ++ [e0] ++ y)
    (ha : x.length = a) (hm : a + u.length = m) (hb : m + 1 = b) (hu1 : u.length ≠ 1) (hu : Rising u) (hs : dk.size = d0.size) :
    Calls P 50 #[.slice (some ⟨blk, off, none⟩) d0.size cap, .int .i64 a, .int .i64 m, .int .i64 b, .func (.func g) #[] cb] W (MPost enc k w0 blk off d0 x u [e0] y) := by
  have mixed := C.L.mixed; have t0 := C.L.t0; have a0 := C.L.a0; have z0 := C.L.z0; have v0 := C.L.v0; have t3 := C.L.t3; have a3 := C.L.a3; have z3 := C.L.z3; have v3 := C.L.v3; have t4 := C.L.t4; have a4 := C.L.a4; have z4 := C.L.z4; have v4 := C.L.v4
  have t23 := C.L.t23; have a23 := C.L.a23; have z23 := C.L.z23; have v23 := C.L.v23; have a46 := C.L.a46; have z46 := C.L.z46; have t62 := C.L.t62; have a62 := C.L.a62; have z62 := C.L.z62; have v62 := C.L.v62; have t71 := C.L.t71; have a71 := C.L.a71; have z71 := C.L.z71; have v71 := C.L.v71
  have u23 := run_underlying C.L.t23; have u3 := run_underlying C.L.t3; have u71 := run_underlying C.L.t71
  have eg := C.eg
  have F := C.L.f50
  have hsz : a + u.length + 1 + y.length = d0.size := by have h1 := congrArg List.length hd; simp at h1; omega
  have hN := C.hN
  obtain ⟨lu, hlu⟩ : ∃ lu, lu = u.length := ⟨_, rfl⟩
  have wm : IntKind.i64.wrap ((m : Int) - (a : Int)) = (lu : Int) := by rw [IntKind.wrap_i64]; omega
  have wb : IntKind.i64.wrap ((b : Int) - (m : Int)) = 1 := by rw [IntKind.wrap_i64]; omega
  have wl : ((lu : Int) == 1) = false := by simp; omega
  have HLU := Lib.hid hlu
  have HU1 := Lib.hid hu1
  have HC := Lib.hid C
  have HV := Lib.hid hu
  unfold MPost
  generalize hNe : d0.size = N at *
  have HD := Lib.hid hd
  have HS := Lib.hid h
  have HNE := Lib.hid hNe
  have HZ := Lib.hid (hs.trans hNe.symm)
  have ea : dk[m]! = e0 := (get_list (A := x ++ u) (B := y) (e := e0) (by rw [hd]; simp) (by simp; omega)).2
  have hav := Lib.hid (show ∀ i (h : i < u.length), dk[a + i]! = u[i] from fun i h => by
    have := (get_at (d := dk) hd (a + i) (by simp; omega)).2
    rw [this, List.getElem_append_left (by simp; omega), List.getElem_append_left (by simp; omega), List.getElem_append_right (by omega)]
    congr 1
    omega)
  have HEA := Lib.hid ea
  clear C h hd hNe hs hu ea hlu hu1
  go_enter F, Try.ntmps50
  go_wp2
  go_loopw [14, 15] (fun iv jv wr => ∃ (i j : Nat), iv = .int .i64 i ∧ jv = .int .i64 j ∧ a ≤ i ∧ i ≤ j ∧ j ≤ m ∧ Hid (i = a ∨ ∃ h : i - a - 1 < u.length, a < i ∧ ¬ e0.key < u[i - a - 1].key) ∧ Hid (j = m ∨ ∃ h : j - a < u.length, e0.key < u[j - a].key) ∧ Hid (SWK enc k w0 blk off dk wr)) (fun iv jv _ => (intOf jv - intOf iv).toNat)
  case atStart => exact ⟨a, m, rfl, rfl, by omega, by omega, by omega, .inl rfl, .inl rfl, HS.out⟩
  case round =>
    obtain ⟨i, j, rfl, rfl, hmi, hij, hjb, HI, HJ, HW⟩ := hrel
    by_cases hlt : i < j
    · have hh1 : (i + j) / 2 < d0.size := by rw [HNE.out]; omega
      have hjd : dk.size = d0.size := by rw [HZ.out]
      have lh := fun n os => HW.out.ld HC.out.R hjd P ((i + j) / 2) (by rw [hjd]; exact hh1) n os
      have la := fun n os => HW.out.ld HC.out.R hjd P m (by rw [hjd, HNE.out]; omega) n os
      have hcg := fun n os => HW.out.cmp HC.out.hcmp hjd dk[m]! dk[(i + j) / 2]! n os
      have hgr := Lib.hid (fun n os => HW.out.grown n os)
      obtain ⟨h', hh'⟩ : ∃ h', h' = (i + j) / 2 := ⟨_, rfl⟩
      have hvh := hav.out (h' - a) (by omega)
      rw [show a + (h' - a) = h' by omega] at hvh
      rw [HEA.out] at la hcg
      have hx1 : h' - a < u.length := by omega
      obtain ⟨eh, heh⟩ : ∃ e, e = u[h' - a]'hx1 := ⟨_, rfl⟩
      rw [← hh', hvh, ← heh] at lh hcg
      have hb1 : (h' : Int) < (N : Int) := by omega
      have hb2 : (m : Int) < (N : Int) := by omega
      have wh : ((i : Int) + (j : Int)) / 2 = (h' : Int) := by omega
      generalize dk[m]! = ea at *
      have HH := Lib.hid hh'
      have HVH := Lib.hid heh.symm
      clear hh' hvh hh1 hjd heh
      by_cases hl : cf e0 eh < 0
      · have hke := (HC.out.hcf e0 eh).1 hl
        have HXX := Lib.hid (show ∃ h : h' - a < u.length, e0.key < u[h' - a].key from ⟨by omega, by rw [HVH.out]; exact hke⟩)
        clear hke
        go_wp2_with fail
        go_quiet_grown (first | (go_at_fn g; refine Calls.grown_of (hcg _ _)))
        go_wp2
        go_roundw
        case rel => exact ⟨i, h', rfl, by go_num, by omega, by omega, by omega, HI, .inr HXX.out, hgr.out nq osq⟩
        case measure => simp [intOf]; omega
      · have hle : 0 ≤ cf e0 eh := by omega
        have hlb : decide (cf e0 eh < 0) = false := decide_eq_false hl
        have hke : ¬ e0.key < eh.key := fun h => hl ((HC.out.hcf e0 eh).2 h)
        have HX : ∃ h : h' + 1 - a - 1 < u.length, ¬ e0.key < u[h' + 1 - a - 1].key := ⟨by omega, by
          have e1 : u[h' + 1 - a - 1]'(by omega) = u[h' - a]'(by omega) := by congr 1; omega
          rw [e1, HVH.out]; exact hke⟩
        have HXX := Lib.hid HX
        clear hke HX
        go_wp2_with fail
        go_quiet_grown (first | (go_at_fn g; refine Calls.grown_of (hcg _ _)))
        go_wp2
        go_roundw
        case rel => exact ⟨h' + 1, j, by go_num, rfl, by omega, by omega, by omega, .inr (by obtain ⟨h1, h2⟩ := HXX.out; exact ⟨h1, by omega, h2⟩), HJ, hgr.out nq osq⟩
        case measure => simp [intOf]; omega
    · obtain rfl : i = j := by omega
      obtain ⟨c, hc⟩ : ∃ c, c = i - a := ⟨_, rfl⟩
      have hcv : c ≤ u.length := by omega
      have B1 := Lib.hid (show ∀ z ∈ u.take c, z.key ≤ e0.key from fun z hz => by
        rcases HI.out with h1 | ⟨h1, h2, h3⟩
        · have : c = 0 := by omega
          subst this; simp at hz
        · have h4 := rising_mem_take HV.out (n := c) (by omega) hcv z hz
          have e1 : u[c - 1]'(by omega) = u[i - a - 1] := by congr 1; omega
          rw [e1] at h4
          grind)
      have B2 := Lib.hid (show ∀ z ∈ u.drop c, e0.key < z.key from fun z hz => by
        rcases HJ.out with h1 | ⟨h1, h2⟩
        · rw [List.drop_eq_nil_of_le (by omega)] at hz
          simp at hz
        · have h4 := rising_mem_drop HV.out (n := c) (by omega) z hz
          have e1 : u[c]'(by omega) = u[i - a] := by congr 1
          rw [e1] at h4
          grind)
      have H00 := Lib.hid (show dk.toList = x ++ u.take c ++ (u.drop c).take (m - i) ++ e0 :: ((u.drop c).drop (m - i) ++ y) by
        rw [HD.out, List.take_of_length_le (show (u.drop c).length ≤ m - i by simp; omega), List.drop_eq_nil_of_le (show (u.drop c).length ≤ m - i by simp; omega)]
        conv => lhs; rw [← List.take_append_drop c u]
        simp only [List.append_assoc, List.cons_append, List.nil_append])
      clear HI HJ
      go_wp2
      go_loopw [17] (fun kv wr => ∃ (q : Nat) (dj : Array Nt), kv = .int .i64 q ∧ i ≤ q ∧ q ≤ m ∧ Hid (dj.toList = x ++ u.take c ++ (u.drop c).take (q - i) ++ e0 :: ((u.drop c).drop (q - i) ++ y)) ∧ Hid (dj.size = N) ∧ Hid (SWK enc k w0 blk off dj wr)) (fun kv _ => (intOf kv - i).toNat)
      case atStart => exact ⟨m, dk, rfl, by omega, by omega, H00, HZ.out.trans HNE.out, HW⟩
      case round =>
        obtain ⟨q, dj, rfl, haq, hqa, HL, HJ, HW⟩ := hrel
        by_cases hlt2 : i < q
        · obtain ⟨t, hte⟩ : ∃ t, t = q - 1 := ⟨_, rfl⟩
          have e1 : dj.toList = (x ++ u.take c ++ (u.drop c).take (t - i)) ++ (u.drop c)[t - i]'(by simp; omega) :: ([] ++ e0 :: ((u.drop c).drop (q - i) ++ y)) := by
            rw [HL.out, show q - i = t - i + 1 by omega, take_snoc1 (u.drop c) (t - i) (by simp; omega)]
            simp only [List.append_assoc, List.cons_append, List.nil_append]
          have htl : (x ++ u.take c ++ (u.drop c).take (t - i)).length = t := by simp; omega
          have hsw := swp_list e1 (j := t + 1) htl (by rw [htl]; simp)
          have htd : t < dj.size := by rw [HJ.out]; omega
          have hqd : t + 1 < dj.size := by rw [HJ.out]; omega
          rw [← swp_comm hqd, show t + 1 = q by omega] at hsw
          have hsd : q < dj.size := by rw [HJ.out]; omega
          have hjd : dj.size = d0.size := by rw [HJ.out, HNE.out]
          have lt1 := HW.out.ld1 HC.out.R hjd P t htd
          have ls1 := HW.out.ld1 HC.out.R hjd P q hsd
          have st1 := HW.out.st1 HC.out.R hjd P q hsd dj[t]!
          have st2 := HW.out.st2 HC.out.R hjd P q t hsd htd dj[t]! dj[q]!
          have hend := Lib.hid (HW.out.swapped HC.out.R q t hsd htd)
          have hkS : (enc dj[q]!).length = k := HC.out.R.hk _
          have hkT : (enc dj[t]!).length = k := HC.out.R.hk _
          have HN2 := Lib.hid (show (swp dj q t).toList = x ++ u.take c ++ (u.drop c).take (t - i) ++ e0 :: ((u.drop c).drop (t - i) ++ y) by
            rw [hsw, take_drop1 (u.drop c) (t - i) (by simp; omega), show q - i = t - i + 1 by omega]; simp only [List.append_assoc, List.cons_append, List.nil_append])
          have HSZ := Lib.hid (show (swp dj q t).size = N by rw [size_swp]; exact HJ.out)
          have q1 : (q : Int) < (N : Int) := by omega
          have q3 : (t : Int) < (N : Int) := by omega
          have wt : IntKind.i64.wrap ((q : Int) - 1) = (t : Int) := by rw [IntKind.wrap_i64]; omega
          generalize enc dj[q]! = cS at *
          generalize enc dj[t]! = cT at *
          generalize swp dj q t = dn at *
          have HTE := Lib.hid hte
          have HCC := Lib.hid hc
          clear e1 hsw hsd htd hqd hjd htl hte hc
          go_wp2_with fail
          go_big_region_o
          all_goals go_wp2
          go_roundw
          case rel => exact ⟨t, dn, by first | rfl | go_num | (congr 1; omega), by have := HTE.out; omega, by have := HTE.out; omega, HN2, HSZ, hend⟩
          case measure => have := HTE.out; simp [intOf]; omega
        · have hqe : q - i = 0 := by omega
          have HE := Lib.hid (show dj.toList = x ++ (u.take c ++ e0 :: u.drop c) ++ y by
            rw [HL.out, hqe, List.take_zero, List.drop_zero]; simp only [List.append_assoc, List.cons_append, List.nil_append])
          have HM := Lib.hid (show Merged (u.take c ++ e0 :: u.drop c) u [e0] from by
            have hp := rising_parts HV.out c
            have h1 := merged_join (s1 := u.take c ++ [e0]) (s2 := u.drop c) (u1 := u.take c) (u2 := u.drop c) (v1 := [e0]) (v2 := [])
              ⟨by simp, rising_join hp.1 (by simp [Rising]) (fun z hz y hy => by simp at hy; subst hy; exact B1.out z hz), StEq.rfl' _⟩ (Merged.left hp.2.1) hp.2.2 (by simp) (by simp) (fun y hy z hz => by simp at hy; subst hy; exact B2.out z hz)
            simpa using h1)
          clear hqe
          go_wp2
          (try simp only [Exit.inBlock, Exit.then]); refine bodyPost_ret (results_none rfl _ _ _) rfl ?_
          exact ⟨rfl, dj, _, HE.out, HM.out, HJ.out, HW.out⟩

end Go.Proofs.Ytggfegogjmckcaa
