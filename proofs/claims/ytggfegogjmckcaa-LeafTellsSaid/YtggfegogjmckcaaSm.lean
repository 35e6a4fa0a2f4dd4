/- The library's merge of two rising stretches of notes in place. -/
import Derived.Test.YtggfegogjmckcaaSt
namespace Go.Proofs.Ytggfegogjmckcaa
open Go.Shelf Go.RowKit Go.Lib Go.Sort

variable {P : Program} {k : Nat} {enc : Nt → List Value} {w0 : World} {blk off : Nat} {d0 : Array Nt} {g : Nat} {cb : Array Value} {cf : Nt → Nt → Int}

set_option maxHeartbeats 4000000 in
set_option maxRecDepth 1000000 in
theorem sym_left (C : SCtx P k enc w0 blk off d0 g cb cf) (cap a m b : Nat) (x v y : List Nt) (e0 : Nt) (dk : Array Nt) (W : World) (h : SWK enc k w0 blk off dk W) (hd : dk.toList = x ++ [e0] ++ v ++ y)
    (ha : x.length = a) (hm : a + 1 = m) (hb : m + v.length = b) (hv : Rising v) (hs : dk.size = d0.size) :
    Calls P 50 #[.slice (some ⟨blk, off, none⟩) d0.size cap, .int .i64 a, .int .i64 m, .int .i64 b, .func (.func g) #[] cb] W (MPost enc k w0 blk off d0 x [e0] v y) := by
  have mixed := C.L.mixed; have t0 := C.L.t0; have a0 := C.L.a0; have z0 := C.L.z0; have v0 := C.L.v0; have t3 := C.L.t3; have a3 := C.L.a3; have z3 := C.L.z3; have v3 := C.L.v3; have t4 := C.L.t4; have a4 := C.L.a4; have z4 := C.L.z4; have v4 := C.L.v4
  have t23 := C.L.t23; have a23 := C.L.a23; have z23 := C.L.z23; have v23 := C.L.v23; have a46 := C.L.a46; have z46 := C.L.z46; have t62 := C.L.t62; have a62 := C.L.a62; have z62 := C.L.z62; have v62 := C.L.v62; have t71 := C.L.t71; have a71 := C.L.a71; have z71 := C.L.z71; have v71 := C.L.v71
  have u23 := run_underlying C.L.t23; have u3 := run_underlying C.L.t3; have u71 := run_underlying C.L.t71
  have eg := C.eg
  have F := C.L.f50
  have hsz : a + 1 + v.length + y.length = d0.size := by have h1 := congrArg List.length hd; simp at h1; omega
  have hN := C.hN
  have wm : IntKind.i64.wrap ((m : Int) - (a : Int)) = 1 := by rw [IntKind.wrap_i64]; omega
  have HC := Lib.hid C
  have HV := Lib.hid hv
  unfold MPost
  generalize hNe : d0.size = N at *
  have HD := Lib.hid hd
  have HS := Lib.hid h
  have HNE := Lib.hid hNe
  have HZ := Lib.hid (hs.trans hNe.symm)
  have ea : dk[a]! = e0 := (get_list (A := x) (B := v ++ y) (e := e0) (by rw [hd]; simp) ha).2
  have hav := Lib.hid (show ∀ i (h : i < v.length), dk[m + i]! = v[i] from fun i h => by
    have := (get_at (d := dk) hd (m + i) (by simp; omega)).2
    rw [this, List.getElem_append_left (by simp; omega), List.getElem_append_right (by simp; omega)]
    congr 1
    simp; omega)
  have HEA := Lib.hid ea
  clear C h hd hNe hs hv ea
  go_enter F, Try.ntmps50
  go_wp2
  go_loopw [10, 11] (fun iv jv wr => ∃ (i j : Nat), iv = .int .i64 i ∧ jv = .int .i64 j ∧ m ≤ i ∧ i ≤ j ∧ j ≤ b ∧ Hid (i = m ∨ ∃ h : i - m - 1 < v.length, m < i ∧ v[i - m - 1].key < e0.key) ∧ Hid (j = b ∨ ∃ h : j - m < v.length, ¬ v[j - m].key < e0.key) ∧ Hid (SWK enc k w0 blk off dk wr)) (fun iv jv _ => (intOf jv - intOf iv).toNat)
  case atStart => exact ⟨m, b, rfl, rfl, by omega, by omega, by omega, .inl rfl, .inl rfl, HS.out⟩
  case round =>
    obtain ⟨i, j, rfl, rfl, hmi, hij, hjb, HI, HJ, HW⟩ := hrel
    by_cases hlt : i < j
    · have hh1 : (i + j) / 2 < d0.size := by rw [HNE.out]; omega
      have hjd : dk.size = d0.size := by rw [HZ.out]
      have lh := fun n os => HW.out.ld HC.out.R hjd P ((i + j) / 2) (by rw [hjd]; exact hh1) n os
      have la := fun n os => HW.out.ld HC.out.R hjd P a (by rw [hjd, HNE.out]; omega) n os
      have hcg := fun n os => HW.out.cmp HC.out.hcmp hjd dk[(i + j) / 2]! dk[a]! n os
      have hgr := Lib.hid (fun n os => HW.out.grown n os)
      obtain ⟨h', hh'⟩ : ∃ h', h' = (i + j) / 2 := ⟨_, rfl⟩
      have hvh := hav.out (h' - m) (by omega)
      rw [show m + (h' - m) = h' by omega] at hvh
      rw [HEA.out] at la hcg
      have hx1 : h' - m < v.length := by omega
      obtain ⟨eh, heh⟩ : ∃ e, e = v[h' - m]'hx1 := ⟨_, rfl⟩
      rw [← hh', hvh, ← heh] at lh hcg
      have hb1 : (h' : Int) < (N : Int) := by omega
      have hb2 : (a : Int) < (N : Int) := by omega
      have wh : ((i : Int) + (j : Int)) / 2 = (h' : Int) := by omega
      generalize dk[a]! = ea at *
      have HH := Lib.hid hh'
      have HVH := Lib.hid heh.symm
      clear hh' hvh hh1 hjd heh
      by_cases hl : cf eh e0 < 0
      · have hke := (HC.out.hcf eh e0).1 hl
        have HX : ∃ h : h' + 1 - m - 1 < v.length, v[h' + 1 - m - 1].key < e0.key := ⟨by omega, by
          have e1 : v[h' + 1 - m - 1]'(by omega) = v[h' - m]'(by omega) := by congr 1; omega
          rw [e1, HVH.out]; exact hke⟩
        have HXX := Lib.hid HX
        clear hke HX
        go_wp2_with fail
        go_quiet_grown (first | (go_at_fn g; refine Calls.grown_of (hcg _ _)))
        go_wp2
        go_roundw
        case rel => exact ⟨h' + 1, j, by go_num, rfl, by omega, by omega, by omega, .inr (by obtain ⟨h1, h2⟩ := HXX.out; exact ⟨h1, by omega, h2⟩), HJ, hgr.out nq osq⟩
        case measure => simp [intOf]; omega
      · have hke : ¬ eh.key < e0.key := fun h => hl ((HC.out.hcf eh e0).2 h)
        have HX := Lib.hid (show ∃ h : h' - m < v.length, ¬ v[h' - m].key < e0.key from ⟨by omega, by rw [HVH.out]; exact hke⟩)
        clear hke
        go_wp2_with fail
        go_quiet_grown (first | (go_at_fn g; refine Calls.grown_of (hcg _ _)))
        go_wp2
        go_roundw
        case rel => exact ⟨i, h', rfl, by go_num, by omega, by omega, by omega, HI, .inr HX.out, hgr.out nq osq⟩
        case measure => simp [intOf]; omega
    · obtain rfl : i = j := by omega
      obtain ⟨c, hc⟩ : ∃ c, c = i - m := ⟨_, rfl⟩
      have hcv : c ≤ v.length := by omega
      have B1 := Lib.hid (show ∀ z ∈ v.take c, z.key < e0.key from fun z hz => by
        rcases HI.out with h1 | ⟨h1, h2, h3⟩
        · have : c = 0 := by omega
          subst this; simp at hz
        · have h4 := rising_mem_take HV.out (n := c) (by omega) hcv z hz
          have e1 : v[c - 1]'(by omega) = v[i - m - 1] := by congr 1; omega
          rw [e1] at h4
          grind)
      have B2 := Lib.hid (show ∀ z ∈ v.drop c, e0.key ≤ z.key from fun z hz => by
        rcases HJ.out with h1 | ⟨h1, h2⟩
        · rw [List.drop_eq_nil_of_le (by omega)] at hz
          simp at hz
        · have h4 := rising_mem_drop HV.out (n := c) (by omega) z hz
          have e1 : v[c]'(by omega) = v[i - m] := by congr 1
          rw [e1] at h4
          grind)
      have hi1 : IntKind.i64.wrap ((i : Int) - 1) = ((a + c : Nat) : Int) := by rw [IntKind.wrap_i64]; omega
      have hac : a + c < N := by omega
      obtain ⟨ac, hac2⟩ : ∃ ac, ac = a + c := ⟨_, rfl⟩
      rw [← hac2] at hi1 hac
      clear HI HJ
      go_wp2
      go_loopw [13] (fun kv wr => ∃ (q : Nat) (dj : Array Nt), kv = .int .i64 q ∧ a ≤ q ∧ q ≤ ac ∧ Hid (dj.toList = x ++ (v.take c).take (q - a) ++ e0 :: ((v.take c).drop (q - a) ++ v.drop c ++ y)) ∧ Hid (dj.size = N) ∧ Hid (SWK enc k w0 blk off dj wr)) (fun kv _ => (ac - intOf kv).toNat)
      case atStart => exact ⟨a, dk, rfl, by omega, by omega, by show _ = _; rw [HD.out]; simp, HZ.out.trans HNE.out, HW⟩
      case round =>
        obtain ⟨q, dj, rfl, haq, hqa, HL, HJ, HW⟩ := hrel
        by_cases hlt2 : q < ac
        · have e1 : dj.toList = (x ++ (v.take c).take (q - a)) ++ e0 :: ([] ++ (v.take c)[q - a]'(by simp; omega) :: ((v.take c).drop (q - a + 1) ++ v.drop c ++ y)) := by
            rw [HL.out, take_drop1 (v.take c) (q - a) (by simp; omega)]
            simp only [List.append_assoc, List.cons_append, List.nil_append]
          have hql : (x ++ (v.take c).take (q - a)).length = q := by simp; omega
          have hsw := swp_list e1 (j := q + 1) hql (by rw [hql]; simp)
          have hsd : q < dj.size := by rw [HJ.out]; omega
          have htd : q + 1 < dj.size := by rw [HJ.out]; omega
          have hjd : dj.size = d0.size := by rw [HJ.out, HNE.out]
          have lt1 := HW.out.ld1 HC.out.R hjd P (q + 1) htd
          have ls1 := HW.out.ld1 HC.out.R hjd P q hsd
          have st1 := HW.out.st1 HC.out.R hjd P q hsd dj[q + 1]!
          have st2 := HW.out.st2 HC.out.R hjd P q (q + 1) hsd htd dj[q + 1]! dj[q]!
          have hend := Lib.hid (HW.out.swapped HC.out.R q (q + 1) hsd htd)
          have hkS : (enc dj[q]!).length = k := HC.out.R.hk _
          have hkT : (enc dj[q + 1]!).length = k := HC.out.R.hk _
          have HN2 := Lib.hid (show (swp dj q (q + 1)).toList = x ++ (v.take c).take (q + 1 - a) ++ e0 :: ((v.take c).drop (q + 1 - a) ++ v.drop c ++ y) by
            rw [hsw, show q + 1 - a = q - a + 1 by omega, take_snoc1 (v.take c) (q - a) (by simp; omega)]; simp only [List.append_assoc, List.cons_append, List.nil_append])
          have HSZ := Lib.hid (show (swp dj q (q + 1)).size = N by rw [size_swp]; exact HJ.out)
          have q1 : (q : Int) < (N : Int) := by omega
          have q2 : (q : Int) + 1 < (N : Int) := by omega
          obtain ⟨t, hte⟩ : ∃ t, t = q + 1 := ⟨_, rfl⟩
          have wt : IntKind.i64.wrap ((q : Int) + 1) = (t : Int) := by rw [IntKind.wrap_i64]; omega
          have q3 : (t : Int) < (N : Int) := by omega
          rw [← hte] at lt1 st1 st2 hend hkT HN2 HSZ
          generalize enc dj[q]! = cS at *
          generalize enc dj[t]! = cT at *
          generalize swp dj q t = dn at *
          have HTE := Lib.hid hte
          have HAC := Lib.hid hac2
          have HCC := Lib.hid hc
          clear e1 hsw hsd htd hjd hql hte hac2 hc
          go_wp2_with fail
          go_big_region_o
          all_goals go_wp2
          go_roundw
          case rel => exact ⟨t, dn, by first | rfl | go_num | (congr 1; omega), by have := HTE.out; omega, by have := HTE.out; omega, HN2, HSZ, hend⟩
          case measure => have := HTE.out; simp [intOf]; omega
        · have hqe : q - a = c := by omega
          have HE := Lib.hid (show dj.toList = x ++ (v.take c ++ e0 :: v.drop c) ++ y by
            rw [HL.out, hqe, List.take_of_length_le (by simp; omega), List.drop_eq_nil_of_le (by simp; omega)]; simp only [List.append_assoc, List.cons_append, List.nil_append])
          have HM := Lib.hid (show Merged (v.take c ++ e0 :: v.drop c) [e0] v from by
            have hp := rising_parts HV.out c
            have h1 := merged_join (s1 := v.take c) (s2 := e0 :: v.drop c) (u1 := []) (u2 := [e0]) (v1 := v.take c) (v2 := v.drop c) (Merged.right hp.1)
              ⟨by simp; omega, by show List.Pairwise _ _; rw [List.pairwise_cons]; exact ⟨B2.out, hp.2.1⟩, StEq.rfl' _⟩ (by simp) hp.2.2 (by simp) (fun y hy x hx => by simp at hx; subst hx; exact B1.out y hy)
            simpa using h1)
          clear hqe
          go_wp2
          (try simp only [Exit.inBlock, Exit.then]); refine bodyPost_ret (results_none rfl _ _ _) rfl ?_
          exact ⟨rfl, dj, _, HE.out, HM.out, HJ.out, HW.out⟩

end Go.Proofs.Ytggfegogjmckcaa
