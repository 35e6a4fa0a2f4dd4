/- The library's merge of two rising stretches of notes in place. -/
import Derived.Test.YtgpjbajfkagdbaaSG
import Derived.Deep.DeepCutAuto
set_option linter.unusedVariables false
set_option linter.unusedSimpArgs false
namespace Go.Proofs.Ytgpjbajfkagdbaa
open Go.Shelf Go.RowKit Go.Lib Go.Sort

variable {P : Program} {k : Nat} {enc : Nt → List Value} {w0 : World} {blk off : Nat} {d0 : Array Nt} {g : Nat} {cb : Array Value} {cf : Nt → Nt → Int}

theorem len_one {l : List Nt} (h : l.length = 1) : ∃ e, l = [e] := by
  match l, h with
  | [e], _ => exact ⟨e, rfl⟩

abbrev Parts (u1 u2 v1 v2 : List Nt) (L : Prop) : Prop := L ∧ (∀ x ∈ u1, ∀ y ∈ v2, x.key ≤ y.key) ∧ (∀ y ∈ v1, ∀ x ∈ u2, y.key < x.key) ∧ Rising u1 ∧ Rising u2 ∧ (∀ x ∈ u1, ∀ y ∈ u2, x.key ≤ y.key) ∧ Rising v1 ∧ Rising v2 ∧ ∀ x ∈ v1, ∀ y ∈ v2, x.key ≤ y.key
theorem fin {u v u1 u2 v1 v2 s1 s2 : List Nt} {L : Prop} (hp : Parts u1 u2 v1 v2 L) (hu : u = u1 ++ u2) (hv : v = v1 ++ v2) (h1 : Merged s1 u1 v1) (h2 : Merged s2 u2 v2) : Merged (s1 ++ s2) u v := by
  rw [hu, hv]
  exact merged_join h1 h2 hp.2.2.2.2.2.1 hp.2.2.2.2.2.2.2.2 hp.2.1 hp.2.2.1

set_option maxHeartbeats 4000000 in
set_option maxRecDepth 1000000 in
theorem sym_any (C : SCtx P k enc w0 blk off d0 g cb cf) (cap : Nat) : ∀ (T a m b : Nat) (x u v y : List Nt) (dk : Array Nt) (W : World), u.length + v.length ≤ T → SWK enc k w0 blk off dk W → dk.toList = x ++ u ++ v ++ y →
    x.length = a → a + u.length = m → m + v.length = b → 0 < u.length → 0 < v.length → Rising u → Rising v → dk.size = d0.size →
    Calls P 83 #[.slice (some ⟨blk, off, none⟩) d0.size cap, .int .i64 a, .int .i64 m, .int .i64 b, .func (.func g) #[] cb] W (MPost enc k w0 blk off d0 x u v y) := by
  intro T
  induction T with
  | zero => intro a m b x u v y dk W hT _ _ _ _ _ h0 _ _ _ _; omega
  | succ T ih =>
  intro a m b x u v y dk W hT h hd ha hm hb hu0 hv0 hu hv hs
  by_cases hu1 : u.length = 1
  · obtain ⟨e, rfl⟩ := len_one hu1
    exact sym_left C cap a m b x v y e dk W h hd ha (by simpa using hm) hb hv hs
  by_cases hv1 : v.length = 1
  · obtain ⟨e, rfl⟩ := len_one hv1
    exact sym_right C cap a m b x u y e dk W h hd ha hm (by simpa using hb) hu1 hu hs
  have mixed := C.L.mixed; have t0 := C.L.t0; have a0 := C.L.a0; have z0 := C.L.z0; have v0 := C.L.v0; have t3 := C.L.t3; have a3 := C.L.a3; have z3 := C.L.z3; have v3 := C.L.v3; have t4 := C.L.t4; have a4 := C.L.a4; have z4 := C.L.z4; have v4 := C.L.v4
  have t23 := C.L.t23; have a23 := C.L.a23; have z23 := C.L.z23; have v23 := C.L.v23; have a46 := C.L.a46; have z46 := C.L.z46; have t62 := C.L.t62; have a62 := C.L.a62; have z62 := C.L.z62; have v62 := C.L.v62; have t71 := C.L.t71; have a71 := C.L.a71; have z71 := C.L.z71; have v71 := C.L.v71
  have u23 := run_underlying C.L.t23; have u3 := run_underlying C.L.t3; have u71 := run_underlying C.L.t71
  have eg := C.eg
  have F := C.L.f50
  have hsz : a + u.length + v.length + y.length = d0.size := by have h1 := congrArg List.length hd; simp at h1; omega
  have hN := C.hN
  have e56 : ∀ args w, (callFunc 87 args).run P w = .ok (.enter 87 args) w := enters_of C.L.f56 (by kernel_rfl) rfl
  have e50 : ∀ args w, (callFunc 83 args).run P w = .ok (.enter 83 args) w := enters_of C.L.f50 (by kernel_rfl) rfl
  obtain ⟨lu, hlu⟩ : ∃ lu, lu = u.length := ⟨_, rfl⟩
  obtain ⟨lv, hlv⟩ : ∃ lv, lv = v.length := ⟨_, rfl⟩
  obtain ⟨md, hmd⟩ : ∃ md, md = (a + b) / 2 := ⟨_, rfl⟩
  obtain ⟨nn, hnn⟩ : ∃ nn, nn = md + m := ⟨_, rfl⟩
  obtain ⟨pp, hpp⟩ : ∃ pp, pp = nn - 1 := ⟨_, rfl⟩
  have wm : IntKind.i64.wrap ((m : Int) - (a : Int)) = (lu : Int) := by rw [IntKind.wrap_i64]; omega
  have wl : ((lu : Int) == 1) = false := by simp; omega
  have wb : IntKind.i64.wrap ((b : Int) - (m : Int)) = (lv : Int) := by rw [IntKind.wrap_i64]; omega
  have wlv : ((lv : Int) == 1) = false := by simp; omega
  have wmid : ((a : Int) + (b : Int)) / 2 = (md : Int) := by omega
  have wnn : IntKind.i64.wrap ((md : Int) + (m : Int)) = (nn : Int) := by rw [IntKind.wrap_i64]; omega
  have wpp : IntKind.i64.wrap ((nn : Int) - 1) = (pp : Int) := by rw [IntKind.wrap_i64]; omega
  have hbd : a < d0.size ∧ m < d0.size ∧ b ≤ d0.size ∧ md < d0.size := by omega
  obtain ⟨ba, bm, bb, bmd⟩ := hbd
  have HB := Lib.hid (show a + lu = m ∧ m + lv = b ∧ md = (a + b) / 2 ∧ nn = md + m ∧ pp + 1 = nn ∧ lu = u.length ∧ lv = v.length ∧ 0 < lu ∧ 0 < lv ∧ lu ≠ 1 ∧ lv ≠ 1 ∧ b + y.length = d0.size ∧ a < md ∧ md < b ∧ d0.size < 1152921504606846976 ∧ lu + lv ≤ T + 1 from by omega)
  have HC := Lib.hid C
  have HU := Lib.hid hu
  have HV := Lib.hid hv
  have HIH := Lib.hid ih
  have HA := Lib.hid ha
  unfold MPost
  generalize hNe : d0.size = N at *
  have HD := Lib.hid hd
  have HS := Lib.hid h
  have HNE := Lib.hid hNe
  have HZ := Lib.hid (hs.trans hNe.symm)
  have hau := Lib.hid (show ∀ i (h : i < u.length), dk[a + i]! = u[i] from fun i h => by
    have := (get_at (d := dk) hd (a + i) (by simp; omega)).2
    rw [this, List.getElem_append_left (by simp; omega), List.getElem_append_left (by simp; omega), List.getElem_append_right (by omega)]
    congr 1
    omega)
  have hav := Lib.hid (show ∀ i (h : i < v.length), dk[m + i]! = v[i] from fun i h => by
    have := (get_at (d := dk) hd (m + i) (by simp; omega)).2
    rw [this, List.getElem_append_left (by simp; omega), List.getElem_append_right (by simp; omega)]
    congr 1
    simp; omega)
  clear C h hd hNe hs hu hv hu1 hv1 ih hsz hlu hlv hmd hnn hpp ha hm hb hT hu0 hv0
  go_enter F, Try.ntmps83
  go_upto_if 140 with fail
  go_cut [20, 21] (fun s r wx => ∃ s0 r0 : Nat, s = .int .i64 s0 ∧ r = .int .i64 r0 ∧ Hid (a ≤ s0 ∧ s0 ≤ r0 ∧ r0 ≤ md ∧ r0 ≤ m ∧ md - s0 ≤ lv ∧ (s0 = a ∨ s0 + lv = md) ∧ (r0 = md ∨ r0 = m)) ∧ Hid (SWK enc k w0 blk off dk wx))
  case first =>
    by_cases hmm : md < m
    · obtain ⟨s0, hs0⟩ : ∃ s0, s0 = nn - b := ⟨_, rfl⟩
      have hw : IntKind.i64.wrap ((nn : Int) - (b : Int)) = (s0 : Int) ∧ s0 + b = nn := by rw [IntKind.wrap_i64]; have := HB.out; omega
      have hw1 := hw.1
      have HW2 := Lib.hid hw.2
      clear hw hs0
      go_wp2
      go_meet
      case rel => exact ⟨s0, md, by first | rfl | trivial, by first | rfl | trivial, by have h1 := HB.out; have h2 := HW2.out; show _ ∧ _; omega, HS.out⟩
    · go_wp2
      go_meet
      case rel => exact ⟨a, m, by first | rfl | trivial, by first | rfl | trivial, by have h1 := HB.out; show _ ∧ _; omega, HS.out⟩
  case rest =>
  obtain ⟨s0, r0, rfl, rfl, HR0, HW0⟩ := hcut
  go_upto_region 33 with fail
  go_loopw [20, 21] (fun iv jv wr => ∃ (i j : Nat), iv = .int .i64 i ∧ jv = .int .i64 j ∧ s0 ≤ i ∧ i ≤ j ∧ j ≤ r0 ∧ Hid (i - a = s0 - a ∨ ∃ (h1 : i - a - 1 < u.length) (h2 : md - a - (i - a) < v.length), 0 < i - a ∧ ¬ v[md - a - (i - a)].key < u[i - a - 1].key) ∧ Hid (j - a = r0 - a ∨ ∃ (h1 : j - a < u.length) (h2 : md - a - 1 - (j - a) < v.length), j - a < md - a ∧ v[md - a - 1 - (j - a)].key < u[j - a].key) ∧ Hid (SWK enc k w0 blk off dk wr)) (fun iv jv _ => (intOf jv - intOf iv).toNat)
  case atStart => exact ⟨s0, r0, rfl, rfl, by omega, HR0.out.2.1, by omega, .inl rfl, .inl rfl, HW0⟩
  case round =>
    obtain ⟨i, j, rfl, rfl, hsi, hij, hjr, HI, HJ, HW⟩ := hrel
    by_cases hlt : i < j
    · obtain ⟨c, hc⟩ : ∃ c, c = (i + j) / 2 := ⟨_, rfl⟩
      obtain ⟨q, hq⟩ : ∃ q, q = pp - c := ⟨_, rfl⟩
      have hf : c < N ∧ q < N ∧ c - a < u.length ∧ md - a - 1 - (c - a) < v.length ∧ a + (c - a) = c ∧ m + (md - a - 1 - (c - a)) = q ∧ q + c = pp ∧ i ≤ c ∧ c < j ∧ a ≤ c ∧ c < md := by
        have h1 := HB.out; have h2 := HR0.out; omega
      obtain ⟨f1, f2, f3, f4, f5, f6, f7, f8, f9, f10, f11⟩ := hf
      have hjd : dk.size = d0.size := by rw [HZ.out]
      have lh := fun n os => HW.out.ld HC.out.R hjd P q (by rw [hjd, HNE.out]; exact f2) n os
      have la := fun n os => HW.out.ld HC.out.R hjd P c (by rw [hjd, HNE.out]; exact f1) n os
      have hcg := fun n os => HW.out.cmp HC.out.hcmp hjd dk[q]! dk[c]! n os
      have hgr := Lib.hid (fun n os => HW.out.grown n os)
      have eu := hau.out (c - a) f3
      have ev := hav.out (md - a - 1 - (c - a)) f4
      rw [f5] at eu
      rw [f6] at ev
      obtain ⟨eh, heh⟩ : ∃ e, e = v[md - a - 1 - (c - a)]'f4 := ⟨_, rfl⟩
      obtain ⟨ec, hec⟩ : ∃ e, e = u[c - a]'f3 := ⟨_, rfl⟩
      rw [ev, ← heh] at lh hcg
      rw [eu, ← hec] at la hcg
      have wc : ((i : Int) + (j : Int)) / 2 = (c : Int) := by omega
      have wq : IntKind.i64.wrap ((pp : Int) - (c : Int)) = (q : Int) := by rw [IntKind.wrap_i64]; omega
      have hb1 : (q : Int) < (N : Int) := by omega
      have hb2 : (c : Int) < (N : Int) := by omega
      have HF := Lib.hid (show i ≤ c ∧ c < j ∧ a ≤ c ∧ c < md from ⟨f8, f9, f10, f11⟩)
      have HE1 := Lib.hid heh.symm
      have HE2 := Lib.hid hec.symm
      have HF3 := Lib.hid f3
      have HF4 := Lib.hid f4
      clear hc hq eu ev heh hec hjd f1 f2 f5 f6 f7 f8 f9 f10 f11
      by_cases hl : cf eh ec < 0
      · have HX := Lib.hid (show ∃ (h1 : c - a < u.length) (h2 : md - a - 1 - (c - a) < v.length), c - a < md - a ∧ v[md - a - 1 - (c - a)].key < u[c - a].key from
          ⟨HF3.out, HF4.out, by have := HF.out; omega, by rw [HE1.out, HE2.out]; exact (HC.out.hcf eh ec).1 hl⟩)
        go_wp2_with fail
        go_quiet_grown (first | (go_at_fn g; refine Calls.grown_of (hcg _ _)))
        go_wp2
        go_roundw
        case rel => exact ⟨i, c, rfl, by go_num, hsi, HF.out.1, by have := HF.out; omega, HI, .inr HX.out, hgr.out nq osq⟩
        case measure => have := HF.out; simp [intOf]; omega
      · have hle : 0 ≤ cf eh ec := by omega
        have hlb : decide (cf eh ec < 0) = false := decide_eq_false hl
        have HX := Lib.hid (show ∃ (h1 : c + 1 - a - 1 < u.length) (h2 : md - a - (c + 1 - a) < v.length), 0 < c + 1 - a ∧ ¬ v[md - a - (c + 1 - a)].key < u[c + 1 - a - 1].key from
          ⟨by have := HF.out; have := HF3.out; omega, by have := HF.out; have := HF4.out; omega, by have := HF.out; omega, by
            have g1 : u[c + 1 - a - 1]'(by have := HF.out; have := HF3.out; omega) = u[c - a]'HF3.out := by congr 1; have := HF.out; omega
            have g2 : v[md - a - (c + 1 - a)]'(by have := HF.out; have := HF4.out; omega) = v[md - a - 1 - (c - a)]'HF4.out := by congr 1; have := HF.out; omega
            rw [g1, g2, HE1.out, HE2.out]; exact fun h => hl ((HC.out.hcf eh ec).2 h)⟩)
        go_wp2_with fail
        go_quiet_grown (first | (go_at_fn g; refine Calls.grown_of (hcg _ _)))
        go_wp2
        go_roundw
        case rel => exact ⟨c + 1, j, by go_num, rfl, by have := HF.out; omega, by have := HF.out; omega, hjr, .inr HX.out, HJ, hgr.out nq osq⟩
        case measure => have := HF.out; simp [intOf]; omega
    · obtain rfl : i = j := by omega
      obtain ⟨t, ht⟩ : ∃ t, t = i - a := ⟨_, rfl⟩
      obtain ⟨h, hh⟩ : ∃ h, h = md - a := ⟨_, rfl⟩
      have hnum : t ≤ u.length ∧ t ≤ h ∧ h - t ≤ v.length ∧ a + t = i ∧ a + h = md := by have h1 := HB.out; have h2 := HR0.out; omega
      obtain ⟨g1, g2, g3, g4, g5⟩ := hnum
      obtain ⟨B1, B2⟩ := sym_parts HU.out HV.out (h := h) (st := t) (lo := s0 - a) (hi := r0 - a) g1 g2 g3 (by have h1 := HB.out; have h2 := HR0.out; omega) (by have h1 := HB.out; have h2 := HR0.out; omega)
        (by subst ht hh; exact HI.out) (by subst ht hh; exact HJ.out)
      obtain ⟨U1, U2, U3⟩ := rising_parts HU.out t
      obtain ⟨V1, V2, V3⟩ := rising_parts HV.out (h - t)
      have hDL : dk.toList = x ++ u.take t ++ (u.drop t ++ v.take (h - t)) ++ (v.drop (h - t) ++ y) := by
        rw [HD.out]
        conv => lhs; rw [← List.take_append_drop t u, ← List.take_append_drop (h - t) v]
        simp only [List.append_assoc]
      have hlens : (u.take t).length = t ∧ (u.drop t).length = lu - t ∧ (v.take (h - t)).length = h - t ∧ (v.drop (h - t)).length = lv - (h - t) := by
        have h1 := HB.out
        simp; omega
      have huv : u = u.take t ++ u.drop t := (List.take_append_drop t u).symm
      have hvv : v = v.take (h - t) ++ v.drop (h - t) := (List.take_append_drop (h - t) v).symm
      obtain ⟨en, hen⟩ : ∃ en, en = nn - i := ⟨_, rfl⟩
      have hen2 : en + i = nn := by have h1 := HB.out; have h2 := HR0.out; omega
      have wen : IntKind.i64.wrap ((nn : Int) - (i : Int)) = (en : Int) := by have h1 := HB.out; rw [IntKind.wrap_i64]; omega
      have HNU := Lib.hid (show t ≤ lu ∧ t ≤ h ∧ h - t ≤ lv ∧ a + t = i ∧ a + h = md ∧ en + i = nn from by have h1 := HB.out; omega)
      generalize u.take t = u1 at *
      generalize u.drop t = u2 at *
      generalize v.take (h - t) = v1 at *
      generalize v.drop (h - t) = v2 at *
      have HP := Lib.hid (And.intro hlens (And.intro B1 (And.intro B2 (And.intro U1 (And.intro U2 (And.intro U3 (And.intro V1 (And.intro V2 V3))))))))
      have HDL := Lib.hid hDL
      have HUV := Lib.hid huv
      have HVV := Lib.hid hvv
      clear hlens B1 B2 U1 U2 U3 V1 V2 V3 hDL huv hvv hau hav HI HJ g1 g2 g3 g4 g5 ht hh hen hen2
      go_upto_region 39 with fail
      by_cases hA : i < m
      · skip
        have hA1 : decide (i < m) = true := decide_eq_true hA
        have hA2 : decide ((i : Int) < (m : Int)) = true := by simp; omega
        by_cases hD : m < en
        · skip
          have hD1 : decide (m < en) = true := decide_eq_true hD
          have hD2 : decide ((m : Int) < (en : Int)) = true := by simp; omega
          have hc := rotate_any HC.out cap i m en (x ++ u1) u2 v1 (v2 ++ y) dk _ HW.out (by rw [HDL.out]; simp only [List.append_assoc]) (by have h1 := HP.out.1; have h3 := HNU.out; have h4 := HB.out; have h2 := HA.out; simp; omega) (by have h1 := HP.out.1; have h3 := HNU.out; have h4 := HB.out; have h2 := HA.out; simp; omega) (by have h1 := HP.out.1; have h3 := HNU.out; have h4 := HB.out; have h2 := HA.out; simp; omega) (by have h1 := HP.out.1; have h3 := HNU.out; have h4 := HB.out; have h2 := HA.out; omega) (by have h1 := HP.out.1; have h3 := HNU.out; have h4 := HB.out; have h2 := HA.out; omega) HZ.out
          rw [HNE.out] at hc
          go_wp2_with fail
          refine hc.mono ?_
          rintro e w1 ⟨rfl, d1, hl, hz, hS⟩
          have HL1a := Lib.hid hl
          have HZ1 := Lib.hid (show d1.size = N by first | exact hz | rw [hz, HNE.out])
          have HS1 := Lib.hid hS
          clear hl hz hS hc
          have HL1 := Lib.hid (show d1.toList = x ++ u1 ++ v1 ++ u2 ++ v2 ++ y by rw [HL1a.out]; simp only [List.append_assoc])
          by_cases hC : a < i
          · skip
            have hC1 : decide (a < i) = true := decide_eq_true hC
            have hC2 : decide ((a : Int) < (i : Int)) = true := by simp; omega
            have hG : i < md := by have h1 := HP.out.1; have h3 := HNU.out; have h4 := HB.out; have h2 := HA.out; omega
            have hG1 : decide (i < md) = true := decide_eq_true hG
            have hG2 : decide ((i : Int) < (md : Int)) = true := by simp; omega
            have hc := HIH.out a i md x u1 v1 (u2 ++ v2 ++ y) d1 _ (by have h1 := HP.out.1; have h3 := HNU.out; have h4 := HB.out; have h2 := HA.out; omega) HS1.out (by rw [HL1.out]; simp only [List.append_assoc]) HA.out (by have h1 := HP.out.1; have h3 := HNU.out; have h4 := HB.out; have h2 := HA.out; omega) (by have h1 := HP.out.1; have h3 := HNU.out; have h4 := HB.out; have h2 := HA.out; omega) (by have h1 := HP.out.1; have h3 := HNU.out; have h4 := HB.out; have h2 := HA.out; omega) (by have h1 := HP.out.1; have h3 := HNU.out; have h4 := HB.out; have h2 := HA.out; omega) HP.out.2.2.2.1 HP.out.2.2.2.2.2.2.1 HZ1.out
            go_wp2_with fail
            refine hc.mono ?_
            rintro e w2 ⟨rfl, d2, s1, hl, hM, hz, hS⟩
            have HL2a := Lib.hid hl
            have HZ2 := Lib.hid (show d2.size = N by first | exact hz | rw [hz, HNE.out])
            have HS2 := Lib.hid hS
            have HM2 := Lib.hid hM
            clear hl hz hS hM hc
            have HL2 := Lib.hid (show d2.toList = x ++ s1 ++ u2 ++ v2 ++ y by rw [HL2a.out]; simp only [List.append_assoc])
            have hE : md < en := by have h1 := HP.out.1; have h3 := HNU.out; have h4 := HB.out; have h2 := HA.out; omega
            have hE1 : decide (md < en) = true := decide_eq_true hE
            have hE2 : decide ((md : Int) < (en : Int)) = true := by simp; omega
            by_cases hF : en < b
            · skip
              have hF1 : decide (en < b) = true := decide_eq_true hF
              have hF2 : decide ((en : Int) < (b : Int)) = true := by simp; omega
              have hc := HIH.out md en b (x ++ s1) u2 v2 y d2 _ (by have h1 := HP.out.1; have h3 := HNU.out; have h4 := HB.out; have h2 := HA.out; omega) HS2.out HL2.out (by have h1 := HP.out.1; have h3 := HNU.out; have h2 := HA.out; have h5 := HM2.out.1; simp; omega) (by have h1 := HP.out.1; have h3 := HNU.out; have h4 := HB.out; have h2 := HA.out; omega) (by have h1 := HP.out.1; have h3 := HNU.out; have h4 := HB.out; have h2 := HA.out; omega) (by have h1 := HP.out.1; have h3 := HNU.out; have h4 := HB.out; have h2 := HA.out; omega) (by have h1 := HP.out.1; have h3 := HNU.out; have h4 := HB.out; have h2 := HA.out; omega) HP.out.2.2.2.2.1 HP.out.2.2.2.2.2.2.2.1 HZ2.out
              go_wp2_with fail
              refine hc.mono ?_
              rintro e w3 ⟨rfl, d3, s2, hl, hM, hz, hS⟩
              have HL3a := Lib.hid hl
              have HZ3 := Lib.hid (show d3.size = N by first | exact hz | rw [hz, HNE.out])
              have HS3 := Lib.hid hS
              have HM3 := Lib.hid hM
              clear hl hz hS hM hc
              go_wp2
              go_end0
              exact ⟨rfl, d3, s1 ++ s2, by rw [HL3a.out]; simp only [List.append_assoc], fin HP.out HUV.out HVV.out HM2.out HM3.out, HZ3.out, HS3.out⟩
            · skip
              have hF1 : decide (en < b) = false := decide_eq_false hF
              have hF2 : decide ((en : Int) < (b : Int)) = false := by simp; omega
              have hv20 := Lib.hid (show v2 = [] from List.length_eq_zero_iff.1 (by have h1 := HP.out.1; have h3 := HNU.out; have h4 := HB.out; have h2 := HA.out; omega))
              go_wp2
              go_end0
              exact ⟨rfl, d2, s1 ++ u2, by rw [HL2.out, hv20.out]; simp only [List.append_assoc, List.append_nil, List.nil_append], fin HP.out HUV.out HVV.out HM2.out (by rw [hv20.out]; exact Merged.left HP.out.2.2.2.2.1), HZ2.out, HS2.out⟩
          · skip
            have hC1 : decide (a < i) = false := decide_eq_false hC
            have hC2 : decide ((a : Int) < (i : Int)) = false := by simp; omega
            have hu10 : u1 = [] := List.length_eq_zero_iff.1 (by have h1 := HP.out.1; have h3 := HNU.out; have h4 := HB.out; have h2 := HA.out; omega)
            obtain ⟨d2, hd2⟩ : ∃ d2, d2 = d1 := ⟨_, rfl⟩
            obtain ⟨s1, hs1⟩ : ∃ s1, s1 = v1 := ⟨_, rfl⟩
            have HL2 := Lib.hid (show d2.toList = x ++ s1 ++ u2 ++ v2 ++ y by rw [hd2, hs1, HL1.out, hu10]; simp only [List.append_assoc, List.append_nil, List.nil_append])
            have HM2 := Lib.hid (show Merged s1 u1 v1 by rw [hs1, hu10]; exact Merged.right HP.out.2.2.2.2.2.2.1)
            have HZ2 := Lib.hid (show d2.size = N by rw [hd2, HZ1.out])
            have HS2 := Lib.hid (by rw [hd2]; exact HS1.out : SWK enc k w0 blk off d2 _)
            have HH2 := Lib.hid hu10
            clear hd2 hs1 hu10
            have hE : md < en := by have h1 := HP.out.1; have h3 := HNU.out; have h4 := HB.out; have h2 := HA.out; omega
            have hE1 : decide (md < en) = true := decide_eq_true hE
            have hE2 : decide ((md : Int) < (en : Int)) = true := by simp; omega
            by_cases hF : en < b
            · skip
              have hF1 : decide (en < b) = true := decide_eq_true hF
              have hF2 : decide ((en : Int) < (b : Int)) = true := by simp; omega
              have hc := HIH.out md en b (x ++ s1) u2 v2 y d2 _ (by have h1 := HP.out.1; have h3 := HNU.out; have h4 := HB.out; have h2 := HA.out; omega) HS2.out HL2.out (by have h1 := HP.out.1; have h3 := HNU.out; have h2 := HA.out; have h5 := HM2.out.1; simp; omega) (by have h1 := HP.out.1; have h3 := HNU.out; have h4 := HB.out; have h2 := HA.out; omega) (by have h1 := HP.out.1; have h3 := HNU.out; have h4 := HB.out; have h2 := HA.out; omega) (by have h1 := HP.out.1; have h3 := HNU.out; have h4 := HB.out; have h2 := HA.out; omega) (by have h1 := HP.out.1; have h3 := HNU.out; have h4 := HB.out; have h2 := HA.out; omega) HP.out.2.2.2.2.1 HP.out.2.2.2.2.2.2.2.1 HZ2.out
              go_wp2_with fail
              refine hc.mono ?_
              rintro e w3 ⟨rfl, d3, s2, hl, hM, hz, hS⟩
              have HL3a := Lib.hid hl
              have HZ3 := Lib.hid (show d3.size = N by first | exact hz | rw [hz, HNE.out])
              have HS3 := Lib.hid hS
              have HM3 := Lib.hid hM
              clear hl hz hS hM hc
              go_wp2
              go_end0
              exact ⟨rfl, d3, s1 ++ s2, by rw [HL3a.out]; simp only [List.append_assoc], fin HP.out HUV.out HVV.out HM2.out HM3.out, HZ3.out, HS3.out⟩
            · skip
              have hF1 : decide (en < b) = false := decide_eq_false hF
              have hF2 : decide ((en : Int) < (b : Int)) = false := by simp; omega
              have hv20 := Lib.hid (show v2 = [] from List.length_eq_zero_iff.1 (by have h1 := HP.out.1; have h3 := HNU.out; have h4 := HB.out; have h2 := HA.out; omega))
              go_wp2
              go_end0
              exact ⟨rfl, d2, s1 ++ u2, by rw [HL2.out, hv20.out]; simp only [List.append_assoc, List.append_nil, List.nil_append], fin HP.out HUV.out HVV.out HM2.out (by rw [hv20.out]; exact Merged.left HP.out.2.2.2.2.1), HZ2.out, HS2.out⟩
        · skip
          have hD1 : decide (m < en) = false := decide_eq_false hD
          have hD2 : decide ((m : Int) < (en : Int)) = false := by simp; omega
          have hv10 : v1 = [] := List.length_eq_zero_iff.1 (by have h1 := HP.out.1; have h3 := HNU.out; have h4 := HB.out; have h2 := HA.out; omega)
          obtain ⟨d1, hd1⟩ : ∃ d1, d1 = dk := ⟨_, rfl⟩
          have HL1 := Lib.hid (show d1.toList = x ++ u1 ++ v1 ++ u2 ++ v2 ++ y by rw [hd1, HDL.out, hv10]; simp only [List.append_assoc, List.append_nil, List.nil_append])
          have HZ1 := Lib.hid (show d1.size = N by rw [hd1, HZ.out, HNE.out])
          have HS1 := Lib.hid (by rw [hd1]; exact HW : SWK enc k w0 blk off d1 wr)
          have HH1 := Lib.hid hv10
          clear hd1 hv10
          by_cases hC : a < i
          · skip
            have hC1 : decide (a < i) = true := decide_eq_true hC
            have hC2 : decide ((a : Int) < (i : Int)) = true := by simp; omega
            have hG : ¬ i < md := by have h1 := HP.out.1; have h3 := HNU.out; have h4 := HB.out; have h2 := HA.out; omega
            have hG1 : decide (i < md) = false := decide_eq_false hG
            have hG2 : decide ((i : Int) < (md : Int)) = false := by simp; omega
            have hv10 : v1 = [] := List.length_eq_zero_iff.1 (by have h1 := HP.out.1; have h3 := HNU.out; have h4 := HB.out; have h2 := HA.out; omega)
            obtain ⟨d2, hd2⟩ : ∃ d2, d2 = d1 := ⟨_, rfl⟩
            obtain ⟨s1, hs1⟩ : ∃ s1, s1 = u1 := ⟨_, rfl⟩
            have HL2 := Lib.hid (show d2.toList = x ++ s1 ++ u2 ++ v2 ++ y by rw [hd2, hs1, HL1.out, hv10]; simp only [List.append_assoc, List.append_nil, List.nil_append])
            have HM2 := Lib.hid (show Merged s1 u1 v1 by rw [hs1, hv10]; exact Merged.left HP.out.2.2.2.1)
            have HZ2 := Lib.hid (show d2.size = N by rw [hd2, HZ1.out])
            have HS2 := Lib.hid (by rw [hd2]; exact HS1.out : SWK enc k w0 blk off d2 _)
            have HH2 := Lib.hid hv10
            clear hd2 hs1 hv10
            have hE : md < en := by have h1 := HP.out.1; have h3 := HNU.out; have h4 := HB.out; have h2 := HA.out; omega
            have hE1 : decide (md < en) = true := decide_eq_true hE
            have hE2 : decide ((md : Int) < (en : Int)) = true := by simp; omega
            by_cases hF : en < b
            · skip
              have hF1 : decide (en < b) = true := decide_eq_true hF
              have hF2 : decide ((en : Int) < (b : Int)) = true := by simp; omega
              have hc := HIH.out md en b (x ++ s1) u2 v2 y d2 _ (by have h1 := HP.out.1; have h3 := HNU.out; have h4 := HB.out; have h2 := HA.out; omega) HS2.out HL2.out (by have h1 := HP.out.1; have h3 := HNU.out; have h2 := HA.out; have h5 := HM2.out.1; simp; omega) (by have h1 := HP.out.1; have h3 := HNU.out; have h4 := HB.out; have h2 := HA.out; omega) (by have h1 := HP.out.1; have h3 := HNU.out; have h4 := HB.out; have h2 := HA.out; omega) (by have h1 := HP.out.1; have h3 := HNU.out; have h4 := HB.out; have h2 := HA.out; omega) (by have h1 := HP.out.1; have h3 := HNU.out; have h4 := HB.out; have h2 := HA.out; omega) HP.out.2.2.2.2.1 HP.out.2.2.2.2.2.2.2.1 HZ2.out
              go_wp2_with fail
              refine hc.mono ?_
              rintro e w3 ⟨rfl, d3, s2, hl, hM, hz, hS⟩
              have HL3a := Lib.hid hl
              have HZ3 := Lib.hid (show d3.size = N by first | exact hz | rw [hz, HNE.out])
              have HS3 := Lib.hid hS
              have HM3 := Lib.hid hM
              clear hl hz hS hM hc
              go_wp2
              go_end0
              exact ⟨rfl, d3, s1 ++ s2, by rw [HL3a.out]; simp only [List.append_assoc], fin HP.out HUV.out HVV.out HM2.out HM3.out, HZ3.out, HS3.out⟩
            · skip
              have hF1 : decide (en < b) = false := decide_eq_false hF
              have hF2 : decide ((en : Int) < (b : Int)) = false := by simp; omega
              have hv20 := Lib.hid (show v2 = [] from List.length_eq_zero_iff.1 (by have h1 := HP.out.1; have h3 := HNU.out; have h4 := HB.out; have h2 := HA.out; omega))
              go_wp2
              go_end0
              exact ⟨rfl, d2, s1 ++ u2, by rw [HL2.out, hv20.out]; simp only [List.append_assoc, List.append_nil, List.nil_append], fin HP.out HUV.out HVV.out HM2.out (by rw [hv20.out]; exact Merged.left HP.out.2.2.2.2.1), HZ2.out, HS2.out⟩
          · skip
            have hC1 : decide (a < i) = false := decide_eq_false hC
            have hC2 : decide ((a : Int) < (i : Int)) = false := by simp; omega
            have hu10 : u1 = [] := List.length_eq_zero_iff.1 (by have h1 := HP.out.1; have h3 := HNU.out; have h4 := HB.out; have h2 := HA.out; omega)
            obtain ⟨d2, hd2⟩ : ∃ d2, d2 = d1 := ⟨_, rfl⟩
            obtain ⟨s1, hs1⟩ : ∃ s1, s1 = v1 := ⟨_, rfl⟩
            have HL2 := Lib.hid (show d2.toList = x ++ s1 ++ u2 ++ v2 ++ y by rw [hd2, hs1, HL1.out, hu10]; simp only [List.append_assoc, List.append_nil, List.nil_append])
            have HM2 := Lib.hid (show Merged s1 u1 v1 by rw [hs1, hu10]; exact Merged.right HP.out.2.2.2.2.2.2.1)
            have HZ2 := Lib.hid (show d2.size = N by rw [hd2, HZ1.out])
            have HS2 := Lib.hid (by rw [hd2]; exact HS1.out : SWK enc k w0 blk off d2 _)
            have HH2 := Lib.hid hu10
            clear hd2 hs1 hu10
            have hE : md < en := by have h1 := HP.out.1; have h3 := HNU.out; have h4 := HB.out; have h2 := HA.out; omega
            have hE1 : decide (md < en) = true := decide_eq_true hE
            have hE2 : decide ((md : Int) < (en : Int)) = true := by simp; omega
            by_cases hF : en < b
            · skip
              have hF1 : decide (en < b) = true := decide_eq_true hF
              have hF2 : decide ((en : Int) < (b : Int)) = true := by simp; omega
              have hc := HIH.out md en b (x ++ s1) u2 v2 y d2 _ (by have h1 := HP.out.1; have h3 := HNU.out; have h4 := HB.out; have h2 := HA.out; omega) HS2.out HL2.out (by have h1 := HP.out.1; have h3 := HNU.out; have h2 := HA.out; have h5 := HM2.out.1; simp; omega) (by have h1 := HP.out.1; have h3 := HNU.out; have h4 := HB.out; have h2 := HA.out; omega) (by have h1 := HP.out.1; have h3 := HNU.out; have h4 := HB.out; have h2 := HA.out; omega) (by have h1 := HP.out.1; have h3 := HNU.out; have h4 := HB.out; have h2 := HA.out; omega) (by have h1 := HP.out.1; have h3 := HNU.out; have h4 := HB.out; have h2 := HA.out; omega) HP.out.2.2.2.2.1 HP.out.2.2.2.2.2.2.2.1 HZ2.out
              go_wp2_with fail
              refine hc.mono ?_
              rintro e w3 ⟨rfl, d3, s2, hl, hM, hz, hS⟩
              have HL3a := Lib.hid hl
              have HZ3 := Lib.hid (show d3.size = N by first | exact hz | rw [hz, HNE.out])
              have HS3 := Lib.hid hS
              have HM3 := Lib.hid hM
              clear hl hz hS hM hc
              go_wp2
              go_end0
              exact ⟨rfl, d3, s1 ++ s2, by rw [HL3a.out]; simp only [List.append_assoc], fin HP.out HUV.out HVV.out HM2.out HM3.out, HZ3.out, HS3.out⟩
            · skip
              have hF1 : decide (en < b) = false := decide_eq_false hF
              have hF2 : decide ((en : Int) < (b : Int)) = false := by simp; omega
              have hv20 := Lib.hid (show v2 = [] from List.length_eq_zero_iff.1 (by have h1 := HP.out.1; have h3 := HNU.out; have h4 := HB.out; have h2 := HA.out; omega))
              go_wp2
              go_end0
              exact ⟨rfl, d2, s1 ++ u2, by rw [HL2.out, hv20.out]; simp only [List.append_assoc, List.append_nil, List.nil_append], fin HP.out HUV.out HVV.out HM2.out (by rw [hv20.out]; exact Merged.left HP.out.2.2.2.2.1), HZ2.out, HS2.out⟩
      · skip
        have hA1 : decide (i < m) = false := decide_eq_false hA
        have hA2 : decide ((i : Int) < (m : Int)) = false := by simp; omega
        have hu20 : u2 = [] := List.length_eq_zero_iff.1 (by have h1 := HP.out.1; have h3 := HNU.out; have h4 := HB.out; have h2 := HA.out; omega)
        obtain ⟨d1, hd1⟩ : ∃ d1, d1 = dk := ⟨_, rfl⟩
        have HL1 := Lib.hid (show d1.toList = x ++ u1 ++ v1 ++ u2 ++ v2 ++ y by rw [hd1, HDL.out, hu20]; simp only [List.append_assoc, List.append_nil, List.nil_append])
        have HZ1 := Lib.hid (show d1.size = N by rw [hd1, HZ.out, HNE.out])
        have HS1 := Lib.hid (by rw [hd1]; exact HW : SWK enc k w0 blk off d1 wr)
        have HH1 := Lib.hid hu20
        clear hd1 hu20
        by_cases hC : a < i
        · skip
          have hC1 : decide (a < i) = true := decide_eq_true hC
          have hC2 : decide ((a : Int) < (i : Int)) = true := by simp; omega
          by_cases hG : i < md
          · skip
            have hG1 : decide (i < md) = true := decide_eq_true hG
            have hG2 : decide ((i : Int) < (md : Int)) = true := by simp; omega
            have hc := HIH.out a i md x u1 v1 (u2 ++ v2 ++ y) d1 _ (by have h1 := HP.out.1; have h3 := HNU.out; have h4 := HB.out; have h2 := HA.out; omega) HS1.out (by rw [HL1.out]; simp only [List.append_assoc]) HA.out (by have h1 := HP.out.1; have h3 := HNU.out; have h4 := HB.out; have h2 := HA.out; omega) (by have h1 := HP.out.1; have h3 := HNU.out; have h4 := HB.out; have h2 := HA.out; omega) (by have h1 := HP.out.1; have h3 := HNU.out; have h4 := HB.out; have h2 := HA.out; omega) (by have h1 := HP.out.1; have h3 := HNU.out; have h4 := HB.out; have h2 := HA.out; omega) HP.out.2.2.2.1 HP.out.2.2.2.2.2.2.1 HZ1.out
            go_wp2_with fail
            refine hc.mono ?_
            rintro e w2 ⟨rfl, d2, s1, hl, hM, hz, hS⟩
            have HL2a := Lib.hid hl
            have HZ2 := Lib.hid (show d2.size = N by first | exact hz | rw [hz, HNE.out])
            have HS2 := Lib.hid hS
            have HM2 := Lib.hid hM
            clear hl hz hS hM hc
            have HL2 := Lib.hid (show d2.toList = x ++ s1 ++ u2 ++ v2 ++ y by rw [HL2a.out]; simp only [List.append_assoc])
            have hE : ¬ md < en := by have h1 := HP.out.1; have h3 := HNU.out; have h4 := HB.out; have h2 := HA.out; omega
            have hE1 : decide (md < en) = false := decide_eq_false hE
            have hE2 : decide ((md : Int) < (en : Int)) = false := by simp; omega
            have hu20 := Lib.hid (show u2 = [] from List.length_eq_zero_iff.1 (by have h1 := HP.out.1; have h3 := HNU.out; have h4 := HB.out; have h2 := HA.out; omega))
            go_wp2
            go_end0
            exact ⟨rfl, d2, s1 ++ v2, by rw [HL2.out, hu20.out]; simp only [List.append_assoc, List.append_nil, List.nil_append], fin HP.out HUV.out HVV.out HM2.out (by rw [hu20.out]; exact Merged.right HP.out.2.2.2.2.2.2.2.1), HZ2.out, HS2.out⟩
          · skip
            have hG1 : decide (i < md) = false := decide_eq_false hG
            have hG2 : decide ((i : Int) < (md : Int)) = false := by simp; omega
            have hv10 : v1 = [] := List.length_eq_zero_iff.1 (by have h1 := HP.out.1; have h3 := HNU.out; have h4 := HB.out; have h2 := HA.out; omega)
            obtain ⟨d2, hd2⟩ : ∃ d2, d2 = d1 := ⟨_, rfl⟩
            obtain ⟨s1, hs1⟩ : ∃ s1, s1 = u1 := ⟨_, rfl⟩
            have HL2 := Lib.hid (show d2.toList = x ++ s1 ++ u2 ++ v2 ++ y by rw [hd2, hs1, HL1.out, hv10]; simp only [List.append_assoc, List.append_nil, List.nil_append])
            have HM2 := Lib.hid (show Merged s1 u1 v1 by rw [hs1, hv10]; exact Merged.left HP.out.2.2.2.1)
            have HZ2 := Lib.hid (show d2.size = N by rw [hd2, HZ1.out])
            have HS2 := Lib.hid (by rw [hd2]; exact HS1.out : SWK enc k w0 blk off d2 _)
            have HH2 := Lib.hid hv10
            clear hd2 hs1 hv10
            have hE : ¬ md < en := by have h1 := HP.out.1; have h3 := HNU.out; have h4 := HB.out; have h2 := HA.out; omega
            have hE1 : decide (md < en) = false := decide_eq_false hE
            have hE2 : decide ((md : Int) < (en : Int)) = false := by simp; omega
            have hu20 := Lib.hid (show u2 = [] from List.length_eq_zero_iff.1 (by have h1 := HP.out.1; have h3 := HNU.out; have h4 := HB.out; have h2 := HA.out; omega))
            go_wp2
            go_end0
            exact ⟨rfl, d2, s1 ++ v2, by rw [HL2.out, hu20.out]; simp only [List.append_assoc, List.append_nil, List.nil_append], fin HP.out HUV.out HVV.out HM2.out (by rw [hu20.out]; exact Merged.right HP.out.2.2.2.2.2.2.2.1), HZ2.out, HS2.out⟩
        · skip
          have hC1 : decide (a < i) = false := decide_eq_false hC
          have hC2 : decide ((a : Int) < (i : Int)) = false := by simp; omega
          have hu10 : u1 = [] := List.length_eq_zero_iff.1 (by have h1 := HP.out.1; have h3 := HNU.out; have h4 := HB.out; have h2 := HA.out; omega)
          obtain ⟨d2, hd2⟩ : ∃ d2, d2 = d1 := ⟨_, rfl⟩
          obtain ⟨s1, hs1⟩ : ∃ s1, s1 = v1 := ⟨_, rfl⟩
          have HL2 := Lib.hid (show d2.toList = x ++ s1 ++ u2 ++ v2 ++ y by rw [hd2, hs1, HL1.out, hu10]; simp only [List.append_assoc, List.append_nil, List.nil_append])
          have HM2 := Lib.hid (show Merged s1 u1 v1 by rw [hs1, hu10]; exact Merged.right HP.out.2.2.2.2.2.2.1)
          have HZ2 := Lib.hid (show d2.size = N by rw [hd2, HZ1.out])
          have HS2 := Lib.hid (by rw [hd2]; exact HS1.out : SWK enc k w0 blk off d2 _)
          have HH2 := Lib.hid hu10
          clear hd2 hs1 hu10
          have hE : ¬ md < en := by have h1 := HP.out.1; have h3 := HNU.out; have h4 := HB.out; have h2 := HA.out; omega
          have hE1 : decide (md < en) = false := decide_eq_false hE
          have hE2 : decide ((md : Int) < (en : Int)) = false := by simp; omega
          have hu20 := Lib.hid (show u2 = [] from List.length_eq_zero_iff.1 (by have h1 := HP.out.1; have h3 := HNU.out; have h4 := HB.out; have h2 := HA.out; omega))
          go_wp2
          go_end0
          exact ⟨rfl, d2, s1 ++ v2, by rw [HL2.out, hu20.out]; simp only [List.append_assoc, List.append_nil, List.nil_append], fin HP.out HUV.out HVV.out HM2.out (by rw [hu20.out]; exact Merged.right HP.out.2.2.2.2.2.2.2.1), HZ2.out, HS2.out⟩

end Go.Proofs.Ytgpjbajfkagdbaa
