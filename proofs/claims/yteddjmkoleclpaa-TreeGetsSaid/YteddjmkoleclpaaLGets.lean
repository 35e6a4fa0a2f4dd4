/- The walk of the law TreeGets. -/
import Derived.Test.YteddjmkoleclpaaQL
set_option linter.unusedVariables false
set_option linter.unusedSimpArgs false
namespace Go.Proofs.Yteddjmkoleclpaa
open Go.RowKit Go.Sort

theorem in_next (k x : ByteArray) : inB ⟨k, nextS k, false⟩ x = decide (x = k) := by
  rw [Bool.eq_iff_iff, inB_iff, decide_eq_true_eq]
  have h := next_le k x
  constructor
  · rintro ⟨h1, h2⟩
    have h3 : ¬ nextS k ≤ x := by
      rcases h2 with h2 | h2
      · cases h2
      · have h4 : x < nextS k := h2
        grind
    have h5 : ¬ k < x := fun h6 => h3 (h.2 h6)
    have h6 : k ≤ x := h1
    grind
  · rintro rfl
    refine ⟨by show x ≤ x; grind, .inr ?_⟩
    have h3 : ¬ nextS x ≤ x := fun h4 => by have := h.1 h4; grind
    show x < nextS x
    grind
theorem pick_next {P : List Pr} (hs : Sorted P) (k : ByteArray) : pickL ⟨k, nextS k, false⟩ P = pairOf k (getL P k) := by
  have e : pickL ⟨k, nextS k, false⟩ P = P.filter fun p => decide (p.k = k) := by
    unfold pickL
    congr 1
    funext p
    exact in_next k p.k
  rw [e]
  refine sorted_ext (hs.sublist List.filter_sublist) ?_ fun j => ?_
  · cases getL P k with
    | none => exact .nil
    | some v => exact List.pairwise_singleton _ _
  · rw [getL_filter (fun x => decide (x = k)), getL_pair]
    by_cases h : j = k
    · subst h; simp
    · rw [if_neg (by simpa using h), if_neg (fun e => h e.symm)]

set_option maxHeartbeats 8000000 in
set_option maxRecDepth 100000 in
theorem gets_walk (v1 : Value) (l : List Nt) (S : Option Addr) (cs : Nat) (ks : List ByteArray) (w0 : World) (hA : NV w0 v1 l) (hS : Strs w0 w0.heap.size S ks) (hl : l.length ≤ maxLen) (hm : ks.length ≤ maxLen) (hkm : ∀ k ∈ ks, k.size ≤ 140737488351232) :
    Calls Try.prog 5 #[v1, .slice S ks.length cs] w0 fun e w' => e = .returned (.bool true) ∧ Below w0.heap.size w0 w' := by
  have HA0 := Lib.hid hA
  have HS0 := Lib.hid (show SSV w0 (.slice S ks.length cs) ks from ⟨S, cs, rfl, hS⟩)
  have HB0 := Lib.hid (Below.refl w0.heap.size w0)
  obtain ⟨A, ca, rfl, _, _, _⟩ := hA
  obtain ⟨nl, hla⟩ : ∃ n, n = l.length := ⟨_, rfl⟩
  obtain ⟨nk, hlk⟩ : ∃ n, n = ks.length := ⟨_, rfl⟩
  rw [← hla] at HA0 ⊢
  rw [← hlk] at HS0 ⊢
  have HLA := Lib.hid hla
  have HLK := Lib.hid hlk
  have HLM := Lib.hid hl
  have HKM := Lib.hid (And.intro hm hkm)
  clear hS hl hm hkm hla hlk
  go_enter Try.func5, Try.ntmps5
  have hc := dfew_v HA0.out 60 HLM.out
  rw [← HLA.out] at hc
  go_wp2_with fail
  refine hc.mono ?_
  clear hc
  rintro e w1 ⟨R, rfl, hR, hb⟩
  have HR := Lib.hid hR
  clear hR
  have HB1 := Lib.hid (HB0.out.trans (hb.mono HB0.out.size))
  have HA1 := Lib.hid (HA0.out.on hb)
  have HS1 := Lib.hid (HS0.out.on hb)
  clear hb HB0 HA0 HS0 
  cases R with
  | false =>
    go_wp2_with fail
    refine (awake_true _).mono ?_
    rintro e w9 ⟨rfl, hb9⟩
    have HB9 := Lib.hid (HB1.out.trans (hb9.mono HB1.out.size))
    clear hb9
    go_wp2
    go_ret
    exact ⟨rfl, HB9.out⟩
  | true =>
  have hl60 : nl ≤ 60 := HR.out rfl
  by_cases hk60 : nk ≤ 60
  case neg =>
    have hd : decide (60 < (nk : Int)) = true := by simp; omega
    have hd' : decide (60 < nk) = true := by simp; omega
    go_wp2_with fail
    refine (awake_true _).mono ?_
    rintro e w9 ⟨rfl, hb9⟩
    have HB9 := Lib.hid (HB1.out.trans (hb9.mono HB1.out.size))
    clear hb9
    go_wp2
    go_ret
    exact ⟨rfl, HB9.out⟩
  have hd : decide (60 < (nk : Int)) = false := by simp; omega
  have hd' : decide (60 < nk) = false := by simp; omega
  obtain ⟨P, hP⟩ : ∃ P, P = tAppP [] l := ⟨_, rfl⟩
  obtain ⟨E, hE⟩ : ∃ E, E = tAppE l := ⟨_, rfl⟩
  have HEP := Lib.hid (show E = 0 ∨ P = [] from by
    rw [hE, hP]; unfold tAppE tAppP
    cases l.all rightN <;> simp)
  have hc := tapply_any _ _ [] l 0 0 w1 (tree_none w1) HA1.out (by rw [← HLA.out]; omega)
  rw [← hP, ← hE] at hc
  have HL60 := Lib.hid (And.intro hl60 hk60)
  clear hP hE
  go_wp2_with fail
  refine (hc).mono ?_
  clear  hc
  rintro e w2 ⟨v2, rfl, ht, hb⟩
  have HT2 := Lib.hid ht
  clear ht
  have HB2 := Lib.hid (HB1.out.trans (hb.mono HB1.out.size))
  have HA2 := Lib.hid (HA1.out.on hb)
  have HS2 := Lib.hid (HS1.out.on hb)
  clear hb HB1 HA1 HS1 
  obtain ⟨lo1, ka1, kn1, kc1, na1, nn1, nc1, pa1, pn1, pc1, rfl⟩ := tree_shape HT2.out
  obtain ⟨w3, hw2⟩ : ∃ wz, wz = w2.alloc (.cells #[.string lo1, .slice ka1 kn1 kc1, .slice na1 nn1 nc1, .slice pa1 pn1 pc1] 32) := ⟨_, rfl⟩
  obtain ⟨g1, hg2⟩ : ∃ gz, gz = w2.heap.size := ⟨_, rfl⟩
  have hb2 : Below w2.heap.size w2 w3 := by rw [hw2]; exact (Below.refl _ _).alloc (Nat.le_refl _) _
  have BX3 := Lib.hid (show TBox w3 g1 ⟨lo1, ⟨ka1, kn1, kc1⟩, ⟨na1, nn1, nc1⟩, ⟨pa1, pn1, pc1⟩⟩ from by rw [hw2]; exact Box.at_ w2 _ _ hg2)
  have HB3 := Lib.hid (HB2.out.trans (hb2.mono HB2.out.size))
  have HA3 := Lib.hid (HA2.out.on hb2)
  have HS3 := Lib.hid (HS2.out.on hb2)
  have HT3 := Lib.hid (HT2.out.on hb2)
  clear hb2 HB2 HA2 HS2 HT2 
  go_upto_region 4 with fail
  rw [← hg2, ← hw2]
  clear hg2 hw2
  clear HA3
  have HPS := Lib.hid (tree_len HT3.out)
  have hc : Calls Try.prog 17 #[.agg #[.string lo1, .slice ka1 kn1 kc1, .slice na1 nn1 nc1, .slice pa1 pn1 pc1], .agg #[.string noB, .string noB, .bool true]] w3 fun e w' => ∃ v', e = .returned v' ∧ PV w' v' P ∧ Below w3.heap.size w3 w' := by
    have h1 := tscan_any _ _ _ _ ⟨noS, noS, true⟩ w3 HT3.out (by rw [← HLA.out]; omega)
    rw [pick_all] at h1
    exact h1
  obtain ⟨b0, b1, b2, b3⟩ := TBox.cells BX3.out
  simp only at b0 b1 b2 b3
  go_wp2_with fail
  refine (hc).mono ?_
  clear b0 b1 b2 b3 hc
  rintro e w4 ⟨v4, rfl, hv4, hb⟩
  have HV4 := Lib.hid hv4
  clear hv4
  have HB4 := Lib.hid (HB3.out.trans (hb.mono HB3.out.size))
  have HS4 := Lib.hid (HS3.out.on hb)
  have HT4 := Lib.hid (HT3.out.on hb)
  have BX4 := Lib.hid (show TBox w4 g1 ⟨lo1, ⟨ka1, kn1, kc1⟩, ⟨na1, nn1, nc1⟩, ⟨pa1, pn1, pc1⟩⟩ from BX3.out.on hb)
  clear hb HB3 HS3 HT3 BX3 
  obtain ⟨AP, cp, hvv, hprs, _⟩ := HV4.out
  subst hvv
  obtain ⟨np, hnp⟩ : ∃ np, P.length = np := ⟨_, rfl⟩
  rw [hnp]
  have HNP := Lib.hid hnp
  have hpb : np ≤ 60 := by rw [← hnp]; have h1 := HPS.out.1; rw [← HLA.out] at h1; omega
  have HPR := Lib.hid hprs
  obtain ⟨ws, hws⟩ : ∃ wz, wz = w4 := ⟨_, rfl⟩
  clear hnp hprs
  go_wp2
  rw [← hws] at HB4 HS4 HT4 BX4 HPR ⊢
  clear hws HV4
  go_loopw [37] (fun vi wr => ∃ i : Nat, vi = .int .i64 i ∧ i ≤ np ∧ Below ws.heap.size ws wr) (fun vi _ => (np - intOf vi).toNat)
  case atStart => exact ⟨0, rfl, by omega, Below.refl _ _⟩
  case round =>
    obtain ⟨i, rfl, hin, hbr⟩ := hrel
    have HBR := Lib.hid hbr
    by_cases hlt : i < np
    · have hil : i < P.length := by rw [HNP.out]; exact hlt
      obtain ⟨ad, rfl, hab, hca⟩ := HPR.out.seeP (by omega)
      obtain ⟨c0, c1⟩ := hca i hil
      obtain ⟨x, hx⟩ : ∃ x, x = P[i]'hil := ⟨_, rfl⟩
      have hgm : getL P x.k = some x.v := by rw [hx]; exact getL_mem (well_sorted HPS.out.2) i hil
      have HLS := Lib.hid (show ∀ j, i = j + 1 → ∃ hj : j < P.length, P[j].k < x.k from fun j hj => ⟨by omega, by rw [hx]; exact sorted_get.1 (well_sorted HPS.out.2) j i (by omega) hil (by omega)⟩)
      have HCA := Lib.hid hca
      rw [← hx] at c0 c1
      clear hx hca
      obtain ⟨xk, xv⟩ := x
      simp only at c0 c1 hgm HLS
      replace c0 := (hbr.cell (lt_of_cell c0)).trans c0
      replace c1 := (hbr.cell (lt_of_cell c1)).trans c1
      obtain ⟨w5, hw5⟩ : ∃ w2, w2 = wr.alloc (.cells #[.string xk, .string xv] 44) := ⟨_, rfl⟩
      obtain ⟨g5, hg5⟩ : ∃ g2, g2 = wr.heap.size := ⟨_, rfl⟩
      have hb5 : Below wr.heap.size wr w5 := by rw [hw5]; exact (Below.refl _ _).alloc (Nat.le_refl _) _
      have HB5 := Lib.hid (hbr.trans (hb5.mono hbr.size))
      have PX := Lib.hid (show Box w5 g5 44 #[.string xk, .string xv] from by rw [hw5]; exact Box.at_ wr _ _ hg5)
      go_upto_region 8 with fail
      rw [← hg5, ← hw5]
      clear hw5 hg5 c0 c1
      have hx5 : TBox w5 g1 ⟨lo1, ⟨ka1, kn1, kc1⟩, ⟨na1, nn1, nc1⟩, ⟨pa1, pn1, pc1⟩⟩ := BX4.out.on HB5.out
      obtain ⟨b0, b1, b2, b3⟩ := TBox.cells hx5
      simp only at b0 b1 b2 b3
      have q0 := Box.cell PX.out 0 rfl
      have q1 := Box.cell PX.out 1 rfl
      have hc := tget_any _ _ _ _ xk w5 (HT4.out.on HB5.out)
      rw [hgm] at hc
      replace hc : Calls Try.prog 14 #[.agg #[.string lo1, .slice ka1 kn1 kc1, .slice na1 nn1 nc1, .slice pa1 pn1 pc1], .string xk] w5 fun e w' => e = .returned (.tuple #[.string xv, .bool true]) ∧ Below w5.heap.size w5 w' := hc
      have HIL := Lib.hid (And.intro hil hlt)
      clear hb5 hgm hab hx5 hil hbr
      go_wp2_with fail
      refine hc.mono ?_
      clear hc b0 b1 b2 b3 q0 q1
      rintro e w6 ⟨rfl, hb6⟩
      have HB6 := Lib.hid (HB5.out.trans (hb6.mono HB5.out.size))
      have PX6 := Lib.hid (PX.out.on hb6)
      have q0 := Box.cell PX6.out 0 (v := .string xk) rfl
      have q1 := Box.cell PX6.out 1 (v := .string xv) rfl
      have hz := str_eq (rfl : xv = xv)
      clear hb6 PX HB5
      rcases i with _ | j
      · have hd0 : decide ((0 : Int) < ((0 : Nat) : Int)) = false := rfl
        go_wp2
        go_quiet (fail)
        go_wp2
        go_roundw
        case rel => exact ⟨1, by first | rfl | go_num, by omega, below_drewN HB6.out _⟩
        case measure => simp [intOf]; omega
      · obtain ⟨hj, hjl⟩ := HLS.out j rfl
        obtain ⟨d0, d1⟩ := HCA.out j hj
        replace d0 := (HB6.out.cell (lt_of_cell d0)).trans d0
        obtain ⟨y, hy⟩ : ∃ y, y = P[j]'hj := ⟨_, rfl⟩
        rw [← hy] at d0 hjl
        obtain ⟨yk, yv⟩ := y
        simp only at d0 hjl
        have hlt2 : Op.bytesLess yk.toList xk.toList = true := hjl
        have hd0 : decide ((0 : Int) < ((j + 1 : Nat) : Int)) = true := decide_eq_true (by omega)
        have hjn : j < np := by have := HIL.out.2; omega
        have wj : IntKind.i64.wrap (((j + 1 : Nat) : Int) - 1) = (j : Int) := by rw [IntKind.wrap_i64]; omega
        have wj2 : ((j + 1 : Nat) : Int) - 1 = (j : Int) := by omega
        clear hy hjl d1
        go_wp2
        go_quiet (fail)
        go_wp2
        go_roundw
        case rel => exact ⟨j + 1 + 1, by first | rfl | go_num, by omega, below_drewN HB6.out _⟩
        case measure => simp [intOf]; omega
    · have hin2 : i = np := by omega
      subst hin2
      clear HPR hbr hin hlt
      obtain ⟨wq, hwq⟩ : ∃ wz, wz = wr := ⟨_, rfl⟩
      go_wp2
      go_loopw [75] (fun vi wr => ∃ i : Nat, vi = .int .i64 i ∧ i ≤ nk ∧ Below ws.heap.size ws wr) (fun vi _ => (nk - intOf vi).toNat)
      case atStart => exact ⟨0, rfl, by omega, HBR.out⟩
      case round =>
        clear HBR
        obtain ⟨j, rfl, hjn, hbr⟩ := hrel
        by_cases hlt : j < nk
        · have hjl : j < ks.length := by rw [← HLK.out]; exact hlt
          have hjk : j < nk := hlt
          have hdj : decide ((j : Int) < (nk : Int)) = true := by simp; omega
          obtain ⟨ad, rfl, c0⟩ : ∃ ad, S = some ad ∧ ws.cell? (ad.add j) = some (.string (ks[j]'hjl)) := by
            obtain ⟨S2, c2, e2, hs2⟩ := HS4.out
            injection e2 with e2 _ _
            subst e2
            obtain ⟨ad, hS', _, hca⟩ := hs2 (by omega)
            exact ⟨ad, hS', hca j hjl⟩
          obtain ⟨x, hx⟩ : ∃ x, x = ks[j]'hjl := ⟨_, rfl⟩
          have hxs : x.size ≤ 140737488351232 := by rw [hx]; exact HKM.out.2 _ (List.getElem_mem hjl)
          rw [← hx] at c0
          replace c0 := (hbr.cell (lt_of_cell c0)).trans c0
          have HB5 := Lib.hid hbr
          obtain ⟨w5, hw5⟩ : ∃ wz, wz = wr := ⟨_, rfl⟩
          have hx5 : TBox wr g1 ⟨lo1, ⟨ka1, kn1, kc1⟩, ⟨na1, nn1, nc1⟩, ⟨pa1, pn1, pc1⟩⟩ := BX4.out.on hbr
          obtain ⟨b0, b1, b2, b3⟩ := TBox.cells hx5
          simp only at b0 b1 b2 b3
          have HX := Lib.hid (And.intro hxs hjk)
          clear hx hx5 hxs
          cases hg : getL P x with
          | none =>
            have hc := tget_any _ _ _ _ x wr (HT4.out.on hbr)
            rw [hg] at hc
            replace hc : Calls Try.prog 14 #[.agg #[.string lo1, .slice ka1 kn1 kc1, .slice na1 nn1 nc1, .slice pa1 pn1 pc1], .string x] wr fun e w' => e = .returned (.tuple #[.string noB, .bool false]) ∧ Below wr.heap.size wr w' := hc
            clear hbr
            go_wp2_with fail
            refine hc.mono ?_
            clear hc b0 b1 b2 b3 c0
            rintro e w6 ⟨rfl, hb6⟩
            have HB6 := Lib.hid (HB5.out.trans (hb6.mono HB5.out.size))
            obtain ⟨b0, b1, b2, b3⟩ := TBox.cells (BX4.out.on HB6.out)
            simp only at b0 b1 b2 b3
            have hc : Calls Try.prog 17 #[.agg #[.string lo1, .slice ka1 kn1 kc1, .slice na1 nn1 nc1, .slice pa1 pn1 pc1], .agg #[.string x, .string (x ++ ⟨#[0]⟩), .bool false]] w6 fun e w' => ∃ v', e = .returned v' ∧ PV w' v' [] ∧ Below w6.heap.size w6 w' := by
              have h1 := tscan_any _ _ _ _ ⟨x, nextS x, false⟩ w6 (HT4.out.on HB6.out) (by rw [← HLA.out]; have := HL60.out.1; omega)
              rw [pick_next (well_sorted HPS.out.2), hg] at h1
              exact h1
            clear hb6 hg
            have hxs := HX.out.1
            go_wp2_with fail
            refine hc.mono ?_
            clear hc b0 b1 b2 b3
            rintro e w7 ⟨v7, rfl, hv7, hb7⟩
            obtain ⟨A7, c7, e7, _⟩ := hv7
            replace e7 : v7 = .slice A7 0 c7 := e7
            subst e7
            have HB7 := Lib.hid (HB6.out.trans (hb7.mono HB6.out.size))
            clear hb7 hxs
            go_wp2
            go_roundw
            case rel => exact ⟨j + 1, by first | rfl | go_num, by have := HX.out.2; omega, HB7.out⟩
            case measure => have := HX.out.2; simp [intOf]; omega
          | some v =>
            have hc := tget_any _ _ _ _ x wr (HT4.out.on hbr)
            rw [hg] at hc
            replace hc : Calls Try.prog 14 #[.agg #[.string lo1, .slice ka1 kn1 kc1, .slice na1 nn1 nc1, .slice pa1 pn1 pc1], .string x] wr fun e w' => e = .returned (.tuple #[.string v, .bool true]) ∧ Below wr.heap.size wr w' := hc
            clear hbr
            go_wp2_with fail
            refine hc.mono ?_
            clear hc b0 b1 b2 b3 c0
            rintro e w6 ⟨rfl, hb6⟩
            have HB6 := Lib.hid (HB5.out.trans (hb6.mono HB5.out.size))
            obtain ⟨b0, b1, b2, b3⟩ := TBox.cells (BX4.out.on HB6.out)
            simp only at b0 b1 b2 b3
            have hc : Calls Try.prog 17 #[.agg #[.string lo1, .slice ka1 kn1 kc1, .slice na1 nn1 nc1, .slice pa1 pn1 pc1], .agg #[.string x, .string (x ++ ⟨#[0]⟩), .bool false]] w6 fun e w' => ∃ v', e = .returned v' ∧ PV w' v' [⟨x, v⟩] ∧ Below w6.heap.size w6 w' := by
              have h1 := tscan_any _ _ _ _ ⟨x, nextS x, false⟩ w6 (HT4.out.on HB6.out) (by rw [← HLA.out]; have := HL60.out.1; omega)
              rw [pick_next (well_sorted HPS.out.2), hg] at h1
              exact h1
            clear hb6 hg
            have hxs := HX.out.1
            go_wp2_with fail
            refine hc.mono ?_
            clear hc b0 b1 b2 b3
            rintro e w7 ⟨v7, rfl, hv7, hb7⟩
            obtain ⟨A7, c7, e7, hp7, _⟩ := hv7
            replace e7 : v7 = .slice A7 1 c7 := e7
            subst e7
            obtain ⟨a7, rfl, hab7, hca7⟩ := hp7.seeP (by simp)
            obtain ⟨d0, d1⟩ := hca7 0 (by simp)
            rw [Nat.zero_mul, Addr.add_zero'] at d0 d1
            simp only [List.getElem_cons_zero] at d0 d1
            have HB7 := Lib.hid (HB6.out.trans (hb7.mono HB6.out.size))
            have hz1 := str_eq (rfl : x = x)
            have hz2 := str_eq (rfl : v = v)
            clear hb7 hxs hca7 hab7 hp7
            go_wp2
            go_roundw
            case rel => exact ⟨j + 1, by first | rfl | go_num, by have := HX.out.2; omega, HB7.out⟩
            case measure => have := HX.out.2; simp [intOf]; omega
        · have HB5 := Lib.hid hbr
          have hdj : decide ((j : Int) < (nk : Int)) = false := by simp; omega
          have hnp2 : E = 0 ∨ i = 0 := by
            rcases HEP.out with h | h
            · exact .inl h
            · right; rw [← HNP.out, h]; rfl
          clear hbr
          by_cases hE : E = 0
          · subst hE
            go_wp2_with fail
            refine (awake_true _).mono ?_
            rintro e w9 ⟨rfl, hb9⟩
            have HB9 := Lib.hid (HB4.out.trans ((HB5.out.trans (hb9.mono HB5.out.size)).mono HB4.out.size))
            clear hb9
            go_wp2
            go_ret
            exact ⟨rfl, HB9.out⟩
          · have hi0 : i = 0 := hnp2.resolve_left hE
            subst hi0
            have hdE : decide ((E : Int) = 0) = false := by simp; omega
            go_wp2_with fail
            refine (awake_true _).mono ?_
            rintro e w9 ⟨rfl, hb9⟩
            have HB9 := Lib.hid (HB4.out.trans ((HB5.out.trans (hb9.mono HB5.out.size)).mono HB4.out.size))
            clear hb9
            go_wp2
            go_ret
            exact ⟨rfl, HB9.out⟩

end Go.Proofs.Yteddjmkoleclpaa
