/- The walk of the law TreeEmpties. -/
import Derived.Test.YteddjmkoleclpaaZro
import Derived.Test.YteddjmkoleclpaaPhase
import Derived.Test.YteddjmkoleclpaaNBS
set_option linter.unusedVariables false
set_option linter.unusedSimpArgs false
namespace Go.Proofs.Yteddjmkoleclpaa
open Go.RowKit Go.Sort

theorem delN_key {P : List Pr} {m : Nat} {h : m < P.length} {xe : ByteArray} (e : xe = P[m].k) : delN P[m] = ⟨2, xe, noB, 0⟩ := by rw [e]; rfl
theorem wellL_right {P : List Pr} (h : wellL P = true) {m : Nat} (hm : m < P.length) : P[m].k.size ≤ 16 := ((fitsP_iff _).1 (well_fits h _ (List.getElem_mem hm))).1
theorem delK_right {k : ByteArray} (h : k.size ≤ 16) : rightN ⟨2, k, noB, 0⟩ = true := (rightN_iff _).2 ⟨h, .inr (.inl ⟨rfl, rfl, rfl⟩)⟩

/-- What the slots hold where one key is deleted, before and behind the store. -/
def EmptV (tv sv pv : Value) (xe : ByteArray) (base g9 np i d m : Nat) (Q : List Pr) (p t : Nat) (v : Value) (w : World) : Prop :=
  match t with
  | 41 => v = tv
  | 42 => v = sv
  | 43 => v = sv
  | 44 => v = .int .i64 (np : Int)
  | 45 => v = .int .i64 (i : Int)
  | 46 => v = .int .i64 ((np : Int) - (i : Int))
  | 47 => v = .int .u8 (d : Int)
  | 48 => v = .int .i64 (d : Int)
  | 49 => v = .int .i64 ((np : Int) - (i : Int) + (d : Int))
  | 50 => v = sv
  | 51 => v = .int .i64 (np : Int)
  | 52 => v = .int .i64 (m : Int)
  | 53 => v = pv
  | 54 => v = pv
  | 55 => v = .string xe
  | 56 => v = .agg #[.int .i64 2, .string xe, .string noB, .int .u64 0]
  | 57 => p = 0 → OneN base ⟨2, xe, noB, 0⟩ w v
  | 58 => ∃ r : Nr, v = .tuple #[r.v, .int .i64 0] ∧ (p = 0 → TreeS w (Off g9 w) r.v Q (60 + (i + 1)) (200 * (i + 1 + 1)))
  | 40 => ∃ r : Nr, v = .tuple #[r.v, .int .i64 0] ∧ (p = 0 → TreeS w (Off g9 w) r.v Q (60 + (i + 1)) (200 * (i + 1 + 1)))
  | 59 => p = 0 → ∃ r : Nr, v = r.v ∧ TreeS w (Off g9 w) r.v Q (60 + (i + 1)) (200 * (i + 1 + 1))
  | 60 => v = .int .i64 0
  | 11 => ∃ g, v = .pointer (some ⟨g, 0, none⟩) ∧ base ≤ g ∧ (p = 0 → ZB w g) ∧ (p = 1 → ∃ r : Nr, TBox w g r ∧ TreeS w (Off g9 w) r.v Q (60 + (i + 1)) (200 * (i + 1 + 1)))
  | 12 => v = .int .i64 0
  | _ => True
theorem EmptV.on {tv sv pv : Value} {xe : ByteArray} {base g9 np i d m : Nat} {Q : List Pr} {p t : Nat} {v : Value} {w w' : World} (h : EmptV tv sv pv xe base g9 np i d m Q p t v w) (hb : Below w.heap.size w w') : EmptV tv sv pv xe base g9 np i d m Q p t v w' := by
  unfold EmptV at *
  split at h <;> first | exact h | exact fun e => (h e).on hb | exact let ⟨r, e, h2⟩ := h; ⟨r, e, fun e2 => (h2 e2).off hb⟩ | exact fun e2 => let ⟨r, e, h2⟩ := h e2; ⟨r, e, h2.off hb⟩ | exact let ⟨g, e, h1, h2, h3⟩ := h; ⟨g, e, h1, fun e2 => (h2 e2).on hb, fun e2 => let ⟨r, h4, h5⟩ := h3 e2; ⟨r, h4.on hb, h5.off hb⟩⟩

set_option maxHeartbeats 16000000 in
set_option maxRecDepth 100000 in
theorem empties_walk (v1 : Value) (l : List Nt) (d : Nat) (w0 : World) (hA : NV w0 v1 l) (hl : l.length ≤ maxLen) (hd : d ≤ 255) :
    Calls Try.prog 6 #[v1, .int .u8 (d : Int)] w0 fun e w' => e = .returned (.bool true) ∧ Below w0.heap.size w0 w' := by
  have HA0 := Lib.hid hA
  have HB0 := Lib.hid (Below.refl w0.heap.size w0)
  obtain ⟨A, ca, rfl, _, _, _⟩ := hA
  obtain ⟨nl, hla⟩ : ∃ n, n = l.length := ⟨_, rfl⟩
  rw [← hla] at HA0 ⊢
  have HLA := Lib.hid hla
  have HLM := Lib.hid hl
  clear hl hla
  go_enter Try.func6, Try.ntmps6
  have hc := dfew_v HA0.out 60 HLM.out
  rw [← HLA.out] at hc
  go_wp2_with fail
  refine hc.mono ?_
  clear hc
  rintro e w1 ⟨R, rfl, hR, hb⟩
  have HR := Lib.hid hR
  clear hR
  have HB1 := Lib.hid (HB0.out.trans (hb.mono HB0.out.size))
  have HA1 := Lib.hid (HA0.out.on hb)
  clear hb HB0 HA0 
  cases R with
  | false =>
    go_wp2_with fail
    refine (awake_true _).mono ?_
    rintro e w9 ⟨rfl, hb9⟩
    have HB9 := Lib.hid (HB1.out.trans (hb9.mono HB1.out.size))
    clear hb9
    go_wp2
    go_ret
    exact ⟨rfl, HB9.out⟩
  | true =>
  have hl60 : nl ≤ 60 := HR.out rfl
  clear HR
  have hc := dall_any A ca l w1 HA1.out.see.1 HLM.out
  rw [← HLA.out] at hc
  cases hall : l.all rightN with
  | false =>
    rw [hall] at hc
    go_wp2_with fail
    refine hc.mono ?_
    clear hc
    rintro e w2 ⟨rfl, hb⟩
    have HB2 := Lib.hid (HB1.out.trans (hb.mono HB1.out.size))
    clear hb
    go_wp2_with fail
    refine (awake_true _).mono ?_
    rintro e w9 ⟨rfl, hb9⟩
    have HB9 := Lib.hid (HB2.out.trans (hb9.mono HB2.out.size))
    clear hb9
    go_wp2
    go_ret
    exact ⟨rfl, HB9.out⟩
  | true =>
  rw [hall] at hc
  have HALL := Lib.hid hall
  have HL60 := Lib.hid hl60
  clear hall hl60
  go_wp2_with fail
  refine hc.mono ?_
  clear hc
  rintro e w2 ⟨rfl, hb⟩
  have HB2 := Lib.hid (HB1.out.trans (hb.mono HB1.out.size))
  have HA2 := Lib.hid (HA1.out.on hb)
  clear hb HB1 HA1 
  obtain ⟨P, hP⟩ : ∃ P, P = foldOne [] l := ⟨_, rfl⟩
  have HP := Lib.hid hP
  have hc := tapply_any _ _ [] l 0 0 w2 (tree_none w2) HA2.out (by rw [← HLA.out]; have := HL60.out; omega)
  rw [(right_app HALL.out []).1, (right_app HALL.out []).2, ← hP] at hc
  clear hP
  go_wp2_with fail
  refine (hc).mono ?_
  clear  hc
  rintro e w3 ⟨v3, rfl, ht, hb⟩
  have HT3 := Lib.hid ht
  clear ht
  have HB3 := Lib.hid (HB2.out.trans (hb.mono HB2.out.size))
  have HA3 := Lib.hid (HA2.out.on hb)
  clear hb HB2 HA2 
  obtain ⟨lo1, ka1, kn1, kc1, na1, nn1, nc1, pa1, pn1, pc1, rfl⟩ := tree_shape HT3.out
  obtain ⟨w4, hw2⟩ : ∃ wz, wz = w3.alloc (.cells #[.string lo1, .slice ka1 kn1 kc1, .slice na1 nn1 nc1, .slice pa1 pn1 pc1] 32) := ⟨_, rfl⟩
  obtain ⟨g1, hg2⟩ : ∃ gz, gz = w3.heap.size := ⟨_, rfl⟩
  have hb2 : Below w3.heap.size w3 w4 := by rw [hw2]; exact (Below.refl _ _).alloc (Nat.le_refl _) _
  have BX4 := Lib.hid (show TBox w4 g1 ⟨lo1, ⟨ka1, kn1, kc1⟩, ⟨na1, nn1, nc1⟩, ⟨pa1, pn1, pc1⟩⟩ from by rw [hw2]; exact Box.at_ w3 _ _ hg2)
  have HB4 := Lib.hid (HB3.out.trans (hb2.mono HB3.out.size))
  have HA4 := Lib.hid (HA3.out.on hb2)
  have HT4 := Lib.hid (HT3.out.on hb2)
  clear hb2 HB3 HA3 HT3 
  go_upto_region 4 with fail
  rw [← hg2, ← hw2]
  clear hg2 hw2
  obtain ⟨w5, hw5⟩ : ∃ wz, wz = w4.alloc (.cells #[.string noB, .string noB, .bool true] 24) := ⟨_, rfl⟩
  obtain ⟨g7, hg7⟩ : ∃ gz, gz = w4.heap.size := ⟨_, rfl⟩
  have hb5 : Below w4.heap.size w4 w5 := by rw [hw5]; exact (Below.refl _ _).alloc (Nat.le_refl _) _
  have RXN := Lib.hid (show RBlk w5 g7 ⟨noB, noB, true⟩ from by rw [hw5]; exact Box.at_ w4 _ _ hg7)
  have HB5 := Lib.hid (HB4.out.trans (hb5.mono HB4.out.size))
  have HA5 := Lib.hid (HA4.out.on hb5)
  have HT5 := Lib.hid (HT4.out.on hb5)
  have BX5 := Lib.hid (show TBox w5 g1 ⟨lo1, ⟨ka1, kn1, kc1⟩, ⟨na1, nn1, nc1⟩, ⟨pa1, pn1, pc1⟩⟩ from BX4.out.on hb5)
  clear hb5 HB4 HA4 HT4 BX4 
  have RX5 := RXN
  clear RXN
  go_upto_region 5 with fail
  rw [← hg7, ← hw5]
  clear hg7 hw5
  have hc : Calls Try.prog 17 #[.agg #[.string lo1, .slice ka1 kn1 kc1, .slice na1 nn1 nc1, .slice pa1 pn1 pc1], .agg #[.string noB, .string noB, .bool true]] w5 fun e w' => ∃ v', e = .returned v' ∧ PV w' v' P ∧ Below w5.heap.size w5 w' := by
    have h1 := tscan_any _ _ _ _ ⟨noS, noS, true⟩ w5 HT5.out (by rw [← HLA.out]; have := HL60.out; omega)
    rw [pick_all] at h1
    exact h1
  obtain ⟨b0, b1, b2, b3⟩ := TBox.cells BX5.out
  obtain ⟨r0, r1, r2⟩ := RBlk.cells RX5.out
  simp only at b0 b1 b2 b3 r0 r1 r2
  go_wp2_with fail
  refine hc.mono ?_
  clear hc b0 b1 b2 b3 r0 r1 r2
  rintro e w6 ⟨v6, rfl, hv, hb⟩
  have HS6 := Lib.hid hv
  clear hv
  have HB6 := Lib.hid (HB5.out.trans (hb.mono HB5.out.size))
  have HA6 := Lib.hid (HA5.out.on hb)
  have HT6 := Lib.hid (HT5.out.on hb)
  have BX6 := Lib.hid (show TBox w6 g1 ⟨lo1, ⟨ka1, kn1, kc1⟩, ⟨na1, nn1, nc1⟩, ⟨pa1, pn1, pc1⟩⟩ from BX5.out.on hb)
  have RX6 := Lib.hid (show RBlk w6 g7 ⟨noB, noB, true⟩ from cells_of RX5.out hb)
  clear hb HB5 HA5 HT5 BX5 RX5 
  clear RX6
  have HPL := Lib.hid (show P.length ≤ 60 ∧ wellL P = true by have h1 := tree_len HT6.out; rw [← HLA.out] at h1; have := HL60.out; exact ⟨by omega, h1.2⟩)
  obtain ⟨AP, cp, hv6, _⟩ := HS6.out
  subst hv6
  obtain ⟨np, hnp⟩ : ∃ np, P.length = np := ⟨_, rfl⟩
  rw [hnp] at HS6 ⊢
  have HNP := Lib.hid hnp
  clear hnp
  obtain ⟨w7, hw7⟩ : ∃ wz, wz = w6.alloc (.cells #[.string lo1, .slice ka1 kn1 kc1, .slice na1 nn1 nc1, .slice pa1 pn1 pc1] 32) := ⟨_, rfl⟩
  obtain ⟨g9, hg9⟩ : ∃ gz, gz = w6.heap.size := ⟨_, rfl⟩
  have hb7 : Below w6.heap.size w6 w7 := by rw [hw7]; exact (Below.refl _ _).alloc (Nat.le_refl _) _
  have TB7 := Lib.hid (show TBox w7 g9 ⟨lo1, ⟨ka1, kn1, kc1⟩, ⟨na1, nn1, nc1⟩, ⟨pa1, pn1, pc1⟩⟩ from by rw [hw7]; exact Box.at_ w6 _ _ hg9)
  have TS7 := Lib.hid (show TreeS w7 (Off g9 w7) (Nr.v ⟨lo1, ⟨ka1, kn1, kc1⟩, ⟨na1, nn1, nc1⟩, ⟨pa1, pn1, pc1⟩⟩) (foldOne P ((turnN (P.map delN) d).take 0)) (60 + 0) (200 * (0 + 1)) from (TreeV.off HT6.out hb7 (by omega)).more (by rw [← HLA.out]; have := HL60.out; omega) (by rw [← HLA.out]; have := HL60.out; omega))
  have HG9 := Lib.hid (show w6.heap.size ≤ g9 from by omega)
  have HB7 := Lib.hid hb7
  clear hb7
  obtain ⟨b0, b1, b2, b3⟩ := TBox.cells BX6.out
  simp only at b0 b1 b2 b3
  go_upto_region 7 with fail
  rw [← hg9, ← hw7]
  clear hg9 hw7 b0 b1 b2 b3
  go_wp2
  go_loopw [37] (fun vi wr => ∃ (i : Nat) (r : Nr), vi = .int .i64 i ∧ i ≤ np ∧ Hid (TBox wr g9 r) ∧ Hid (TreeS wr (Off g9 wr) r.v (foldOne P ((turnN (P.map delN) d).take i)) (60 + i) (200 * (i + 1))) ∧ Below w6.heap.size w6 wr) (fun vi _ => (np - intOf vi).toNat)
  case atStart => exact ⟨0, _, rfl, by omega, TB7, TS7, HB7.out⟩
  case round =>
    clear TB7 TS7 HB7
    obtain ⟨i, r, rfl, hin, HBX, HTS, hbr⟩ := hrel
    obtain ⟨lo7, ⟨ka7, kn7, kc7⟩, ⟨na7, nn7, nc7⟩, ⟨pa7, pn7, pc7⟩⟩ := r
    have hnp60 : np ≤ 60 := by rw [← HNP.out]; exact HPL.out.1
    by_cases hlt : i < np
    · skip
      have hdl : decide ((i : Int) < (np : Int)) = true := by simp; omega
      have hpos : 0 < np := by omega
      obtain ⟨m, hm⟩ : ∃ m, m = (np - i + d) % np := ⟨_, rfl⟩
      have hmn : m < np := by rw [hm]; exact Nat.mod_lt _ hpos
      have hml : m < P.length := by rw [HNP.out]; exact hmn
      have hrem : ((np : Int) - (i : Int) + (d : Int)).tmod (np : Int) = (m : Int) := by
        have e : ((np : Int) - (i : Int) + (d : Int)) = ((np - i + d : Nat) : Int) := by omega
        rw [e, hm]
        rfl
      obtain ⟨xe, hxe⟩ : ∃ xe, xe = (P[m]'hml).k := ⟨_, rfl⟩
      have HTT := Lib.hid (show (turnN (P.map delN) d).take (i + 1) = (turnN (P.map delN) d).take i ++ [⟨2, xe, noB, 0⟩] from by
        have hl : (P.map delN).length = np := by rw [List.length_map, HNP.out]
        have h := turnN_take (l := P.map delN) (d := d) (i := i) (j := m) (by rw [hl]; exact hlt) (by rw [hl]; exact hm) (by rw [hl]; exact hmn)
        rw [h, List.getElem_map, ← delN_key hxe])
      obtain ⟨ad, rfl, HPC⟩ : ∃ ad, AP = some ad ∧ Hid (∀ wx, Below w6.heap.size w6 wx → wx.cell? (ad.add (m * 2)) = some (.string xe)) := by
        obtain ⟨A', c', e', h1, _, _⟩ := HS6.out
        injection e' with e1 e2 e3
        subst e1 e3
        obtain ⟨ad, h2, _, h4⟩ := h1.seeP (by omega)
        obtain ⟨h5, _⟩ := h4 m hml
        rw [← hxe] at h5
        exact ⟨ad, h2, fun wx h => (h.cell (lt_of_cell h5)).trans h5⟩
      have hn60 := HL60.out
      have HN := Lib.hid (show m < np ∧ i < np ∧ np ≤ 60 ∧ d ≤ 255 from ⟨hmn, hlt, hnp60, hd⟩)
      have HREM := Lib.hid hrem
      have HW46 := Lib.hid (show IntKind.i64.wrap ((np : Int) - (i : Int)) = (np : Int) - (i : Int) by rw [IntKind.wrap_i64]; omega)
      have HW48 := Lib.hid (show IntKind.i64.wrap (d : Int) = (d : Int) by rw [IntKind.wrap_i64]; omega)
      have HW49 := Lib.hid (show IntKind.i64.wrap ((np : Int) - (i : Int) + (d : Int)) = (np : Int) - (i : Int) + (d : Int) by rw [IntKind.wrap_i64]; omega)
      obtain ⟨Q, hQ⟩ : ∃ Q, Q = foldOne P ((turnN (P.map delN) d).take (i + 1)) := ⟨_, rfl⟩
      have HQ := Lib.hid (show foldOne (foldOne P ((turnN (P.map delN) d).take i)) [⟨2, xe, noB, 0⟩] = Q from by rw [hQ, HTT.out, foldOne_append])
      have HQ2 := Lib.hid hQ
      have HRX := Lib.hid (show [⟨2, xe, noB, 0⟩].all rightN = true from by
        have hw2 := wellL_right HPL.out.2 hml
        rw [← hxe] at hw2
        rw [List.all_cons, List.all_nil, Bool.and_true]
        exact delK_right hw2)
      obtain ⟨wz, hwz⟩ : ∃ wz, wz = wr := ⟨_, rfl⟩
      clear hm hxe hQ hrem hmn
      go_upto_region 10 with fail
      rw [← hwz] at HBX HTS hbr ⊢
      clear hwz
      have HDr := Lib.hid hbr
      have HC9 := Lib.hid (show ∀ wx, Below wz.heap.size wz wx → _ from fun wx h => TBox.cells (r := ⟨lo7, ⟨ka7, kn7, kc7⟩, ⟨na7, nn7, nc7⟩, ⟨pa7, pn7, pc7⟩⟩) (HBX.out.on h))
      simp only at HC9
      have HPC2 := Lib.hid (show ∀ wx, Below wz.heap.size wz wx → wx.cell? (ad.add (m * 2)) = some (.string xe) from fun wx h => HPC.out wx (HDr.out.trans (h.mono HDr.out.size)))
      have HG := Lib.hid (show g9 < wz.heap.size from Box.lt HBX.out)
      have HAP := Lib.hid (show ∀ wx u, Below wz.heap.size wz wx → OneN wz.heap.size (⟨2, xe, noB, 0⟩ : Nt) wx u → Calls Try.prog 11 #[.agg #[.string lo7, .slice ka7 kn7 kc7, .slice na7 nn7 nc7, .slice pa7 pn7 pc7], u] wx fun e w' => ∃ r : Nr, e = .returned (.tuple #[r.v, .int .i64 0]) ∧ TreeS w' (Off g9 w') r.v Q (60 + (i + 1)) (200 * (i + 1 + 1)) ∧ Below wx.heap.size wx w' from fun wx u h hu => by
        obtain ⟨gu, rfl, hl5⟩ := hu.lies
        have hnv : NV wx (.slice (some ⟨gu, 0, none⟩) 1 1) [⟨2, xe, noB, 0⟩] := ⟨_, 1, rfl, hl5, Nat.le_refl _, fun h => by cases h⟩
        have hg : g9 < wx.heap.size := by have := HG.out; have := h.size; omega
        have h1 := tapply_s (Off g9 wx) _ _ _ [⟨2, xe, noB, 0⟩] _ _ wx (off_und _ _) (HTS.out.off h) hnv (by have := HN.out; simp; omega)
        rw [(right_app HRX.out (foldOne P ((turnN (P.map delN) d).take i))).1, (right_app HRX.out (foldOne P ((turnN (P.map delN) d).take i))).2, HQ.out] at h1
        refine h1.mono ?_
        rintro e w' ⟨v', rfl, ht, hb⟩
        obtain ⟨hh, r, t, rfl, ht2⟩ := (ht.gr hg hb.size).more (M' := 60 + (i + 1)) (H' := 200 * (i + 1 + 1)) (by simp; omega) (by have := HN.out; simp; omega)
        exact ⟨r, rfl, ⟨hh, r, t, rfl, ht2⟩, hb⟩)
      refine wp_region_phase 26 [41, 42, 43, 44, 45, 46, 47, 48, 49, 50, 51, 52, 53, 54, 55, 56, 57, 58, 40, 59, 60, 11, 12] (by kernel_rfl) [22] [] (fun _ _ => True) 1 rfl (by kernel_rfl) (fun _ w' => Below wz.heap.size wz w') (fun wa wb => Below wa.heap.size wa wb) (EmptV (.agg #[.string lo7, .slice ka7 kn7 kc7, .slice na7 nn7 nc7, .slice pa7 pn7 pc7]) (.slice (some ad) np cp) (.pointer (some (ad.add (m * 2)))) xe wz.heap.size g9 np i d m Q) (by kernel_rfl) (fun _ wa wb h1 h2 => h2.trans (h1.mono h2.size)) (fun _ t v wa wb h1 h2 => h2.on h1) (fun _ _ _ _ _ _ _ => trivial) (Below.refl _ _).drew trivial (phase1 ?_ ?_) ?_
      · skip
        refine Steps1.cons (fun _ ax wx hS hJ hG => ?_) (Steps1.cons (fun _ ax wx hS hJ hG => ?_) (Steps1.cons (fun _ ax wx hS hJ hG => ?_) (Steps1.cons (fun _ ax wx hS hJ hG => ?_) (Steps1.cons (fun _ ax wx hS hJ hG => ?_) (Steps1.cons (fun _ ax wx hS hJ hG => ?_) (Steps1.cons (fun _ ax wx hS hJ hG => ?_) (Steps1.cons (fun _ ax wx hS hJ hG => ?_) (Steps1.cons (fun _ ax wx hS hJ hG => ?_) (Steps1.cons (fun _ ax wx hS hJ hG => ?_) (Steps1.cons (fun _ ax wx hS hJ hG => ?_) (Steps1.cons (fun _ ax wx hS hJ hG => ?_) (Steps1.cons (fun _ ax wx hS hJ hG => ?_) (Steps1.cons (fun _ ax wx hS hJ hG => ?_) (Steps1.cons (fun _ ax wx hS hJ hG => ?_) (Steps1.cons (fun _ ax wx hS hJ hG => ?_) (Steps1.cons (fun _ ax wx hS hJ hG => ?_) (Steps1.cons (fun _ ax wx hS hJ hG => ?_) (Steps1.cons (fun _ ax wx hS hJ hG => ?_) (Steps1.cons (fun _ ax wx hS hJ hG => ?_) (Steps1.cons (fun _ ax wx hS hJ hG => ?_) (Steps1.cons (fun _ ax wx hS hJ hG => ?_) (Steps1.cons (fun _ ax wx hS hJ hG => ?_) (Steps1.cons (fun _ ax wx hS hJ hG => ?_) Steps1.nil)))))))))))))))))))))))
        · have q9 := hG.old 9 (by kernel_rfl) (by kernel_rfl)
          obtain ⟨z0, z1, z2, z3⟩ := HC9.out wx hS
          refine step_slot rfl rfl rfl (step_value (v := .agg #[.string lo7, .slice ka7 kn7 kc7, .slice na7 nn7 nc7, .slice pa7 pn7 pc7]) (w' := wx) rfl rfl ?_ (Below.refl _ _) (fun d hd => by cases hd; exact rfl))
          go_simp
        · have q8 := hG.old 8 (by kernel_rfl) (by kernel_rfl)
          refine step_slot rfl rfl rfl (step_value (v := .slice (some ad) np cp) (w' := wx) rfl rfl ?_ (Below.refl _ _) (fun d hd => by cases hd; exact rfl))
          go_simp
        · have q8 := hG.old 8 (by kernel_rfl) (by kernel_rfl)
          refine step_slot rfl rfl rfl (step_value (v := .slice (some ad) np cp) (w' := wx) rfl rfl ?_ (Below.refl _ _) (fun d hd => by cases hd; exact rfl))
          go_simp
        · obtain ⟨_, q43, rfl⟩ := hG.new 43 (by kernel_rfl) (by kernel_rfl)
          refine step_slot rfl rfl rfl (step_value (v := .int .i64 (np : Int)) (w' := wx) rfl rfl ?_ (Below.refl _ _) (fun d hd => by cases hd; exact rfl))
          go_simp
        · have q10 := hG.old 10 (by kernel_rfl) (by kernel_rfl)
          refine step_slot rfl rfl rfl (step_value (v := .int .i64 (i : Int)) (w' := wx) rfl rfl ?_ (Below.refl _ _) (fun d hd => by cases hd; exact rfl))
          go_simp
        · obtain ⟨_, q44, rfl⟩ := hG.new 44 (by kernel_rfl) (by kernel_rfl)
          obtain ⟨_, q45, rfl⟩ := hG.new 45 (by kernel_rfl) (by kernel_rfl)
          refine step_slot rfl rfl rfl (step_value (v := .int .i64 ((np : Int) - (i : Int))) (w' := wx) rfl rfl ?_ (Below.refl _ _) (fun d hd => by cases hd; exact rfl))
          have hw := HW46.out
          go_simp
        · have q1 := hG.old 1 (by kernel_rfl) (by kernel_rfl)
          refine step_slot rfl rfl rfl (step_value (v := .int .u8 (d : Int)) (w' := wx) rfl rfl ?_ (Below.refl _ _) (fun d hd => by cases hd; exact rfl))
          go_simp
        · obtain ⟨_, q47, rfl⟩ := hG.new 47 (by kernel_rfl) (by kernel_rfl)
          refine step_slot rfl rfl rfl (step_value (v := .int .i64 (d : Int)) (w' := wx) rfl rfl ?_ (Below.refl _ _) (fun d hd => by cases hd; exact rfl))
          have hw := HW48.out
          go_simp
        · obtain ⟨_, q46, rfl⟩ := hG.new 46 (by kernel_rfl) (by kernel_rfl)
          obtain ⟨_, q48, rfl⟩ := hG.new 48 (by kernel_rfl) (by kernel_rfl)
          refine step_slot rfl rfl rfl (step_value (v := .int .i64 ((np : Int) - (i : Int) + (d : Int))) (w' := wx) rfl rfl ?_ (Below.refl _ _) (fun d hd => by cases hd; exact rfl))
          have hw := HW49.out
          go_simp
        · have q8 := hG.old 8 (by kernel_rfl) (by kernel_rfl)
          refine step_slot rfl rfl rfl (step_value (v := .slice (some ad) np cp) (w' := wx) rfl rfl ?_ (Below.refl _ _) (fun d hd => by cases hd; exact rfl))
          go_simp
        · obtain ⟨_, q50, rfl⟩ := hG.new 50 (by kernel_rfl) (by kernel_rfl)
          refine step_slot rfl rfl rfl (step_value (v := .int .i64 (np : Int)) (w' := wx) rfl rfl ?_ (Below.refl _ _) (fun d hd => by cases hd; exact rfl))
          go_simp
        · obtain ⟨_, q49, rfl⟩ := hG.new 49 (by kernel_rfl) (by kernel_rfl)
          obtain ⟨_, q51, rfl⟩ := hG.new 51 (by kernel_rfl) (by kernel_rfl)
          refine step_slot rfl rfl rfl (step_value (v := .int .i64 (m : Int)) (w' := wx) rfl rfl ?_ (Below.refl _ _) (fun d hd => by cases hd; exact rfl))
          have hr := HREM.out
          have hn0 : ¬ np = 0 := by have := HN.out; omega
          go_simp
        · obtain ⟨_, q42, rfl⟩ := hG.new 42 (by kernel_rfl) (by kernel_rfl)
          obtain ⟨_, q52, rfl⟩ := hG.new 52 (by kernel_rfl) (by kernel_rfl)
          refine step_slot rfl rfl rfl (step_value (v := .pointer (some (ad.add (m * 2)))) (w' := wx) rfl rfl ?_ (Below.refl _ _) (fun d hd => by cases hd; exact rfl))
          have hn := HN.out
          go_simp
        · obtain ⟨_, q53, rfl⟩ := hG.new 53 (by kernel_rfl) (by kernel_rfl)
          refine step_slot rfl rfl rfl (step_value (v := .pointer (some (ad.add (m * 2)))) (w' := wx) rfl rfl ?_ (Below.refl _ _) (fun d hd => by cases hd; exact rfl))
          go_simp
        · obtain ⟨_, q54, rfl⟩ := hG.new 54 (by kernel_rfl) (by kernel_rfl)
          have z0 := HPC2.out wx hS
          refine step_slot rfl rfl rfl (step_value (v := .string xe) (w' := wx) rfl rfl ?_ (Below.refl _ _) (fun d hd => by cases hd; exact rfl))
          go_simp
        · obtain ⟨_, q55, rfl⟩ := hG.new 55 (by kernel_rfl) (by kernel_rfl)
          refine step_slot rfl rfl rfl (step_value (v := .agg #[.int .i64 2, .string xe, .string noB, .int .u64 0]) (w' := wx) rfl rfl ?_ (Below.refl _ _) (fun d hd => by cases hd; exact rfl))
          go_simp
        · obtain ⟨_, q56, rfl⟩ := hG.new 56 (by kernel_rfl) (by kernel_rfl)
          refine step_slot rfl rfl rfl (step_value (v := .slice (some ⟨wx.heap.size, 0, none⟩) 1 1) (w' := wx.alloc (.cells #[.int .i64 2, .string xe, .string noB, .int .u64 0] 52)) rfl rfl ?_ ((Below.refl _ _).alloc (Nat.le_refl _) _) (fun d hd => by cases hd; exact fun _ => ⟨_, rfl, hS.size, Box.fresh _ _ _⟩))
          go_simp
        · obtain ⟨_, q41, rfl⟩ := hG.new 41 (by kernel_rfl) (by kernel_rfl)
          obtain ⟨v57, q57, h57⟩ := hG.new 57 (by kernel_rfl) (by kernel_rfl)
          have p57 : OneN wz.heap.size (⟨2, xe, noB, 0⟩ : Nt) wx v57 := (show 0 = 0 → _ from h57) rfl
          refine step_slot rfl rfl rfl (step_call (w1 := wx) (f := 11) (args := #[.agg #[.string lo7, .slice ka7 kn7 kc7, .slice na7 nn7 nc7, .slice pa7 pn7 pc7], v57]) rfl rfl ?_ ((HAP.out wx v57 hS p57).mono ?_))
          · clear h57 p57
            go_simp
          · rintro e w' ⟨r, rfl, hv, hq⟩
            exact ⟨_, rfl, hq, fun d hd => by cases hd; exact ⟨r, rfl, fun _ => hv⟩⟩
        · obtain ⟨v58, q58, h58⟩ := hG.new 58 (by kernel_rfl) (by kernel_rfl)
          have h58b : ∃ r : Nr, v58 = .tuple #[r.v, .int .i64 0] ∧ (0 = 0 → TreeS wx (Off g9 wx) r.v Q (60 + (i + 1)) (200 * (i + 1 + 1))) := h58
          obtain ⟨r, rfl, h0⟩ := h58b
          refine step_slot rfl rfl rfl (step_value (v := .tuple #[r.v, .int .i64 0]) (w' := wx) rfl rfl ?_ (Below.refl _ _) (fun d hd => by cases hd; exact ⟨r, rfl, h0⟩))
          clear h0 h58
          go_simp
        · obtain ⟨v40, q40, h40⟩ := hG.new 40 (by kernel_rfl) (by kernel_rfl)
          have h40b : ∃ r : Nr, v40 = .tuple #[r.v, .int .i64 0] ∧ (0 = 0 → TreeS wx (Off g9 wx) r.v Q (60 + (i + 1)) (200 * (i + 1 + 1))) := h40
          obtain ⟨r, rfl, h0⟩ := h40b
          refine step_slot rfl rfl rfl (step_value (v := r.v) (w' := wx) rfl rfl ?_ (Below.refl _ _) (fun d hd => by cases hd; exact fun e => ⟨r, rfl, h0 e⟩))
          clear h0 h40
          go_simp
        · obtain ⟨v40, q40, h40⟩ := hG.new 40 (by kernel_rfl) (by kernel_rfl)
          have h40b : ∃ r : Nr, v40 = .tuple #[r.v, .int .i64 0] ∧ (0 = 0 → TreeS wx (Off g9 wx) r.v Q (60 + (i + 1)) (200 * (i + 1 + 1))) := h40
          obtain ⟨r, rfl, h0⟩ := h40b
          refine step_slot rfl rfl rfl (step_value (v := .int .i64 0) (w' := wx) rfl rfl ?_ (Below.refl _ _) (fun d hd => by cases hd; exact rfl))
          clear h0 h40
          go_simp
        · refine step_slot rfl rfl rfl (step_value (v := .pointer (some ⟨wx.heap.size, 0, none⟩)) (w' := wx.alloc (.cells #[.string noB, .slice none 0 0, .slice none 0 0, .slice none 0 0] 32)) rfl rfl ?_ ((Below.refl _ _).alloc (Nat.le_refl _) _) (fun d hd => by cases hd; exact ⟨_, rfl, hS.size, fun _ => Box.fresh _ _ _, fun h => absurd h (by decide)⟩))
          go_simp
        · obtain ⟨v11, q11, h11⟩ := hG.new 11 (by kernel_rfl) (by kernel_rfl)
          obtain ⟨v59, q59, h59⟩ := hG.new 59 (by kernel_rfl) (by kernel_rfl)
          obtain ⟨r, rfl, h0⟩ := (show 0 = 0 → ∃ r : Nr, v59 = r.v ∧ TreeS wx (Off g9 wx) r.v Q (60 + (i + 1)) (200 * (i + 1 + 1)) from h59) rfl
          have h11b : ∃ g, v11 = .pointer (some ⟨g, 0, none⟩) ∧ wz.heap.size ≤ g ∧ (0 = 0 → ZB wx g) ∧ (0 = 1 → ∃ r : Nr, TBox wx g r ∧ TreeS wx (Off g9 wx) r.v Q (60 + (i + 1)) (200 * (i + 1 + 1))) := h11
          obtain ⟨g, rfl, hgz, hzb, _⟩ := h11b
          have HZ := Lib.hid (hzb rfl)
          obtain ⟨lo4, ⟨ka4, kn4, kc4⟩, ⟨na4, nn4, nc4⟩, ⟨pa4, pn4, pc4⟩⟩ := r
          have H0 := Lib.hid (h0.zoff HZ.out)
          have HGZ := Lib.hid hgz
          have HSS := Lib.hid hS
          have f0 := Box.free HZ.out 0
          have f1 := Box.free HZ.out 1
          have f2 := Box.free HZ.out 2
          have f3 := Box.free HZ.out 3
          obtain ⟨k0, k1, k2, k3⟩ := TBox.cells HZ.out
          simp only at k0 k1 k2 k3
          unfold Nr.v at q59
          simp only at q59
          refine step_store (w' := ((((wx.setCell ⟨g, 0, none⟩ (.string lo4)).setCell ⟨g, 1, none⟩ (.slice ka4 kn4 kc4)).setCell ⟨g, 2, none⟩ (.slice na4 nn4 nc4)).setCell ⟨g, 3, none⟩ (.slice pa4 pn4 pc4))) rfl rfl rfl rfl ?_ (below_put HSS.out HGZ.out _ _ _ _) trivial ?_
          · clear h0 h59 h11 hS hzb hgz
            unfold nilS at k1 k2 k3
            go_simp
          · intro t u _ hu hV
            unfold EmptV at hV ⊢
            split at hV
            · exact hV
            · exact hV
            · exact hV
            · exact hV
            · exact hV
            · exact hV
            · exact hV
            · exact hV
            · exact hV
            · exact hV
            · exact hV
            · exact hV
            · exact hV
            · exact hV
            · exact hV
            · exact hV
            · exact fun h => absurd h (by decide)
            · obtain ⟨r, e, _⟩ := hV
              exact ⟨r, e, fun h => absurd h (by decide)⟩
            · obtain ⟨r, e, _⟩ := hV
              exact ⟨r, e, fun h => absurd h (by decide)⟩
            · exact fun h => absurd h (by decide)
            · exact hV
            · rw [q11] at hu
              injection hu with hu
              subst hu
              exact ⟨g, rfl, HGZ.out, fun h => absurd h (by decide), fun _ => ⟨⟨lo4, ⟨ka4, kn4, kc4⟩, ⟨na4, nn4, nc4⟩, ⟨pa4, pn4, pc4⟩⟩, NdB.put (r := ⟨noB, nilS, nilS, nilS⟩) HZ.out ⟨lo4, ⟨ka4, kn4, kc4⟩, ⟨na4, nn4, nc4⟩, ⟨pa4, pn4, pc4⟩⟩, H0.out.put2 _ _ _ _⟩⟩
            · exact hV
            · trivial
        · obtain ⟨_, q60, rfl⟩ := hG.new 60 (by kernel_rfl) (by kernel_rfl)
          refine step_slot rfl rfl rfl (step_value (v := .int .i64 0) (w' := wx) rfl rfl ?_ (Below.refl _ _) (fun d hd => by cases hd; exact rfl))
          go_simp
      · skip
        refine Steps1.cons (fun hin _ _ _ _ _ => out (by kernel_rfl) hin) (Steps1.cons (fun hin _ _ _ _ _ => out (by kernel_rfl) hin) (Steps1.cons (fun hin _ _ _ _ _ => out (by kernel_rfl) hin) (Steps1.cons (fun hin _ _ _ _ _ => out (by kernel_rfl) hin) (Steps1.cons (fun hin _ _ _ _ _ => out (by kernel_rfl) hin) (Steps1.cons (fun hin _ _ _ _ _ => out (by kernel_rfl) hin) (Steps1.cons (fun hin _ _ _ _ _ => out (by kernel_rfl) hin) (Steps1.cons (fun hin _ _ _ _ _ => out (by kernel_rfl) hin) (Steps1.cons (fun hin _ _ _ _ _ => out (by kernel_rfl) hin) (Steps1.cons (fun hin _ _ _ _ _ => out (by kernel_rfl) hin) (Steps1.cons (fun hin _ _ _ _ _ => out (by kernel_rfl) hin) (Steps1.cons (fun hin _ _ _ _ _ => out (by kernel_rfl) hin) (Steps1.cons (fun hin _ _ _ _ _ => out (by kernel_rfl) hin) (Steps1.cons (fun hin _ _ _ _ _ => out (by kernel_rfl) hin) (Steps1.cons (fun hin _ _ _ _ _ => out (by kernel_rfl) hin) (Steps1.cons (fun hin _ _ _ _ _ => out (by kernel_rfl) hin) (Steps1.cons (fun hin _ _ _ _ _ => out (by kernel_rfl) hin) (Steps1.cons (fun hin _ _ _ _ _ => out (by kernel_rfl) hin) (Steps1.cons (fun hin _ _ _ _ _ => out (by kernel_rfl) hin) (Steps1.cons (fun hin _ _ _ _ _ => out (by kernel_rfl) hin) (Steps1.cons (fun _ ax wx hS hJ hG => ?_) (Steps1.cons (fun hin _ _ _ _ _ => out (by kernel_rfl) hin) (Steps1.cons (fun hin _ _ _ _ _ => out (by kernel_rfl) hin) (Steps1.cons (fun _ ax wx hS hJ hG => ?_) Steps1.nil)))))))))))))))))))))))
        · obtain ⟨v40, q40, h40⟩ := hG.new 40 (by kernel_rfl) (by kernel_rfl)
          have h40b : ∃ r : Nr, v40 = .tuple #[r.v, .int .i64 0] ∧ (1 = 0 → TreeS wx (Off g9 wx) r.v Q (60 + (i + 1)) (200 * (i + 1 + 1))) := h40
          obtain ⟨r, rfl, h0⟩ := h40b
          refine step_slot rfl rfl rfl (step_value (v := .int .i64 0) (w' := wx) rfl rfl ?_ (Below.refl _ _) (fun d hd => by cases hd; exact rfl))
          clear h0 h40
          go_simp
        · obtain ⟨_, q60, rfl⟩ := hG.new 60 (by kernel_rfl) (by kernel_rfl)
          refine step_slot rfl rfl rfl (step_value (v := .int .i64 0) (w' := wx) rfl rfl ?_ (Below.refl _ _) (fun d hd => by cases hd; exact rfl))
          go_simp
      intro gg wa hSa _ hVa
      have e11 : ∃ g, gg 11 = .pointer (some ⟨g, 0, none⟩) ∧ wz.heap.size ≤ g ∧ (1 = 0 → ZB wa g) ∧ (1 = 1 → ∃ r : Nr, TBox wa g r ∧ TreeS wa (Off g9 wa) r.v Q (60 + (i + 1)) (200 * (i + 1 + 1))) := hVa 11 (by decide)
      have e12 : gg 12 = .int .i64 0 := hVa 12 (by decide)
      simp only [puts, Act.put, List.setIfInBounds_toArray, List.set_cons_succ, List.set_cons_zero]
      clear hVa
      obtain ⟨g11, e11, hg11, _, hr⟩ := e11
      obtain ⟨⟨lo8, ⟨ka8, kn8, kc8⟩, ⟨na8, nn8, nc8⟩, ⟨pa8, pn8, pc8⟩⟩, hbx, hts⟩ := hr rfl
      rw [e11, e12]
      generalize gg 41 = f41 at *
      generalize gg 42 = f42 at *
      generalize gg 43 = f43 at *
      generalize gg 44 = f44 at *
      generalize gg 45 = f45 at *
      generalize gg 46 = f46 at *
      generalize gg 47 = f47 at *
      generalize gg 48 = f48 at *
      generalize gg 49 = f49 at *
      generalize gg 50 = f50 at *
      generalize gg 51 = f51 at *
      generalize gg 52 = f52 at *
      generalize gg 53 = f53 at *
      generalize gg 54 = f54 at *
      generalize gg 55 = f55 at *
      generalize gg 56 = f56 at *
      generalize gg 57 = f57 at *
      generalize gg 58 = f58 at *
      generalize gg 40 = f40 at *
      generalize gg 59 = f59 at *
      generalize gg 60 = f60 at *
      have TX9 := Lib.hid (show TBox wa g11 ⟨lo8, ⟨ka8, kn8, kc8⟩, ⟨na8, nn8, nc8⟩, ⟨pa8, pn8, pc8⟩⟩ from hbx)
      have TS9 := Lib.hid hts
      have TB9 := Lib.hid (show TBox wa g9 ⟨lo7, ⟨ka7, kn7, kc7⟩, ⟨na7, nn7, nc7⟩, ⟨pa7, pn7, pc7⟩⟩ from HBX.out.on hSa)
      have HB9 := Lib.hid (hbr.trans (hSa.mono hbr.size))
      clear hbx hts hSa hbr hr hg11 HC9 HPC2 HAP HPC HREM e11 e12 HBX HTS
      obtain ⟨b0, b1, b2, b3⟩ := TBox.cells TX9.out
      obtain ⟨k0, k1, k2, k3⟩ := TBox.cells TB9.out
      simp only at b0 b1 b2 b3 k0 k1 k2 k3
      have f0 := Box.free TB9.out 0
      have f1 := Box.free TB9.out 1
      have f2 := Box.free TB9.out 2
      have f3 := Box.free TB9.out 3
      obtain ⟨wx, hx⟩ : ∃ wx, wx = ((((wa.setCell ⟨g9, 0, none⟩ (.string lo8)).setCell ⟨g9, 1, none⟩ (.slice ka8 kn8 kc8)).setCell ⟨g9, 2, none⟩ (.slice na8 nn8 nc8)).setCell ⟨g9, 3, none⟩ (.slice pa8 pn8 pc8)) := ⟨_, rfl⟩
      have HQX := Lib.hid (show TBox wx g9 ⟨lo8, ⟨ka8, kn8, kc8⟩, ⟨na8, nn8, nc8⟩, ⟨pa8, pn8, pc8⟩⟩ from by rw [hx]; exact NdB.put (r := ⟨lo7, ⟨ka7, kn7, kc7⟩, ⟨na7, nn7, nc7⟩, ⟨pa7, pn7, pc7⟩⟩) TB9.out ⟨lo8, ⟨ka8, kn8, kc8⟩, ⟨na8, nn8, nc8⟩, ⟨pa8, pn8, pc8⟩⟩)
      have HQT := Lib.hid (show TreeS wx (Off g9 wx) (Nr.v ⟨lo8, ⟨ka8, kn8, kc8⟩, ⟨na8, nn8, nc8⟩, ⟨pa8, pn8, pc8⟩⟩) (foldOne P ((turnN (P.map delN) d).take (i + 1))) (60 + (i + 1)) (200 * (i + 1 + 1)) from by rw [hx, ← HQ2.out]; exact TS9.out.put _ _ _ _)
      have HQB := Lib.hid (show Below w6.heap.size w6 wx from by rw [hx]; exact below_put HB9.out HG9.out _ _ _ _)
      have hlt9 := HN.out.2.1
      clear TS9 HB9 TX9
      go_wp2
      go_roundw
      case rel => rw [← hx]; exact ⟨i + 1, _, by first | rfl | go_num, by omega, HQX, HQT, HQB.out⟩
      case measure => simp [intOf]; omega
    · skip
      have hdl : decide ((i : Int) < (np : Int)) = false := by simp; omega
      have HUr := Lib.hid (show TreeV wr (.agg #[.string lo7, .slice ka7 kn7 kc7, .slice na7 nn7 nc7, .slice pa7 pn7 pc7]) [] (60 + i) (200 * (i + 1)) from by
        have h := HTS.out.v
        rw [List.take_of_length_le (by rw [turnN_len, List.length_map, HNP.out]; omega), fold_del (well_sorted HPL.out.2)] at h
        exact h)
      have HBr := Lib.hid (HB6.out.trans (hbr.mono HB6.out.size))
      have HAr := Lib.hid (HA6.out.on hbr)
      have HTr := Lib.hid (HT6.out.on hbr)
      have HSr := Lib.hid (HS6.out.on hbr)
      have BXr := Lib.hid (show TBox wr g1 ⟨lo1, ⟨ka1, kn1, kc1⟩, ⟨na1, nn1, nc1⟩, ⟨pa1, pn1, pc1⟩⟩ from BX6.out.on hbr)
      have BYr := HBX
      have HI := Lib.hid (show i ≤ 60 by omega)
      clear hbr HBX HTS
      have hc := tapply_any _ _ [] l _ _ wr HUr.out HAr.out (by rw [← HLA.out]; have := HL60.out; omega)
      rw [(right_app HALL.out []).1, (right_app HALL.out []).2, ← HP.out] at hc
      obtain ⟨b0, b1, b2, b3⟩ := TBox.cells BYr.out
      simp only at b0 b1 b2 b3
      go_wp2_with fail
      refine (hc).mono ?_
      clear b0 b1 b2 b3 hc
      rintro e w20 ⟨v20, rfl, ht, hb⟩
      have HW20 := Lib.hid ht
      clear ht
      have HB20 := Lib.hid (HBr.out.trans (hb.mono HBr.out.size))
      have HA20 := Lib.hid (HAr.out.on hb)
      have HT20 := Lib.hid (HTr.out.on hb)
      have BX20 := Lib.hid (show TBox w20 g1 ⟨lo1, ⟨ka1, kn1, kc1⟩, ⟨na1, nn1, nc1⟩, ⟨pa1, pn1, pc1⟩⟩ from BXr.out.on hb)
      have HS20 := Lib.hid (HSr.out.on hb)
      have BY20 := Lib.hid (show TBox w20 g9 ⟨lo7, ⟨ka7, kn7, kc7⟩, ⟨na7, nn7, nc7⟩, ⟨pa7, pn7, pc7⟩⟩ from BYr.out.on hb)
      have HU20 := Lib.hid (HUr.out.on hb)
      clear hb HBr HAr HTr BXr HSr BYr HUr 
      obtain ⟨lo13, ka13, kn13, kc13, na13, nn13, nc13, pa13, pn13, pc13, rfl⟩ := tree_shape HW20.out
      obtain ⟨w21, hw2⟩ : ∃ wz, wz = w20.alloc (.cells #[.string lo13, .slice ka13 kn13 kc13, .slice na13 nn13 nc13, .slice pa13 pn13 pc13] 32) := ⟨_, rfl⟩
      obtain ⟨g13, hg2⟩ : ∃ gz, gz = w20.heap.size := ⟨_, rfl⟩
      have hb2 : Below w20.heap.size w20 w21 := by rw [hw2]; exact (Below.refl _ _).alloc (Nat.le_refl _) _
      have BW21 := Lib.hid (show TBox w21 g13 ⟨lo13, ⟨ka13, kn13, kc13⟩, ⟨na13, nn13, nc13⟩, ⟨pa13, pn13, pc13⟩⟩ from by rw [hw2]; exact Box.at_ w20 _ _ hg2)
      have HB21 := Lib.hid (HB20.out.trans (hb2.mono HB20.out.size))
      have HA21 := Lib.hid (HA20.out.on hb2)
      have HT21 := Lib.hid (HT20.out.on hb2)
      have BX21 := Lib.hid (show TBox w21 g1 ⟨lo1, ⟨ka1, kn1, kc1⟩, ⟨na1, nn1, nc1⟩, ⟨pa1, pn1, pc1⟩⟩ from BX20.out.on hb2)
      have HS21 := Lib.hid (HS20.out.on hb2)
      have BY21 := Lib.hid (show TBox w21 g9 ⟨lo7, ⟨ka7, kn7, kc7⟩, ⟨na7, nn7, nc7⟩, ⟨pa7, pn7, pc7⟩⟩ from BY20.out.on hb2)
      have HU21 := Lib.hid (HU20.out.on hb2)
      have HW21 := Lib.hid (HW20.out.on hb2)
      clear hb2 HB20 HA20 HT20 BX20 HS20 BY20 HU20 HW20 
      go_upto_region 16 with fail
      rw [← hg2, ← hw2]
      clear hg2 hw2
      have hc := is_any _ _ ([] : List Pr) ([] : List Pr) _ _ w21 HU21.out (show PV w21 (.slice none 0 0) ([] : List Pr) from ⟨none, 0, rfl, Lies.nil, Nat.le_refl _, fun _ => rfl⟩) (by have := HI.out; omega) (by have := HI.out; omega) (by simp)
      rw [decide_eq_true (rfl : ([] : List Pr) = ([] : List Pr))] at hc
      obtain ⟨b0, b1, b2, b3⟩ := TBox.cells BY21.out
      simp only at b0 b1 b2 b3
      go_wp2_with fail
      refine (hc).mono ?_
      clear b0 b1 b2 b3 hc
      rintro e w22 ⟨rfl, hb⟩
      have HB22 := Lib.hid (HB21.out.trans (hb.mono HB21.out.size))
      have HA22 := Lib.hid (HA21.out.on hb)
      have HT22 := Lib.hid (HT21.out.on hb)
      have BX22 := Lib.hid (show TBox w22 g1 ⟨lo1, ⟨ka1, kn1, kc1⟩, ⟨na1, nn1, nc1⟩, ⟨pa1, pn1, pc1⟩⟩ from BX21.out.on hb)
      have HS22 := Lib.hid (HS21.out.on hb)
      have BY22 := Lib.hid (show TBox w22 g9 ⟨lo7, ⟨ka7, kn7, kc7⟩, ⟨na7, nn7, nc7⟩, ⟨pa7, pn7, pc7⟩⟩ from BY21.out.on hb)
      have HU22 := Lib.hid (HU21.out.on hb)
      have HW22 := Lib.hid (HW21.out.on hb)
      have BW22 := Lib.hid (show TBox w22 g13 ⟨lo13, ⟨ka13, kn13, kc13⟩, ⟨na13, nn13, nc13⟩, ⟨pa13, pn13, pc13⟩⟩ from BW21.out.on hb)
      clear hb HB21 HA21 HT21 BX21 HS21 BY21 HU21 HW21 BW21 
      have hc := is_any _ _ P P _ _ w22 HW22.out HS22.out (by rw [← HLA.out]; have := HL60.out; have := HI.out; omega) (by rw [← HLA.out]; have := HL60.out; have := HI.out; omega) (by have := HPL.out; omega)
      rw [decide_eq_true (rfl : P = P)] at hc
      obtain ⟨b0, b1, b2, b3⟩ := TBox.cells BW22.out
      simp only at b0 b1 b2 b3
      go_wp2_with fail
      refine (hc).mono ?_
      clear b0 b1 b2 b3 hc
      rintro e w23 ⟨rfl, hb⟩
      have HB23 := Lib.hid (HB22.out.trans (hb.mono HB22.out.size))
      have HA23 := Lib.hid (HA22.out.on hb)
      have HT23 := Lib.hid (HT22.out.on hb)
      have BX23 := Lib.hid (show TBox w23 g1 ⟨lo1, ⟨ka1, kn1, kc1⟩, ⟨na1, nn1, nc1⟩, ⟨pa1, pn1, pc1⟩⟩ from BX22.out.on hb)
      have HS23 := Lib.hid (HS22.out.on hb)
      have BY23 := Lib.hid (show TBox w23 g9 ⟨lo7, ⟨ka7, kn7, kc7⟩, ⟨na7, nn7, nc7⟩, ⟨pa7, pn7, pc7⟩⟩ from BY22.out.on hb)
      have HU23 := Lib.hid (HU22.out.on hb)
      have HW23 := Lib.hid (HW22.out.on hb)
      have BW23 := Lib.hid (show TBox w23 g13 ⟨lo13, ⟨ka13, kn13, kc13⟩, ⟨na13, nn13, nc13⟩, ⟨pa13, pn13, pc13⟩⟩ from BW22.out.on hb)
      clear hb HB22 HA22 HT22 BX22 HS22 BY22 HU22 HW22 BW22 
      have hc := is_any _ _ P P _ _ w23 HT23.out HS23.out (by rw [← HLA.out]; have := HL60.out; omega) (by rw [← HLA.out]; have := HL60.out; omega) (by have := HPL.out; omega)
      rw [decide_eq_true (rfl : P = P)] at hc
      obtain ⟨b0, b1, b2, b3⟩ := TBox.cells BX23.out
      simp only at b0 b1 b2 b3
      go_wp2_with fail
      refine (hc).mono ?_
      clear b0 b1 b2 b3 hc
      rintro e w24 ⟨rfl, hb⟩
      have HB24 := Lib.hid (HB23.out.trans (hb.mono HB23.out.size))
      have HA24 := Lib.hid (HA23.out.on hb)
      have HT24 := Lib.hid (HT23.out.on hb)
      have BX24 := Lib.hid (show TBox w24 g1 ⟨lo1, ⟨ka1, kn1, kc1⟩, ⟨na1, nn1, nc1⟩, ⟨pa1, pn1, pc1⟩⟩ from BX23.out.on hb)
      have HS24 := Lib.hid (HS23.out.on hb)
      have BY24 := Lib.hid (show TBox w24 g9 ⟨lo7, ⟨ka7, kn7, kc7⟩, ⟨na7, nn7, nc7⟩, ⟨pa7, pn7, pc7⟩⟩ from BY23.out.on hb)
      have HU24 := Lib.hid (HU23.out.on hb)
      have HW24 := Lib.hid (HW23.out.on hb)
      have BW24 := Lib.hid (show TBox w24 g13 ⟨lo13, ⟨ka13, kn13, kc13⟩, ⟨na13, nn13, nc13⟩, ⟨pa13, pn13, pc13⟩⟩ from BW23.out.on hb)
      clear hb HB23 HA23 HT23 BX23 HS23 BY23 HU23 HW23 BW23 
      go_wp2_with fail
      refine (awake_true _).mono ?_
      rintro e w9 ⟨rfl, hb9⟩
      have HB9 := Lib.hid (HB24.out.trans (hb9.mono HB24.out.size))
      clear hb9
      go_wp2
      go_ret
      exact ⟨rfl, HB9.out⟩

end Go.Proofs.Yteddjmkoleclpaa
