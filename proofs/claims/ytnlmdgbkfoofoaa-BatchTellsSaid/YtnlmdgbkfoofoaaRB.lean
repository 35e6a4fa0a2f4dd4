/- The walks of the document's Run, All and Numbers. -/
import Derived.Test.YtnlmdgbkfoofoaaAL
import Derived.Test.YtnlmdgbkfoofoaaROf
import Derived.Test.YtnlmdgbkfoofoaaROne
import Derived.Lib.AppendZeros
set_option linter.unusedVariables false
set_option linter.unusedSimpArgs false
namespace Go.Proofs.Ytnlmdgbkfoofoaa
open Go.RowKit Go.Maps

theorem run_shift (p : List Pr) (C D : List Ch) (s : Int) (ns : List Nt) : runR ⟨p, C ++ D, s⟩ ns = ⟨(runR ⟨p, D, s⟩ ns).p, C ++ (runR ⟨p, D, s⟩ ns).C, (runR ⟨p, D, s⟩ ns).s⟩ := by
  induction ns generalizing p D s with
  | nil => rfl
  | cons n ns ih =>
    show runR (stepR ⟨p, C ++ D, s⟩ n) ns = ⟨(runR (stepR ⟨p, D, s⟩ n) ns).p, C ++ (runR (stepR ⟨p, D, s⟩ n) ns).C, (runR (stepR ⟨p, D, s⟩ n) ns).s⟩
    unfold stepR
    simp only
    by_cases e : ofE p (s + 1) n = 0
    · rw [if_pos e, if_pos e, List.append_assoc]; exact ih _ _ _
    · rw [if_neg e, if_neg e]; exact ih _ _ _
theorem run_from (p : List Pr) (C : List Ch) (s : Int) (ns : List Nt) : runR ⟨p, C, s⟩ ns = ⟨(runR (rs0 p s) ns).p, C ++ (runR (rs0 p s) ns).C, (runR (rs0 p s) ns).s⟩ := by
  have := run_shift p C [] s ns
  rwa [List.append_nil] at this
/-- One batch's answers. -/
def oneC (l : List Pr) (s : Int) (ns : List Nt) : List Ch := if runE l s ns = 0 then (runR (rs0 l s) ns).C else []
def oneP (l : List Pr) (s : Int) (ns : List Nt) : List Pr := if runE l s ns = 0 then (runR (rs0 l s) ns).p else l
theorem out_one (l : List Pr) (s : Int) (ns : List Nt) : outE l s [ns] = runE l s ns ∧ outC l s [ns] = oneC l s ns ∧ outP l s [ns] = oneP l s ns := by
  have h : outE l s [ns] = runE l s ns := by
    show (if runE l s ns = 0 then (0 : Int) else runE l s ns) = _
    split <;> simp_all
  refine ⟨h, ?_, ?_⟩
  · unfold outC oneC; rw [h]; rfl
  · unfold outP oneP; rw [h]; rfl
theorem lenB (l : List Pr) (s : Int) (ns : List Nt) : (oneC l s ns).length ≤ 8 ∧ (oneP l s ns).length ≤ l.length + 8 := by
  have := out_len l s [ns]
  rw [(out_one l s ns).2.1, (out_one l s ns).2.2] at this
  exact ⟨this.1, this.2.1⟩

set_option maxHeartbeats 4000000 in
set_option maxRecDepth 100000 in
theorem drun_x {B0 : Nat} {lv u : Value} {l : List Pr} (s : Int) {ns : List Nt} {w : World} (hlx : PX B0 w lv l) (hu : NV w u ns) (hn : l.length ≤ 900) (hm : ns.length ≤ maxLen) :
    Calls Try.prog 13 #[lv, .int .i64 s, u] w fun e w' => ∃ cv pv, e = .returned (.tuple #[cv, pv, .int .i64 (runE l s ns)]) ∧ CV w' cv (oneC l s ns) ∧ PX B0 w' pv (oneP l s ns) ∧ Below w.heap.size w w' := by
  have hl := hlx.pv
  have HLX := Lib.hid hlx
  have HB0 := Lib.hid hlx.le
  clear hlx
  obtain ⟨q, hq⟩ : ∃ q, (!(wellL l && batchB ns && decide (0 ≤ s) && decide (s ≤ 2147483647))) = q := ⟨_, rfl⟩
  have HBAD := Lib.hid (show q = true → runE l s ns = 1 from fun h => by
    rw [← hq, Bool.not_eq_true'] at h
    unfold runE
    rw [h]; rfl)
  have HGOOD := Lib.hid (show q = false → RInv l s (rs0 l s) ∧ ns.all rightN = true ∧ ns.length ≤ 8 ∧ runE l s ns = if 2147483647 < s + ns.length then 5 else 0 from fun h => by
    rw [← hq, Bool.not_eq_false'] at h
    have h' := h
    simp only [Bool.and_eq_true, decide_eq_true_eq] at h'
    obtain ⟨⟨⟨h1, h2⟩, h3⟩, h4⟩ := h'
    refine ⟨RInv.start h1 h3 h4, (batchB_iff.1 h2).2, (batchB_iff.1 h2).1, ?_⟩
    unfold runE
    rw [h]; rfl)
  have hrw : Calls Try.prog 27 #[lv] w fun e w' => e = .returned (.bool (wellL l)) ∧ Below w.heap.size w w' := by
    obtain ⟨A0, c0, rfl, hp0, _⟩ := hl
    exact dright_pr A0 c0 l w hp0 (by unfold maxLen; omega)
  have hra := fun (w' : World) (hb : Below w.heap.size w w') => (show Calls Try.prog 15 #[u] w' fun e w'' => e = .returned (.bool (ns.all rightN)) ∧ Below w'.heap.size w' w'' from by
    obtain ⟨A0, c0, rfl, hp0, _⟩ := hu.on hb
    exact dall_any A0 c0 ns w' hp0 hm)
  obtain ⟨W, hW⟩ : ∃ W, wellL l = W := ⟨_, rfl⟩
  obtain ⟨R, hR⟩ : ∃ R, ns.all rightN = R := ⟨_, rfl⟩
  rw [hW] at hrw
  rw [hR] at hra
  have HQ := Lib.hid (show q = !(W && (decide (ns.length ≤ 8) && R) && decide (0 ≤ s) && decide (s ≤ 2147483647)) from by rw [← hq, ← hW, ← hR]; rfl)
  have HRW := Lib.hid hrw
  have HRA := Lib.hid hra
  have HLV := Lib.hid hl
  have HU := Lib.hid hu
  have HN := Lib.hid hn
  obtain ⟨A, c, rfl, hA, hcap, hz⟩ := hu
  have HA := Lib.hid hA
  obtain ⟨n, hnl⟩ : ∃ n, ns.length = n := ⟨_, rfl⟩
  rw [hnl] at HQ HGOOD hm hcap HRA ⊢
  have HL := Lib.hid hnl
  have HZ := Lib.hid hz
  clear hl hn hrw hra hq hW hR hA hnl hz
  go_enter Try.func13, Try.ntmps13
  go_wp2_with fail
  refine HRW.out.mono ?_
  rintro e w1 ⟨rfl, hb1⟩
  have HB1 := Lib.hid hb1
  clear hb1
  go_wp2_with fail
  refine (HRA.out w1 HB1.out).mono ?_
  rintro e w2 ⟨rfl, hb2⟩
  have HB2 := Lib.hid (HB1.out.trans (hb2.mono HB1.out.size))
  clear hb2
  go_upto_region 2 with fail
  go_cut [38] (fun v wx => v = .bool q ∧ wx = w2)
  case first =>
    cases W with
    | false =>
      have HE := Lib.hid (show q = true from by rw [HQ.out]; rfl)
      go_wp2
      go_meet
      case rel => exact ⟨by rw [HE.out], rfl⟩
    | true =>
      cases R with
      | false =>
        have HE := Lib.hid (show q = true from by rw [HQ.out]; simp)
        go_wp2
        go_meet
        case rel => exact ⟨by rw [HE.out], rfl⟩
      | true =>
        by_cases h8 : n ≤ 8
        case neg =>
          have hd : decide (8 < n) = true := by simp; omega
          have HE := Lib.hid (show q = true from by rw [HQ.out, decide_eq_false h8]; rfl)
          go_wp2
          go_meet
          case rel => exact ⟨by rw [HE.out], rfl⟩
        have hd : decide (8 < n) = false := by simp; omega
        have hdI : decide (8 < (n : Int)) = false := by simp; omega
        by_cases hs0 : s < 0
        · have hd1 : decide (s < 0) = true := decide_eq_true hs0
          have HE := Lib.hid (show q = true from by rw [HQ.out, decide_eq_false (show ¬ 0 ≤ s by omega)]; simp)
          go_wp2
          go_meet
          case rel => exact ⟨by rw [HE.out], rfl⟩
        · have hd1 : decide (s < 0) = false := decide_eq_false hs0
          have HE := Lib.hid (show q = decide (2147483647 < s) from by
            rw [HQ.out, decide_eq_true (show 0 ≤ s by omega), decide_eq_true h8]
            by_cases h5 : s ≤ 2147483647
            · rw [decide_eq_true h5, decide_eq_false (by omega)]; rfl
            · rw [decide_eq_false h5, decide_eq_true (by omega)]; rfl)
          go_wp2
          go_meet
          case rel => exact ⟨by rw [HE.out]; first | done | rfl | (rw [hdI]; rfl), rfl⟩
  case rest =>
    obtain ⟨rfl, rfl⟩ := hcut
    cases q with
    | true =>
      have HE := Lib.hid (HBAD.out (by first | rfl | trivial))
      go_wp2
      refine bodyPost_ret (v := .tuple #[.slice none 0 0, lv, .int .i64 1]) (by simp [results, Try.results13, go_sem]) rfl ?_
      unfold oneC oneP
      rw [HE.out, if_neg (by decide), if_neg (by decide)]
      exact ⟨_, _, rfl, CV.nil _, HLX.out.on HB2.out, HB2.out⟩
    | false =>
      obtain ⟨hst, hall, h8, hE⟩ := HGOOD.out (by first | rfl | trivial)
      have hs0 := hst.low
      have hs1 := hst.top
      simp only [rs0] at hs1
      by_cases hfull : 2147483647 < s + (n : Int)
      · have hd : decide (2147483647 < s + (n : Int)) = true := decide_eq_true hfull
        rw [if_pos hfull] at hE
        have HE := Lib.hid hE
        clear hE hst hall
        go_wp2
        refine bodyPost_ret (v := .tuple #[.slice none 0 0, lv, .int .i64 5]) (by simp [results, Try.results13, go_sem]) rfl ?_
        unfold oneC oneP
        rw [HE.out, if_neg (by decide), if_neg (by decide)]
        exact ⟨_, _, rfl, CV.nil _, HLX.out.on HB2.out, HB2.out⟩
      · have hd : decide (2147483647 < s + (n : Int)) = false := decide_eq_false hfull
        rw [if_neg hfull] at hE
        have HE := Lib.hid hE
        have HST := Lib.hid hst
        have HALL := Lib.hid hall
        have HTK := Lib.hid (fun k hk => run_take hst (ns := ns) hall (by show s + _ ≤ _; rw [HL.out]; omega) k hk)
        have HRI := Lib.hid (fun k => run_inv hst (ns := ns.take k) (by rw [List.all_eq_true]; exact fun x hx => (List.all_eq_true.1 hall) x (List.mem_of_mem_take hx)) (by have := HL.out; show s + _ ≤ _; rw [List.length_take]; omega))
        have HSF := Lib.hid hfull
        clear hE hst hall
        go_wp2
        go_loopw [1, 11, 12, 13] (fun sv cv pv i wr => ∃ (k : Nat) (s' : Int), i = .int .i64 k ∧ k ≤ n ∧ sv = .int .i64 s' ∧ 0 ≤ s' ∧ s' ≤ 2147483647 ∧ Hid ((runR (rs0 l s) (ns.take k)).s = s') ∧ Hid (wr.ownsRow w.heap.size 49 6 cv (runR (rs0 l s) (ns.take k)).C.length ((runR (rs0 l s) (ns.take k)).C.flatMap Ch.cells)) ∧ Hid (PX B0 wr pv (runR (rs0 l s) (ns.take k)).p) ∧ Below w.heap.size w wr) (fun _ _ _ i _ => (n - intOf i).toNat)
        case atStart => exact ⟨0, s, rfl, by omega, rfl, hs0, hs1, (show s = s from rfl), (show World.ownsRow _ _ _ _ _ _ _ from World.ownsRow_nil _ _ _ _), (show PX _ _ _ _ from HLX.out.on HB2.out), HB2.out⟩
        case round =>
          obtain ⟨k, s', rfl, hk, rfl, hp0, hp1, HS, HO, HP, hbr⟩ := hrel
          obtain ⟨CA, cc, rfl⟩ := own_shape HO.out
          obtain ⟨PA, pn, pc, rfl⟩ := HP.out.shape
          have hbs := hbr.size
          by_cases hlt : k < n
          · have hkl : k < ns.length := by rw [HL.out]; exact hlt
            obtain ⟨ad, rfl, hab, hca⟩ := (HA.out.below hbr).seeN (by rw [HL.out]; omega)
            obtain ⟨c1, c2, c3, c4⟩ := hca k hkl
            obtain ⟨g1, g2, g3, g4⟩ := HTK.out k hkl
            rw [HS.out] at g2
            obtain ⟨RK, hRK⟩ : ∃ q, runR (rs0 l s) (ns.take k) = q := ⟨_, rfl⟩
            have hCl : RK.C.length ≤ 8 := by
              have := (HRI.out k).2.2.2.2
              rw [hRK, List.length_take] at this
              simp [rs0] at this; omega
            have hPl : RK.p.length ≤ 910 := by
              have := doL_len (hRK ▸ g1).does
              have := HN.out
              omega
            rw [hRK] at HS HO HP g1 g4 ⊢
            have hpart : ∀ wx, Below wr.heap.size wr wx → NV wx (.slice (some (ad.add (k * 4))) 1 (c - k)) [ns[k]] := fun wx hx => by
              refine ⟨_, _, rfl, ?_, by simp; omega, fun h => by cases h⟩
              intro _
              refine ⟨_, rfl, by rw [block_of_add]; have := hx.size; omega, fun i hi j v hv => ?_⟩
              have hi0 : i = 0 := by simpa using hi
              subst hi0
              obtain ⟨ad2, e2, _, hcells⟩ := (HA.out.below hbr) (by omega)
              injection e2 with e2
              subst e2
              have h5 := hcells k hkl j v (by simpa using hv)
              simp only [Nat.zero_mul, Addr.add_zero']
              exact (hx.cell (p := (ad.add (k * 4)).add j) (by rw [block_of_add, block_of_add]; omega)).trans h5
            have htwo := of_two (p := RK.p) (s := s' + 1) g1.pwell g3 (by omega) g2
            have hstp := step_p g1 g3 (by rw [HS.out]; exact g2)
            rw [← g4] at hstp
            have hsi := (step_inv g1 (n := ns[k]'hkl) (by rw [HS.out]; exact g2)).1.top
            have hst2 : (ofE RK.p (s' + 1) ns[k] = 0 → stepR RK ns[k] = ⟨applyL RK.p [ns[k]], RK.C ++ [ofA RK.p (s' + 1) ns[k]], s' + 1⟩) ∧ (ofE RK.p (s' + 1) ns[k] = 3 → stepR RK ns[k] = RK) := by
              unfold stepR
              rw [HS.out]
              exact ⟨fun e => by rw [if_pos e], fun e => by rw [if_neg (by omega)]⟩
            rw [← g4] at hst2 hsi
            have hof := rof_any (s' + 1) ns[k] wr HP.out.pv (by omega)
            have hap := fun (wx : World) (hx : Below wr.heap.size wr wx) => dapply_x (HP.out.on hx) (hpart wx hx) (by simp; omega)
            obtain ⟨x, hx⟩ : ∃ x, x = ns[k]'hkl := ⟨_, rfl⟩
            rw [← hx] at c1 c2 c3 c4 htwo hstp hst2 hof hap
            rw [hstp.2, ← hstp.1] at hap
            have HAP := Lib.hid hap
            have HOF := Lib.hid hof
            have HST2 := Lib.hid hst2
            have HPT := Lib.hid hstp
            obtain ⟨EE, hEE⟩ : ∃ q, ofE RK.p (s' + 1) x = q := ⟨_, rfl⟩
            obtain ⟨AA, hAA⟩ : ∃ q, ofA RK.p (s' + 1) x = q := ⟨_, rfl⟩
            rw [hEE, hAA] at HOF
            rw [hEE] at htwo
            rw [hEE, hAA] at HST2
            obtain ⟨xk, xkey, xval, xn⟩ := x
            obtain ⟨qs, qk, qh, qb, qg, qa⟩ := AA
            simp only at c1 c2 c3 c4
            simp only [Nt.cells, Ch.v, chV] at HOF
            have hlt3 : (ad.add (k * 4)).block < w.heap.size := by rw [block_of_add]; exact hab
            have HCL := Lib.hid hCl
            have HSI := Lib.hid (show (runR (rs0 l s) (ns.take (k + 1))).s ≤ 2147483647 from hsi)
            clear hca g1 g3 g4 hRK hPl hpart hstp hst2 hof hap hx hEE hAA hsi hCl
            go_wp2_with fail
            refine HOF.out.mono ?_
            rintro e w3 ⟨rfl, hb3⟩
            have hbx : Box (w3.alloc (.cells #[.int .i64 qs, .string qk, .bool qh, .string qb, .bool qg, .string qa] 49)) w3.heap.size 49 #[.int .i64 qs, .string qk, .bool qh, .string qb, .bool qg, .string qa] := Box.fresh _ _ _
            obtain ⟨w4, hw4⟩ : ∃ q, q = w3.alloc (.cells #[.int .i64 qs, .string qk, .bool qh, .string qb, .bool qg, .string qa] 49) := ⟨_, rfl⟩
            rw [← hw4] at hbx
            have hb4 : Below wr.heap.size wr w4 := by rw [hw4]; exact hb3.alloc hb3.size _
            have HB4 := Lib.hid hb4
            have HW4 := Lib.hid hw4
            have HBX := Lib.hid hbx
            clear c1 c2 c3 c4 hb3 hb4 hw4 hbx
            go_wp2_with fail
            rw [← HW4.out]
            refine (HAP.out w4 HB4.out).mono ?_
            rintro e w5 ⟨pv', rfl, hp', hb5⟩
            have hbx5 := HBX.out.on hb5
            have hb45 := HB4.out.trans (hb5.mono HB4.out.size)
            have ho5 := own_on HO.out hb45
            have hb05 := hbr.trans (hb45.mono hbs)
            have HP5 := Lib.hid hp'
            have HBX5 := Lib.hid hbx5
            have HB05 := Lib.hid hb05
            have HO5 := Lib.hid ho5
            clear hp' hb5 hbx5 hb45 ho5 hb05 HW4 hbr HBX
            rcases htwo with hE | hE
            · subst hE
              have q0 := HBX5.out.cell 0 rfl
              have q1 := HBX5.out.cell 1 rfl
              have q2 := HBX5.out.cell 2 rfl
              have q3 := HBX5.out.cell 3 rfl
              have q4 := HBX5.out.cell 4 rfl
              have q5 := HBX5.out.cell 5 rfl
              have hst := HST2.out.1 rfl
              have ho5 := HO5.out
              have HSZ := Lib.hid HB05.out.size
              have HH := Lib.hid hst
              clear hst
              go_wp2_with (at_builtin; refine append_change _ rfl _ _ rfl w.heap.size _ RK.C.length (RK.C.flatMap Ch.cells) rfl (ho5.alloc _) (w5.heap.size + 1) w5.heap.size ⟨qs, qk, qh, qb, qg, qa⟩ rfl ?a1 ?a2 ?a3 ?_)
              case a1 => exact Lies.lit Ch.cells6 rfl
              case a2 => have := HCL.out; omega
              case a3 => have := HSZ.out; simp; omega
              intro v' w6 hown6 hg6 hat
              have hba : Below w5.heap.size w5 (w5.alloc (.cells #[.int .i64 qs, .string qk, .bool qh, .string qb, .bool qg, .string qa] 49)) := (Below.refl _ _).alloc (Nat.le_refl _) _
              have HP6 := Lib.hid ((HP5.out.on hba).grown (own_more (ho5.alloc _) HB0.out) hg6)
              have HB6 := Lib.hid (show Below w.heap.size w w6 from (HB05.out.trans (hba.mono HSZ.out)).grown hg6 (by have := HSZ.out; simp; omega) (fun k hk => (own_lt ho5 hk).1))
              have HO6 := Lib.hid (show w6.ownsRow w.heap.size 49 6 v' (runR (rs0 l s) (ns.take (k + 1))).C.length ((runR (rs0 l s) (ns.take (k + 1))).C.flatMap Ch.cells) from by
                rw [HH.out]
                show World.ownsRow _ _ _ _ _ (RK.C ++ _).length _
                rw [List.length_append, List.flatMap_append]
                exact hown6)
              have hsi := HSI.out
              rw [HH.out] at hsi
              simp only at hsi
              clear hown6 hg6 hat hba ho5 q0 q1 q2 q3 q4 q5
              go_wp2
              go_roundw
              case rel => exact ⟨k + 1, s' + 1, by go_num, by omega, rfl, by omega, hsi, (show _ = _ from by rw [HH.out]), HO6, HP6, HB6.out⟩
              case measure => simp [intOf]; omega
            · subst hE
              have hst := HST2.out.2 rfl
              have HO6 := Lib.hid (show w5.ownsRow w.heap.size 49 6 (.slice CA RK.C.length cc) (runR (rs0 l s) (ns.take (k + 1))).C.length ((runR (rs0 l s) (ns.take (k + 1))).C.flatMap Ch.cells) from by rw [hst]; exact HO5.out)
              have HS6 := Lib.hid (show (runR (rs0 l s) (ns.take (k + 1))).s = s' from by rw [hst]; exact HS.out)
              clear hst
              go_wp2
              go_roundw
              case rel => exact ⟨k + 1, s', by go_num, by omega, rfl, hp0, hp1, HS6, HO6, HP5, HB05.out⟩
              case measure => simp [intOf]; omega
          · have hkn : k = n := by omega
            have htk : ns.take k = ns := List.take_of_length_le (by rw [HL.out]; omega)
            rw [htk] at HS HO HP ⊢
            have HF := Lib.hid (show CV wr (.slice CA (runR (rs0 l s) ns).C.length cc) (oneC l s ns) ∧ PX B0 wr (.slice PA pn pc) (oneP l s ns) from by
              unfold oneC oneP
              rw [HE.out, if_pos rfl, if_pos rfl]
              exact ⟨CV.own HO.out rfl, HP.out⟩)
            have HBR := Lib.hid hbr
            clear HS HO HP htk hbr
            go_wp2
            refine bodyPost_ret (v := .tuple #[.slice CA (runR (rs0 l s) ns).C.length cc, .slice PA pn pc, .int .i64 0]) (by simp [results, Try.results13, go_sem]) rfl ?_
            rw [HE.out]
            exact ⟨_, _, rfl, HF.out.1, HF.out.2, HBR.out⟩

theorem drun_any {lv u : Value} {l : List Pr} (s : Int) {ns : List Nt} {w : World} (hl : PV w lv l) (hu : NV w u ns) (hn : l.length ≤ 900) (hm : ns.length ≤ maxLen) :
    Calls Try.prog 13 #[lv, .int .i64 s, u] w fun e w' => ∃ cv pv, e = .returned (.tuple #[cv, pv, .int .i64 (runE l s ns)]) ∧ CV w' cv (oneC l s ns) ∧ PV w' pv (oneP l s ns) ∧ Below w.heap.size w w' :=
  (drun_x s (PX.of hl) hu hn hm).mono fun e w' ⟨cv, pv, h1, h2, h3, h4⟩ => ⟨cv, pv, h1, h2, h3.pv, h4⟩

set_option maxHeartbeats 1000000 in
set_option maxRecDepth 100000 in
theorem numbers_any {v u : Value} {a b : List Int} {w : World} (h : IS w v a) (g : IS w u b) (hn : a.length ≤ 1000000) :
    Calls Try.prog 20 #[v, u] w fun e w' => e = .returned (.bool (decide (a = b))) ∧ Below w.heap.size w w' := by
  obtain ⟨R, hR⟩ : ∃ R, R = decide (a = b) := ⟨_, rfl⟩
  rw [← hR]
  have HLEN := Lib.hid (show a.length ≠ b.length → R = false from fun h => by rw [hR]; exact decide_eq_false fun e => h (by rw [e]))
  have HNO := Lib.hid (show ∀ i (h1 : i < a.length) (h2 : i < b.length), a[i] ≠ b[i] → R = false from fun i h1 h2 hne => by
    rw [hR]
    exact decide_eq_false fun e => hne (by subst e; rfl))
  have HYES := Lib.hid (show a.length = b.length → (∀ i (h1 : i < a.length) (h2 : i < b.length), a[i] = b[i]) → R = true from fun h1 h2 => by
    rw [hR]
    exact decide_eq_true (List.ext_getElem h1 fun i g1 g2 => h2 i g1 g2))
  have HA := Lib.hid h
  have HG := Lib.hid g
  obtain ⟨A, c, rfl, hca⟩ := h.see
  obtain ⟨B, d, rfl, hcb⟩ := g.see
  have HCA := Lib.hid hca
  have HCB := Lib.hid hcb
  obtain ⟨n, hl⟩ : ∃ n, a.length = n := ⟨_, rfl⟩
  obtain ⟨m, hm⟩ : ∃ m, b.length = m := ⟨_, rfl⟩
  rw [hl, hm] at HLEN
  rw [hl] at hn ⊢
  rw [hm]
  have HL := Lib.hid hl
  have HM := Lib.hid hm
  clear h g hca hcb hl hm hR
  by_cases hnm : n = m
  case neg =>
    have HE := Lib.hid (HLEN.out hnm)
    have hI : ¬ (n : Int) = (m : Int) := by omega
    go_enter Try.func20, Try.ntmps20
    go_wp2
    go_ret
    rw [HE.out]
    exact ⟨rfl, Below.refl _ _⟩
  subst hnm
  go_enter Try.func20, Try.ntmps20
  go_wp2
  go_loopw [5] (fun i wr => ∃ (k q : Nat), i = .int .i64 k ∧ wr = w.drewN q ∧ k ≤ n ∧ Hid (∀ i (h1 : i < a.length) (h2 : i < b.length), i < k → a[i] = b[i])) (fun i _ => (n - intOf i).toNat)
  case atStart => exact ⟨0, 0, rfl, rfl, by omega, (show ∀ i (h1 : i < a.length) (h2 : i < b.length), i < 0 → a[i] = b[i] from fun i h1 h2 h => absurd h (by omega))⟩
  case round =>
    obtain ⟨k, q, rfl, rfl, hk, HK⟩ := hrel
    by_cases hlt : k < n
    · have h1 : k < a.length := by rw [HL.out]; exact hlt
      have h2 : k < b.length := by rw [HM.out]; exact hlt
      obtain ⟨ad, rfl, hab, c1⟩ := HCA.out k h1
      obtain ⟨bd, rfl, hbb, c2⟩ := HCB.out k h2
      obtain ⟨x, hx⟩ : ∃ x, a[k]'h1 = x := ⟨_, rfl⟩
      obtain ⟨y, hy⟩ : ∃ y, b[k]'h2 = y := ⟨_, rfl⟩
      rw [hx] at c1
      rw [hy] at c2
      by_cases hxy : x = y
      · have HK2 := Lib.hid (show ∀ i (h1 : i < a.length) (h2 : i < b.length), i < k + 1 → a[i] = b[i] from fun i g1 g2 hi => by
          by_cases h : i < k
          · exact HK.out i g1 g2 h
          · have : i = k := by omega
            subst this
            rw [hx, hy, hxy])
        subst hxy
        clear hx hy
        go_wp2
        go_quiet (fail)
        go_wp2
        go_roundw
        case rel => exact ⟨k + 1, _, by go_num, rfl, by omega, HK2⟩
        case measure => simp [intOf]; omega
      · have HE := Lib.hid (HNO.out k h1 h2 (by rw [hx, hy]; exact hxy))
        clear hx hy
        go_wp2
        go_quiet (fail)
        go_wp2
        go_ret
        rw [HE.out]
        exact ⟨rfl, ⟨rfl, rfl, rfl, Nat.le_refl _, fun _ _ => rfl⟩⟩
    · have HE := Lib.hid (HYES.out (by rw [HL.out, HM.out]) fun i h1 h2 => HK.out i h1 h2 (by rw [HL.out] at h1; omega))
      go_wp2
      go_ret
      rw [HE.out]
      exact ⟨rfl, ⟨rfl, rfl, rfl, Nat.le_refl _, fun _ _ => rfl⟩⟩

end Go.Proofs.Ytnlmdgbkfoofoaa

namespace Go.Proofs.Ytnlmdgbkfoofoaa
open Go.RowKit Go.Maps

theorem PX.grownT {B e k n : Nat} {w w' : World} {v u : Value} {P : List Pr} {xs : List Value} (h : PX B w v P) (ho : w.ownsRow B e k u n xs) (he : e ≠ 61) (hg : w.grownBy w' u.ownBlock) : PX B w' v P := by
  refine ⟨Nat.le_trans h.le hg.size, ?_⟩
  rcases h.lies with ⟨A, c, e1, h1, h2⟩ | h1
  · refine .inl ⟨A, c, e1, h1.keep fun p hp => ?_, h2⟩
    have := hg.block p.block (Nat.lt_of_lt_of_le hp h.le) (fun e => by have := (own_lt ho e.symm).1; omega)
    unfold World.cell?
    rw [this]
  · exact .inr (own_grown h1 hg (own_unlike ho h1 he))

set_option maxHeartbeats 4000000 in
set_option maxRecDepth 100000 in
theorem dall_all {lv u : Value} {l : List Pr} (s : Int) {bs : List (List Nt)} {w : World} (hl : PV w lv l) (hu : NVV w u bs) (hn : l.length ≤ 500) (hb : bs.length ≤ 40) (hm : ∀ b ∈ bs, b.length ≤ maxLen) :
    Calls Try.prog 19 #[lv, .int .i64 s, u] w fun e w' => ∃ cv pv nv, e = .returned (.tuple #[cv, pv, nv, .int .i64 (outE l s bs)]) ∧ CV w' cv (outC l s bs) ∧ PV w' pv (outP l s bs) ∧ IS w' nv (outN l s bs) ∧ Below w.heap.size w w' := by
  have HLV := Lib.hid hl
  have HN := Lib.hid hn
  have HBS := Lib.hid hb
  have HM := Lib.hid hm
  obtain ⟨A, c, rfl, hel⟩ := hu.part
  have HEL := Lib.hid hel
  obtain ⟨n, hbl⟩ : ∃ n, bs.length = n := ⟨_, rfl⟩
  rw [hbl] at hb ⊢
  have HBL := Lib.hid hbl
  clear hl hu hn hm hel hbl
  go_enter Try.func19, Try.ntmps19
  go_wp2
  go_loopw [1, 10, 11, 12, 13] (fun sv cv ev pv i wr => ∃ (k : Nat) (s' : Int), i = .int .i64 k ∧ k ≤ n ∧ sv = .int .i64 s' ∧ Hid (allE (rs0 l s) (bs.take k) = 0) ∧ Hid ((goR (rs0 l s) (bs.take k)).s = s') ∧ Hid (wr.ownsRow w.heap.size 49 6 cv (goR (rs0 l s) (bs.take k)).C.length ((goR (rs0 l s) (bs.take k)).C.flatMap Ch.cells)) ∧ Hid (wr.ownsRow w.heap.size 3 1 ev k ((endsR (rs0 l s) (bs.take k)).flatMap intC)) ∧ Hid (PX w.heap.size wr pv (goR (rs0 l s) (bs.take k)).p) ∧ Below w.heap.size w wr) (fun _ _ _ _ i _ => (n - intOf i).toNat)
  case atStart => exact ⟨0, s, rfl, by omega, rfl, (show allE (rs0 l s) [] = 0 from rfl), (show s = s from rfl), (show World.ownsRow _ _ _ _ _ _ _ from World.ownsRow_nil _ _ _ _), (show World.ownsRow _ _ _ _ _ _ _ from World.ownsRow_nil _ _ _ _), (show PX _ _ _ _ from PX.of HLV.out), Below.refl _ _⟩
  case round =>
    obtain ⟨k, s', rfl, hk, rfl, HK, HS, HO, HE, HP, hbr⟩ := hrel
    obtain ⟨CA, cc, rfl⟩ := own_shape HO.out
    obtain ⟨EA, ec, rfl⟩ := own_shape HE.out
    obtain ⟨PA, pn, pc, rfl⟩ := HP.out.shape
    have hbs := hbr.size
    by_cases hlt : k < n
    · have hkl : k < bs.length := by rw [HBL.out]; exact hlt
      obtain ⟨ad, bv, rfl, hab, hcell, hnb⟩ := HEL.out k hkl
      have hcell := (hbr.cell (p := ad.add k) (by rw [block_of_add]; exact hab)).trans hcell
      have hnb := (hnb.below hbr).nv hbs
      obtain ⟨BA, bd, rfl⟩ : ∃ A d, bv = .slice A (bs[k]'hkl).length d := by obtain ⟨A, d, e, _⟩ := hnb; exact ⟨A, d, e⟩
      have hat := allE_at hkl HK.out
      have hst2 : goR (rs0 l s) (bs.take (k + 1)) = runR (goR (rs0 l s) (bs.take k)) bs[k] := by rw [takeS hkl, goR_snoc]
      have hen : endsR (rs0 l s) (bs.take (k + 1)) = endsR (rs0 l s) (bs.take k) ++ [(goR (rs0 l s) (bs.take (k + 1))).s] := by rw [takeS hkl, endsR_snoc]
      have hlen : (goR (rs0 l s) (bs.take k)).p.length ≤ 900 ∧ (goR (rs0 l s) (bs.take k)).C.length ≤ 400 := by
        have h1 := out_len l s (bs.take k)
        have h2 := out_yes (l := l) (s := s) (bs := bs.take k) HK.out
        rw [h2.1, h2.2.1, List.length_take] at h1
        have h3 := HN.out
        omega
      obtain ⟨RK, hRK⟩ : ∃ q, goR (rs0 l s) (bs.take k) = q := ⟨_, rfl⟩
      rw [hRK] at hat hst2 hlen HS HO HP ⊢
      have hfrom := run_from RK.p RK.C RK.s bs[k]
      rw [show (⟨RK.p, RK.C, RK.s⟩ : Rs) = RK from rfl, ← hst2, HS.out] at hfrom
      rw [HS.out] at hat
      have hone := lenB RK.p s' bs[k]
      have hdr := drun_x s' HP.out hnb (by omega) (HM.out _ (List.getElem_mem _))
      obtain ⟨RE, hRE⟩ : ∃ q, runE RK.p s' bs[k] = q := ⟨_, rfl⟩
      have hyes : RE = 0 → oneC RK.p s' bs[k] = (runR (rs0 RK.p s') bs[k]).C ∧ oneP RK.p s' bs[k] = (runR (rs0 RK.p s') bs[k]).p ∧ (runR (rs0 RK.p s') bs[k]).s = s' + (oneC RK.p s' bs[k]).length ∧ 0 ≤ s' ∧ s' + 8 ≤ 4294967295 := fun h0 => by
        rw [← hRE] at h0
        obtain ⟨r1, r2, r3, r4, r5⟩ := runE_ok h0
        have hri := run_inv (RInv.start r1 r4 (by omega)) r3 (by show s' + _ ≤ _; omega)
        unfold oneC oneP
        rw [if_pos h0, if_pos h0]
        exact ⟨rfl, rfl, hri.1.seq, r4, by omega⟩
      rw [hRE] at hdr hat
      obtain ⟨DC, hDC⟩ : ∃ q, oneC RK.p s' bs[k] = q := ⟨_, rfl⟩
      obtain ⟨DP, hDP⟩ : ∃ q, oneP RK.p s' bs[k] = q := ⟨_, rfl⟩
      rw [hDC, hDP] at hdr hyes
      rw [hDC] at hone
      have HDR := Lib.hid hdr
      have HAT := Lib.hid hat
      have HEN := Lib.hid hen
      have HNX := Lib.hid (show RE = 0 → goR (rs0 l s) (bs.take (k + 1)) = ⟨DP, RK.C ++ DC, s' + DC.length⟩ from fun h0 => by
        obtain ⟨y1, y2, y3, _⟩ := hyes h0
        rw [hfrom, ← y1, ← y2, y3])
      have HYES := Lib.hid (show RE = 0 → 0 ≤ s' ∧ s' + 8 ≤ 4294967295 from fun h0 => ⟨(hyes h0).2.2.2.1, (hyes h0).2.2.2.2⟩)
      have HON := Lib.hid hone
      have HLN := Lib.hid hlen
      obtain ⟨bn, hbn⟩ : ∃ q, (bs[k]'hkl).length = q := ⟨_, rfl⟩
      rw [hbn] at HDR hcell
      clear hnb hat hst2 hen hlen hRK hfrom hone hdr hRE hyes hDC hDP hbn
      go_wp2_with fail
      refine HDR.out.mono ?_
      rintro e w3 ⟨cv, pv, rfl, hc, hp, hb3⟩
      obtain ⟨DA, dn, dc, rfl⟩ : ∃ A n c, cv = .slice A n c := by obtain ⟨A, c, e, _⟩ := hc; exact ⟨A, _, c, e⟩
      have hdn : dn = DC.length := by obtain ⟨A, c, e, _⟩ := hc; injection e
      have HB3 := Lib.hid (hbr.trans (hb3.mono hbs))
      by_cases hre : RE = 0
      · subst hre
        obtain ⟨y1, y2⟩ := HYES.out rfl
        have hnx := HNX.out rfl
        have ho3 := own_on HO.out hb3
        have he3 := own_on HE.out hb3
        have hsz3 := HB3.out.size
        obtain ⟨v4, w4, hr4, ho4, hg4, hat4⟩ := run_app_cv w3 w.heap.size _ RK.C.length _ ho3 hc (by have := HLN.out.2; have := HON.out.1; omega) hsz3
        have he4 := own_grown he3 hg4 (own_unlike ho3 he3 (by decide))
        have hp4 := hp.grown ho3 hg4
        have hb4 : Below w.heap.size w w4 := HB3.out.grown hg4 hsz3 (fun k hk => (own_lt ho3 hk).1)
        have HO4 := Lib.hid ho4
        have HE4 := Lib.hid he4
        have HP4 := Lib.hid hp4
        have HB4 := Lib.hid hb4
        have hdl : DC.length ≤ 8 := HON.out.1
        have hwr : IntKind.i64.wrap (s' + (dn : Int)) = s' + (dn : Int) := IntWalk.i64_in _ (by omega)
        have HDN := Lib.hid hdn
        have HNX3 := Lib.hid hnx
        obtain ⟨A4, c4, rfl⟩ := own_shape ho4
        have hdn8 : dn ≤ 8 := by omega
        clear ho3 he3 ho4 hg4 hat4 he4 hp4 hb4 hc hp hb3 hcell hbr hnx hdn hsz3
        have he4 := HE4.out
        go_wp2_with (at_builtin; first | refine Lib.wpList_append_run _ rfl _ _ _ _ rfl _ _ rfl rfl _ _ (hr4 _) ?_ | refine append_int _ rfl _ _ rfl w.heap.size _ k ((endsR (rs0 l s) (bs.take k)).flatMap intC) rfl (he4.alloc _) (w4.heap.size + 1) w4.heap.size (s' + (dn : Int)) rfl ?a1 ?a2 ?a3 ?_)
        case a1 => exact Lies.lit intC1 rfl
        case a2 => have := HBS.out; omega
        case a3 => have := HB4.out.size; simp; omega
        intro ev w5 hown5 hg5 hat5
        have hba : Below w4.heap.size w4 (w4.alloc (.cells #[.int .i64 (s' + (dn : Int))] 3)) := (Below.refl _ _).alloc (Nat.le_refl _) _
        have ho4a := own_on HO4.out hba
        have HO5 := Lib.hid (own_grown ho4a hg5 (own_unlike (he4.alloc _) ho4a (by decide)))
        have HP5 := Lib.hid ((HP4.out.on hba).grownT (he4.alloc _) (by decide) hg5)
        have hsz4 := HB4.out.size
        have HB5 := Lib.hid (show Below w.heap.size w w5 from (HB4.out.trans (hba.mono hsz4)).grown hg5 (by simp; omega) (fun k hk => (own_lt he4 hk).1))
        have HK5 := Lib.hid (show allE (rs0 l s) (bs.take (k + 1)) = 0 from HAT.out)
        have HS5 := Lib.hid (show (goR (rs0 l s) (bs.take (k + 1))).s = s' + (dn : Int) from by rw [HNX3.out, HDN.out])
        have HE5 := Lib.hid (show w5.ownsRow w.heap.size 3 1 ev (k + 1) ((endsR (rs0 l s) (bs.take (k + 1))).flatMap intC) from by
          rw [HEN.out, HS5.out, List.flatMap_append]
          simpa using hown5)
        have HOF := Lib.hid (show w5.ownsRow w.heap.size 49 6 (.slice A4 (RK.C.length + DC.length) c4) (goR (rs0 l s) (bs.take (k + 1))).C.length ((goR (rs0 l s) (bs.take (k + 1))).C.flatMap Ch.cells) from by
          rw [HNX3.out]
          show World.ownsRow _ _ _ _ _ (RK.C ++ DC).length ((RK.C ++ DC).flatMap Ch.cells)
          rw [List.length_append, List.flatMap_append]
          exact HO5.out)
        have HPF := Lib.hid (show PX w.heap.size w5 pv (goR (rs0 l s) (bs.take (k + 1))).p from by rw [HNX3.out]; exact HP5.out)
        clear hr4 hown5 hg5 hat5 hba ho4a he4 hsz4 hwr y1 y2 hdl hdn8
        go_wp2
        go_roundw
        case rel => exact ⟨k + 1, s' + (dn : Int), by go_num, by omega, rfl, HK5, HS5, HOF, HE5, HPF, HB5.out⟩
        case measure => simp [intOf]; omega
      · have HO3 := Lib.hid (show outE l s bs = RE from by
          unfold outE
          rw [allE_take (k := k + 1) (by rw [HAT.out]; exact hre), HAT.out])
        have HNO := Lib.hid (out_no (l := l) (s := s) (bs := bs) (by rw [HO3.out]; exact hre))
        clear hc hp hb3 hcell hbr
        go_wp2
        refine bodyPost_ret (v := .tuple #[.slice none 0 0, lv, .slice none 0 0, .int .i64 RE]) (by simp [results, Try.results19, go_sem]) rfl ?_
        rw [HO3.out, HNO.out.1, HNO.out.2.1, HNO.out.2.2]
        exact ⟨_, _, _, rfl, CV.nil _, HLV.out.on HB3.out, IS.nil _, HB3.out⟩
    · have hkn : k = n := by omega
      have htk : bs.take k = bs := List.take_of_length_le (by rw [HBL.out]; omega)
      rw [htk] at HK HS HO HE HP ⊢
      have HEE := Lib.hid (show outE l s bs = 0 from HK.out)
      have HYES := Lib.hid (out_yes HEE.out)
      have HF := Lib.hid (show CV wr (.slice CA (goR (rs0 l s) bs).C.length cc) (outC l s bs) ∧ PV wr (.slice PA pn pc) (outP l s bs) ∧ IS wr (.slice EA k ec) (outN l s bs) from by
        rw [HYES.out.1, HYES.out.2.1, HYES.out.2.2]
        exact ⟨CV.own HO.out rfl, HP.out.pv, IS.own HE.out (by rw [endsR_len, HBL.out]; omega)⟩)
      have HBR := Lib.hid hbr
      clear HK HS HO HE HP htk hbr HYES
      go_wp2
      refine bodyPost_ret (v := .tuple #[.slice CA (goR (rs0 l s) bs).C.length cc, .slice PA pn pc, .slice EA k ec, .int .i64 0]) (by simp [results, Try.results19, go_sem]) rfl ?_
      rw [HEE.out]
      exact ⟨_, _, _, rfl, HF.out.1, HF.out.2.1, HF.out.2.2, HBR.out⟩

end Go.Proofs.Ytnlmdgbkfoofoaa

namespace Go.Proofs.Ytnlmdgbkfoofoaa
open Go.RowKit

set_option maxHeartbeats 1000000 in
set_option maxRecDepth 100000 in
theorem small_any (A : Option Addr) (c : Nat) (l : List Pr) (w : World) (hA : Prs w w.heap.size A l) :
    Calls Try.prog 9 #[.slice A l.length c] w fun e w' => ∃ R, e = .returned (.bool R) ∧ (R = true → l.length ≤ 60) ∧ Below w.heap.size w w' := by
  obtain ⟨n, hl⟩ : ∃ n, l.length = n := ⟨_, rfl⟩
  rw [hl]
  have HL := Lib.hid hl
  have HA := Lib.hid hA
  clear hl hA
  by_cases h60 : n ≤ 60
  case neg =>
    have hd : decide (60 < (n : Int)) = true := by simp; omega
    have hd' : decide (60 < n) = true := by simp; omega
    clear h60
    go_enter Try.func9, Try.ntmps9
    go_wp2
    go_ret
    exact ⟨_, rfl, fun h => (by cases h), Below.refl _ _⟩
  have hd : decide (60 < (n : Int)) = false := by simp; omega
  have hd' : decide (60 < n) = false := by simp; omega
  go_enter Try.func9, Try.ntmps9
  go_wp2
  go_loopw [10] (fun i wr => ∃ (k : Nat), i = .int .i64 k ∧ k ≤ n ∧ Below w.heap.size w wr) (fun i _ => (n - intOf i).toNat)
  case atStart => exact ⟨0, rfl, by omega, Below.refl _ _⟩
  case round =>
    obtain ⟨k, rfl, hk, hbr⟩ := hrel
    by_cases hlt : k < n
    · obtain ⟨ad, rfl, hab, hca⟩ := (HA.out.below hbr).seeP (by rw [HL.out]; omega)
      obtain ⟨c1, c2⟩ := hca k (by rw [HL.out]; omega)
      obtain ⟨x, hx⟩ : ∃ x, x = l[k]'(by rw [HL.out]; omega) := ⟨_, rfl⟩
      rw [← hx] at c1 c2
      clear hx hca
      obtain ⟨xk, xv⟩ := x
      simp only at c1 c2
      have hlt3 : (ad.add (k * 2)).block < w.heap.size := by rw [block_of_add]; exact hab
      by_cases h1 : xk.size ≤ 300
      · have hd1 : decide (300 < (xk.size : Int)) = false := by simp; omega
        by_cases h2 : xv.size ≤ 300
        · have hd2 : decide (300 < (xv.size : Int)) = false := by simp; omega
          go_wp2
          go_roundw
          case rel => exact ⟨k + 1, by go_num, by omega, hbr.alloc hbr.size _⟩
          case measure => simp [intOf]; omega
        · have hd2 : decide (300 < (xv.size : Int)) = true := by simp; omega
          go_wp2
          go_ret
          exact ⟨_, rfl, fun h => (by cases h), hbr.alloc hbr.size _⟩
      · have hd1 : decide (300 < (xk.size : Int)) = true := by simp; omega
        go_wp2
        go_ret
        exact ⟨_, rfl, fun h => (by cases h), hbr.alloc hbr.size _⟩
    · have H60 := Lib.hid h60
      go_wp2
      go_ret
      exact ⟨_, rfl, fun _ => H60.out, hbr⟩

set_option maxHeartbeats 1000000 in
set_option maxRecDepth 100000 in
theorem few_any (A : Option Addr) (c : Nat) (l : List Nt) (w : World) (hA : Nts w w.heap.size A l) :
    Calls Try.prog 10 #[.slice A l.length c] w fun e w' => ∃ R, e = .returned (.bool R) ∧ (R = true → l.length ≤ 20) ∧ Below w.heap.size w w' := by
  obtain ⟨n, hl⟩ : ∃ n, l.length = n := ⟨_, rfl⟩
  rw [hl]
  have HL := Lib.hid hl
  have HA := Lib.hid hA
  clear hl hA
  by_cases h20 : n ≤ 20
  case neg =>
    have hd : decide (20 < (n : Int)) = true := by simp; omega
    have hd' : decide (20 < n) = true := by simp; omega
    clear h20
    go_enter Try.func10, Try.ntmps10
    go_wp2
    go_ret
    exact ⟨_, rfl, fun h => (by cases h), Below.refl _ _⟩
  have hd : decide (20 < (n : Int)) = false := by simp; omega
  have hd' : decide (20 < n) = false := by simp; omega
  go_enter Try.func10, Try.ntmps10
  go_wp2
  go_loopw [10] (fun i wr => ∃ (k : Nat), i = .int .i64 k ∧ k ≤ n ∧ Below w.heap.size w wr) (fun i _ => (n - intOf i).toNat)
  case atStart => exact ⟨0, rfl, by omega, Below.refl _ _⟩
  case round =>
    obtain ⟨k, rfl, hk, hbr⟩ := hrel
    by_cases hlt : k < n
    · obtain ⟨ad, rfl, hab, hca⟩ := (HA.out.below hbr).seeN (by rw [HL.out]; omega)
      obtain ⟨c1, c2, c3, c4⟩ := hca k (by rw [HL.out]; omega)
      obtain ⟨x, hx⟩ : ∃ x, x = l[k]'(by rw [HL.out]; omega) := ⟨_, rfl⟩
      rw [← hx] at c1 c2 c3 c4
      clear hx hca
      obtain ⟨xk, xkey, xval, xn⟩ := x
      simp only at c1 c2 c3 c4
      have hlt3 : (ad.add (k * 4)).block < w.heap.size := by rw [block_of_add]; exact hab
      by_cases h1 : xkey.size ≤ 300
      · have hd1 : decide (300 < (xkey.size : Int)) = false := by simp; omega
        by_cases h2 : xval.size ≤ 300
        · have hd2 : decide (300 < (xval.size : Int)) = false := by simp; omega
          go_wp2
          go_roundw
          case rel => exact ⟨k + 1, by go_num, by omega, hbr.alloc hbr.size _⟩
          case measure => simp [intOf]; omega
        · have hd2 : decide (300 < (xval.size : Int)) = true := by simp; omega
          go_wp2
          go_ret
          exact ⟨_, rfl, fun h => (by cases h), hbr.alloc hbr.size _⟩
      · have hd1 : decide (300 < (xkey.size : Int)) = true := by simp; omega
        go_wp2
        go_ret
        exact ⟨_, rfl, fun h => (by cases h), hbr.alloc hbr.size _⟩
    · have H20 := Lib.hid h20
      go_wp2
      go_ret
      exact ⟨_, rfl, fun _ => H20.out, hbr⟩
theorem few_v {v : Value} {l : List Nt} {w : World} (h : NV w v l) :
    Calls Try.prog 10 #[v] w fun e w' => ∃ R, e = .returned (.bool R) ∧ (R = true → l.length ≤ 20) ∧ Below w.heap.size w w' := by
  obtain ⟨A, c, rfl, h1, h2, h3⟩ := h
  exact few_any A c l w h1


theorem small_v {v : Value} {l : List Pr} {w : World} (h : PV w v l) : Calls Try.prog 9 #[v] w fun e w' => ∃ R, e = .returned (.bool R) ∧ (R = true → l.length ≤ 60) ∧ Below w.heap.size w w' := by
  obtain ⟨A, c, rfl, h1, _⟩ := h
  exact small_any A c l w h1

end Go.Proofs.Ytnlmdgbkfoofoaa

namespace Go.Proofs.Ytnlmdgbkfoofoaa
open Go.RowKit

def aB : ByteArray := ⟨#[97]⟩
def bB : ByteArray := ⟨#[98]⟩
def xB : ByteArray := ⟨#[120]⟩
def oneB : ByteArray := ⟨#[49]⟩
def awN1 : List Nt := [⟨1, aB, oneB, 0⟩, ⟨2, bB, noB, 0⟩, ⟨2, aB, noB, 0⟩]
def awN2 : List Nt := [⟨2, noB, noB, 0⟩, ⟨2, noB, noB, 0⟩]
def awN3 : List (List Nt) := [[⟨2, noB, noB, 0⟩], [⟨1, xB, noB, 0⟩]]
def awC1 : List Ch := [⟨5, aB, false, noB, true, oneB⟩, ⟨6, aB, true, oneB, false, noB⟩]
def awC3 : List Ch := [⟨1, xB, false, noB, true, noB⟩]
theorem aw1 : outE [] 4 [awN1] = 0 ∧ outC [] 4 [awN1] = awC1 ∧ outP [] 4 [awN1] = [] := ⟨by decide, by decide, by kernel_rfl⟩
theorem aw2 : outE [] 2147483646 [awN2] = 5 := by decide
theorem aw3 : outE [] 0 awN3 = 0 ∧ outC [] 0 awN3 = awC3 ∧ outP [] 0 awN3 = [⟨xB, noB⟩] ∧ outN [] 0 awN3 = [0, 1] := ⟨by decide, by decide, by kernel_rfl, by decide⟩
theorem aw4 : batchB [] = true ∧ batchB [⟨0, noB, noB, 0⟩] = false := by decide

/-- A literal of two. -/
theorem NVB.box2 {w : World} {h : Nat} {u1 u2 : Value} {p1 p2 : List Nt} (hb : Box w h 23 #[u1, u2]) (h1 : NV w u1 p1) (h2 : NV w u2 p2) : NVV w (.slice (some ⟨h, 0, none⟩) 2 2) [p1, p2] := by
  refine ⟨some ⟨h, 0, none⟩, 2, [u1, u2], rfl, rfl, fun _ => ⟨_, rfl, hb.lt, fun i hi j v hv => ?_⟩, fun i hi => ?_, Nat.le_refl _, fun h => by cases h⟩
  · have hi2 : i = 0 ∨ i = 1 := by have : i < 2 := hi; omega
    cases j with
    | zero =>
      rcases hi2 with rfl | rfl
      · have := hb.cell 0 rfl
        simp at hv
        subst hv
        simpa [Addr.add_zero'] using this
      · have := hb.cell 1 rfl
        simp at hv
        subst hv
        simpa [Addr.add_zero', Addr.add_lit] using this
    | succ j => rcases hi2 with rfl | rfl <;> simp at hv
  · have hi2 : i = 0 ∨ i = 1 := by have : i < 2 := hi; omega
    rcases hi2 with rfl | rfl
    · exact ⟨u1, rfl, h1⟩
    · exact ⟨u2, rfl, h2⟩
theorem CV.see2 {w : World} {v : Value} {x y : Ch} (h : CV w v [x, y]) : ∃ (ad : Addr) (c : Nat), v = .slice (some ad) 2 c ∧ ad.block < w.heap.size ∧
    w.cell? ⟨ad.block, ad.off + 6, none⟩ = some (.int .i64 y.seq) ∧ w.cell? ⟨ad.block, ad.off + 6 + 1, none⟩ = some (.string y.key) ∧ w.cell? ⟨ad.block, ad.off + 6 + 2, none⟩ = some (.bool y.had) ∧ w.cell? ⟨ad.block, ad.off + 6 + 3, none⟩ = some (.string y.before) ∧ w.cell? ⟨ad.block, ad.off + 6 + 4, none⟩ = some (.bool y.has) ∧ w.cell? ⟨ad.block, ad.off + 6 + 5, none⟩ = some (.string y.after) := by
  obtain ⟨A, c, rfl, h1, _⟩ := h
  obtain ⟨ad, rfl, hb, hc⟩ := h1.seeC (by simp)
  obtain ⟨c0, c1, c2, c3, c4, c5⟩ := hc 1 (by simp)
  exact ⟨ad, c, rfl, hb, c0, c1, c2, c3, c4, c5⟩

set_option maxRecDepth 100000 in
set_option maxHeartbeats 8000000 in
theorem awake_true (w : World) : Calls Try.prog 11 #[] w fun e w' => e = .returned (.bool true) ∧ Below w.heap.size w w' := by
  obtain ⟨w1, hw1⟩ : ∃ q, q = w.alloc (.cells #[.int .i64 1, .string ⟨#[97]⟩, .string ⟨#[49]⟩, .int .u64 0, .int .i64 2, .string ⟨#[98]⟩, .string ⟨#[]⟩, .int .u64 0, .int .i64 2, .string ⟨#[97]⟩, .string ⟨#[]⟩, .int .u64 0] 58) := ⟨_, rfl⟩
  obtain ⟨g, hg⟩ : ∃ q, q = w.heap.size := ⟨_, rfl⟩
  have P1 := Lib.hid (show NV w1 (.slice (some ⟨g, 0, none⟩) 3 3) awN1 from by rw [hw1, hg]; exact NV.lit rfl rfl rfl)
  have HB1 := Lib.hid (show Below g w w1 from by rw [hw1, hg]; exact (Below.refl _ _).alloc (Nat.le_refl _) _)
  have HG := Lib.hid hg
  have HGS := Lib.hid (show g ≤ w1.heap.size from by rw [hw1, hg]; simp)
  go_enter Try.func11, Try.ntmps11
  go_wp2_with fail
  rw [← hg, ← hw1]
  clear hw1 hg
  have hr := run_any 4 (PV.nil w1) P1.out (by simp) (by unfold maxLen; simp [awN1])
  rw [aw1.1, aw1.2.1, aw1.2.2] at hr
  refine hr.mono ?_
  rintro e w2 ⟨cv, pv, rfl, hcv, hpv, hb⟩
  have HC2 := Lib.hid hcv
  have HP2 := Lib.hid hpv
  have HB2 := Lib.hid (HB1.out.trans (hb.mono HGS.out))
  have HS2 := Lib.hid (Nat.le_trans HGS.out hb.size)
  clear hr hcv hpv hb
  have h2 : NV (w2.alloc (.cells #[.int .i64 2, .string ⟨#[]⟩, .string ⟨#[]⟩, .int .u64 0, .int .i64 2, .string ⟨#[]⟩, .string ⟨#[]⟩, .int .u64 0] 58)) (.slice (some ⟨w2.heap.size, 0, none⟩) 2 2) awN2 := NV.lit rfl rfl rfl
  have hr := run_any 2147483646 (PV.nil _) h2 (by simp) (by unfold maxLen; simp [awN2])
  rw [aw2] at hr
  have HR := Lib.hid hr
  clear hr h2
  go_wp2_with fail
  refine HR.out.mono ?_
  rintro e w3 ⟨cv2, pv2, rfl, _, _, hb⟩
  have hb := below1 hb
  have HC3 := Lib.hid (HC2.out.on hb)
  have HP3 := Lib.hid (HP2.out.on hb)
  have HB3 := Lib.hid (HB2.out.trans (hb.mono HS2.out))
  have HS3 := Lib.hid (Nat.le_trans HS2.out hb.size)
  clear hb
  obtain ⟨h, hh⟩ : ∃ q, q = w3.heap.size := ⟨_, rfl⟩
  obtain ⟨wa, hwa⟩ : ∃ q, q = w3.alloc (.cells #[.int .i64 2, .string ⟨#[]⟩, .string ⟨#[]⟩, .int .u64 0] 58) := ⟨_, rfl⟩
  obtain ⟨wb, hwb⟩ : ∃ q, q = wa.alloc (.cells #[.int .i64 1, .string ⟨#[120]⟩, .string ⟨#[]⟩, .int .u64 0] 58) := ⟨_, rfl⟩
  obtain ⟨wc, hwc⟩ : ∃ q, q = wb.alloc (.cells #[.slice (some ⟨h, 0, none⟩) 1 1, .slice (some ⟨h + 1, 0, none⟩) 1 1] 23) := ⟨_, rfl⟩
  have ea : wa.heap.size = h + 1 := by rw [hwa, hh]; simp
  have eb : wb.heap.size = h + 2 := by rw [hwb]; simp [ea]
  have hba : Below w3.heap.size w3 wa := by rw [hwa]; exact (Below.refl _ _).alloc (Nat.le_refl _) _
  have hbb : Below wa.heap.size wa wb := by rw [hwb]; exact (Below.refl _ _).alloc (Nat.le_refl _) _
  have hbc : Below wb.heap.size wb wc := by rw [hwc]; exact (Below.refl _ _).alloc (Nat.le_refl _) _
  have n1 : NV wa (.slice (some ⟨h, 0, none⟩) 1 1) [⟨2, noB, noB, 0⟩] := by rw [hwa, hh]; exact NV.lit rfl rfl rfl
  have n2 : NV wb (.slice (some ⟨h + 1, 0, none⟩) 1 1) [⟨1, xB, noB, 0⟩] := by rw [hwb]; exact NV.lit ea.symm rfl rfl
  have n3 : NVV wc (.slice (some ⟨h + 2, 0, none⟩) 2 2) awN3 := NVB.box2 (by rw [hwc]; exact Box.at_ _ _ _ eb.symm) ((n1.on hbb).on hbc) (n2.on hbc)
  have hr := all_any 0 (PV.nil wc) n3 (by simp) (by simp [awN3]) (fun b hb => by unfold maxLen; simp [awN3] at hb; rcases hb with rfl | rfl <;> simp)
  rw [aw3.1, aw3.2.1, aw3.2.2.1, aw3.2.2.2] at hr
  have hb3c : Below w3.heap.size w3 wc := (hba.trans (hbb.mono hba.size)).trans (hbc.mono (Nat.le_trans hba.size hbb.size))
  have HR := Lib.hid hr
  have HWC := Lib.hid (And.intro hwc (And.intro hwb (And.intro hwa hh)))
  have HC4 := Lib.hid (HC3.out.on hb3c)
  have HP4 := Lib.hid (HP3.out.on hb3c)
  have HB4 := Lib.hid (HB3.out.trans (hb3c.mono HS3.out))
  have HS4 := Lib.hid (Nat.le_trans HS3.out hb3c.size)
  clear hr n1 n2 n3 ea eb hba hbb hbc hb3c hwa hwb hwc hh
  go_wp2_with fail
  rw [← HWC.out.2.2.2, ← HWC.out.2.2.1, ← HWC.out.2.1, ← HWC.out.1]
  refine HR.out.mono ?_
  rintro e w5 ⟨cv3, pv3, nv3, rfl, hc5, hp5, hi5, hb⟩
  obtain ⟨ad, c, rfl, hab, y0, y1, y2, y3, y4, y5⟩ := (HC4.out.on hb).see2
  have hp := HP4.out.on hb
  obtain ⟨PA, pc, rfl, _⟩ := hp
  obtain ⟨CA, cc, e5, _⟩ := hc5
  have e5 : cv3 = .slice CA 1 cc := e5
  subst e5
  obtain ⟨QA, qc, rfl, _⟩ := hp5
  have HB5 := Lib.hid (HB4.out.trans (hb.mono HS4.out))
  have HS5 := Lib.hid (Nat.le_trans HS4.out hb.size)
  have hnum := fun (wx : World) (hx : Below w5.heap.size w5 wx) (u : Value) (hu : IS wx u [0, 1]) => numbers_any (hi5.on hx) hu (by simp)
  have HNUM := Lib.hid hnum
  clear hb hnum hi5
  have haB : aB.toList = [97] := by rw [ByteArray.toList_eq]; rfl
  have hoB : oneB.toList = [49] := by rw [ByteArray.toList_eq]; rfl
  have hnB : noB.toList = [] := by rw [ByteArray.toList_eq]
  go_wp2_with fail
  clear haB hoB hnB
  refine (HNUM.out _ ((Below.refl _ _).alloc (Nat.le_refl _) _) _ (IS.lit rfl rfl rfl)).mono ?_
  rintro e w6 ⟨rfl, hb⟩
  have hb := below1 hb
  have HB6 := Lib.hid (HB5.out.trans (hb.mono HS5.out))
  have HS6 := Lib.hid (Nat.le_trans HS5.out hb.size)
  clear hb y0 y1 y2 y3 y4 y5 hab
  go_wp2_with fail
  have hr := bright_v (NV.nil w6) (by simp)
  rw [aw4.1] at hr
  refine hr.mono ?_
  rintro e w7 ⟨rfl, hb⟩
  have HB7 := Lib.hid (HB6.out.trans (hb.mono HS6.out))
  have HS7 := Lib.hid (Nat.le_trans HS6.out hb.size)
  clear hb hr
  go_wp2_with fail
  have hr := bright_v (show NV (w7.alloc (.cells #[.int .i64 0, .string ⟨#[]⟩, .string ⟨#[]⟩, .int .u64 0] 58)) (.slice (some ⟨w7.heap.size, 0, none⟩) 1 1) [⟨0, noB, noB, 0⟩] from NV.lit rfl rfl rfl) (by unfold maxLen; simp)
  rw [aw4.2] at hr
  refine hr.mono ?_
  rintro e w8 ⟨rfl, hb⟩
  have hb := below1 hb
  have HB8 := Lib.hid (HB7.out.trans (hb.mono HS7.out))
  clear hb hr
  go_wp2
  go_ret
  refine ⟨rfl, ?_⟩
  have := HB8.out
  rwa [HG.out] at this

end Go.Proofs.Ytnlmdgbkfoofoaa

namespace Go.Proofs.Ytnlmdgbkfoofoaa
open Go.RowKit

theorem run_app_nv (w : World) (base : Nat) (v : Value) (n : Nat) (xs : List Value) (hown : w.ownsRow base 58 4 v n xs) {u : Value} {l : List Nt} (hv : NV w u l) (hn : n + l.length ≤ 100000) (hbase : base ≤ w.heap.size) :
    ∃ v' w', (∀ ty, (Builtin.append_ #[23, 23] ty #[v, u]).run Try.prog w = .ok v' w') ∧ w'.ownsRow base 58 4 v' (n + l.length) (xs ++ l.flatMap Nt.cells) ∧ w.grownBy w' v.ownBlock ∧ (v'.ownBlock = v.ownBlock ∨ v'.ownBlock = some w.heap.size) := by
  obtain ⟨i0, hi0, hz0, hz1, hz2⟩ := info_parts note_info
  obtain ⟨A, c, rfl, hA, hc, h0⟩ := hv
  cases A with
  | none =>
    have hl : l = [] := by
      cases l with
      | nil => rfl
      | cons x l => obtain ⟨ad, e, _⟩ := hA (by simp); cases e
    subst hl
    have : c = 0 := h0 rfl
    subst this
    exact ⟨v, w, fun ty => run_append_owned_none w base 23 ty 58 i0 4 Try.underlying23 hi0 v n xs hown, by simpa using hown, ⟨rfl, rfl, rfl, Nat.le_refl _, fun _ _ _ => rfl⟩, .inl rfl⟩
  | some ad =>
    obtain ⟨v', w', h1, h2, h3, _, h5⟩ := run_append_own_at (P := Try.prog) w base 23 0 58 i0 (.agg #[.int .i64 0, .string ⟨#[]⟩, .string ⟨#[]⟩, .int .u64 0]) 4 48 Try.underlying23 hi0 hz0 hz1 hz2 rfl (by decide) v n xs hown ad l.length c (l.flatMap Nt.cells) (nts_len l)
      (nts_cells hA) (nts_plain l) (by unfold maxLen; omega) (by omega) hbase
    exact ⟨v', w', fun ty => h1, h2, h3, h5⟩

theorem nvs_info : (Try.prog.info? 23).map (fun i => (i.zero, i.size, i.bytes)) = some (some (.slice none 0 0), 1, 24) := by kernel_rfl
theorem vs_flat (vs : List Value) : vs.flatMap (fun u : Value => [u]) = vs := by induction vs with | nil => rfl | cons v vs ih => rw [List.flatMap_cons, ih]; rfl
/-- What a row of slices holds. -/
structure Vals (w : World) (B : Nat) (vs : List Value) (ps : List (List Nt)) : Prop where
  len : vs.length = ps.length
  nb : ∀ i (h : i < ps.length), ∃ u, vs[i]? = some u ∧ NB B w u ps[i]
theorem Vals.nil (w : World) (B : Nat) : Vals w B [] [] := ⟨rfl, fun i h => absurd h (by simp)⟩
theorem Vals.below {w w' : World} {B : Nat} {vs : List Value} {ps : List (List Nt)} (h : Vals w B vs ps) (hb : Below B w w') : Vals w' B vs ps := ⟨h.len, fun i hi => let ⟨u, h1, h2⟩ := h.nb i hi; ⟨u, h1, h2.below hb⟩⟩
theorem Vals.append {w : World} {B : Nat} {vs us : List Value} {ps qs : List (List Nt)} (h : Vals w B vs ps) (g : Vals w B us qs) : Vals w B (vs ++ us) (ps ++ qs) := by
  refine ⟨by rw [List.length_append, List.length_append, h.len, g.len], fun i hi => ?_⟩
  by_cases hlt : i < ps.length
  · obtain ⟨u, h1, h2⟩ := h.nb i hlt
    exact ⟨u, by rw [List.getElem?_append_left (by rw [h.len]; exact hlt)]; exact h1, by rw [List.getElem_append_left hlt]; exact h2⟩
  · rw [List.length_append] at hi
    obtain ⟨u, h1, h2⟩ := g.nb (i - ps.length) (by omega)
    exact ⟨u, by rw [List.getElem?_append_right (by rw [h.len]; omega), h.len]; exact h1, by rw [List.getElem_append_right (by omega)]; exact h2⟩
theorem NVB.vals {B : Nat} {w : World} {v : Value} {ps : List (List Nt)} (h : NVB B w v ps) : ∃ (A : Option Addr) (c : Nat) (vs : List Value), v = .slice A ps.length c ∧ Lies (fun u : Value => [u]) 1 w B A vs ∧ Vals w B vs ps ∧ (A = none → c = 0) := by
  obtain ⟨A, c, vs, e, hl, hp, h2, _, h4⟩ := h
  exact ⟨A, c, vs, e, hp, ⟨hl, h2⟩, h4⟩
/-- A row of the call's own of slices of notes. -/
theorem NVB.own {w : World} {base B : Nat} {v : Value} {vs : List Value} {ps : List (List Nt)} (h : w.ownsRow base 23 1 v vs.length vs) (hv : Vals w B vs ps) (hB : B ≤ w.heap.size) : NVV w v ps := by
  obtain ⟨A, c, rfl⟩ := own_shape h
  have h1 := row_cap h
  have h2 : w.ownsRow base 23 1 (.slice A vs.length c) vs.length (vs.flatMap fun u : Value => [u]) := by rw [vs_flat]; exact h
  exact ⟨A, c, vs, by rw [hv.len], hv.len, Lies.own (fun _ => rfl) h2, fun i hi => let ⟨u, h3, h4⟩ := hv.nb i hi; ⟨u, h3, h4.more hB⟩, by rw [← hv.len]; exact h1.1, h1.2⟩
set_option maxRecDepth 100000 in
theorem run_app_nvv (w : World) (base : Nat) (v : Value) (n : Nat) (xs : List Value) (hown : w.ownsRow base 23 1 v n xs) {A : Option Addr} {c : Nat} {B : Nat} {vs : List Value} (hA : Lies (fun u : Value => [u]) 1 w B A vs) (h0 : A = none → c = 0) (hpl : ∀ u ∈ vs, u.oneCell' = true) (hn : n + vs.length ≤ 100000) (hbase : base ≤ w.heap.size) :
    ∃ v' w', (∀ ty, (Builtin.append_ #[37, 37] ty #[v, .slice A vs.length c]).run Try.prog w = .ok v' w') ∧ w'.ownsRow base 23 1 v' (n + vs.length) (xs ++ vs) ∧ w.grownBy w' v.ownBlock ∧ (v'.ownBlock = v.ownBlock ∨ v'.ownBlock = some w.heap.size) := by
  obtain ⟨i0, hi0, hz0, hz1, hz2⟩ := info_parts nvs_info
  cases A with
  | none =>
    have hl : vs = [] := by
      cases vs with
      | nil => rfl
      | cons x l => obtain ⟨ad, e, _⟩ := hA (by simp); cases e
    subst hl
    have : c = 0 := h0 rfl
    subst this
    exact ⟨v, w, fun ty => run_append_owned_none w base 37 ty 23 i0 1 Try.underlying37 hi0 v n xs hown, by simpa using hown, ⟨rfl, rfl, rfl, Nat.le_refl _, fun _ _ _ => rfl⟩, .inl rfl⟩
  | some ad =>
    have hcells : ∀ j u, vs[j]? = some u → w.cell? (ad.add j) = some u := fun j u hu => by
      obtain ⟨hj, e⟩ := List.getElem?_eq_some_iff.1 hu
      obtain ⟨ad', e', _, hc⟩ := hA (by omega)
      injection e' with e'
      subst e'
      have h6 := hc j hj 0 u (by rw [e]; rfl)
      rwa [Addr.add_zero', Nat.mul_one] at h6
    obtain ⟨v', w', h1, h2, h3, _, h5⟩ := run_append_own_at (P := Try.prog) w base 37 0 23 i0 (.slice none 0 0) 1 24 Try.underlying37 hi0 hz0 hz1 hz2 rfl (by decide) v n xs hown ad vs.length c vs (by omega)
      hcells hpl (by unfold maxLen; omega) (by omega) hbase
    exact ⟨v', w', fun ty => h1, h2, h3, h5⟩
set_option maxRecDepth 100000 in
theorem Vals.plain {w : World} {B : Nat} {vs : List Value} {ps : List (List Nt)} (h : Vals w B vs ps) : ∀ u ∈ vs, u.oneCell' = true := by
  intro u hu
  obtain ⟨i, hi, rfl⟩ := List.getElem_of_mem hu
  obtain ⟨x, h1, h2⟩ := h.nb i (by rw [← h.len]; exact hi)
  rw [List.getElem?_eq_getElem hi] at h1
  injection h1 with h1
  obtain ⟨A, c, e, _⟩ := h2
  rw [h1, e]
  rfl

end Go.Proofs.Ytnlmdgbkfoofoaa
