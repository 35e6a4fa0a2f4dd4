/- The walk of BatchLeads. -/
import Derived.Test.YtnlmdgbkfoofoaaRB
import Derived.Test.YtnlmdgbkfoofoaaWRight
set_option linter.unusedVariables false
set_option linter.unusedSimpArgs false
namespace Go.Proofs.Ytnlmdgbkfoofoaa
open Go.RowKit

theorem ends_last (r : Rs) : ∀ (b : List Nt) (bs : List (List Nt)) (i : Nat) (h : i < (endsR r (b :: bs)).length), i = bs.length → (endsR r (b :: bs))[i] = (goR r (b :: bs)).s
  | b, [], i, h, e => by subst e; rfl
  | b, c :: bs, i, h, e => by
    subst e
    have h2 : bs.length < (endsR (runR r b) (c :: bs)).length := by rw [endsR_len]; simp
    exact ends_last (runR r b) c bs bs.length h2 rfl
theorem leads_facts {l : List Pr} {s : Int} {bs : List (List Nt)} (hw : wellL l = true) (h : outE l s bs = 0) :
    doL l (outC l s bs) = some (outP l s bs) ∧ doL (outP l s bs) (backL (outC l s bs)) = some l ∧ (applyE l bs.flatten = 0 ∧ applyL l bs.flatten = outP l s bs) ∧ trailB (outC l s bs) = true ∧
    (∀ i (h : i < (outC l s bs).length), (outC l s bs)[i].seq = s + i + 1) ∧ (outN l s bs).length = bs.length ∧ (bs ≠ [] → ∀ i, i + 1 = (outN l s bs).length → ∀ hi : i < (outN l s bs).length, (outN l s bs)[i] = s + (outC l s bs).length) ∧ (bs ≠ [] → 0 ≤ s ∧ s ≤ 2147483647) := by
  have hN : (outN l s bs).length = bs.length := by rw [(out_yes h).2.2, endsR_len]
  by_cases hb : bs = []
  · subst hb
    refine ⟨rfl, rfl, apply_yes hw rfl, ?_, fun i hi => absurd hi (by simp [(out_nil l s).2.1]), hN, fun h => absurd rfl h, fun h => absurd rfl h⟩
    exact trail_t.2 ⟨fun c hc => (by cases hc), List.Pairwise.nil⟩
  · obtain ⟨h1, h2, h3, _⟩ := out_inv hb h
    have hC := (out_yes h).1
    have hP := (out_yes h).2.1
    have hd := h1.does
    rw [← hC, ← hP] at hd
    have hn := h1.nums
    rw [← hC] at hn
    obtain ⟨a1, a2⟩ := apply_yes hw h3
    refine ⟨hd, doL_back hw hd, ⟨a1, by rw [a2, h2]⟩, trail_t.2 ⟨doL_rights hd, ?_⟩, hn, hN, fun _ i hi hi2 => ?_, fun _ => ⟨h1.low, ?_⟩⟩
    · rw [List.pairwise_iff_getElem]
      intro i j hi hj hij
      rw [hn i hi, hn j hj]; omega
    · have hsq := h1.seq
      rw [← hC] at hsq
      rw [← hsq]
      cases bs with
      | nil => exact absurd rfl hb
      | cons b bs =>
        have e := (out_yes h).2.2
        simp only [e]
        exact ends_last _ b bs i (by rw [← e]; exact hi2) (by rw [hN] at hi; simpa using hi)
    · have := h1.top
      have := h1.seq
      omega

set_option maxRecDepth 100000 in
set_option maxHeartbeats 8000000 in
theorem leads_walk (v u : Value) (s : Int) (l : List Pr) (bs : List (List Nt)) (w0 : World) (hv : PV w0 v l) (hu : NVV w0 u bs) (hm : ∀ b ∈ bs, b.length ≤ maxLen) :
    Calls Try.prog 5 #[v, .int .i64 s, u] w0 fun e w' => e = .returned (.bool true) ∧ Below w0.heap.size w0 w' := by
  obtain ⟨A, c, rfl⟩ : ∃ A c, u = .slice A bs.length c := by obtain ⟨A, c, e⟩ := NVB.shape hu; exact ⟨A, c, e⟩
  have HV0 := Lib.hid hv
  have HU0 := Lib.hid hu
  have HM := Lib.hid hm
  have HB0 := Lib.hid (Below.refl w0.heap.size w0)
  obtain ⟨n, hn⟩ : ∃ n, bs.length = n := ⟨_, rfl⟩
  rw [hn] at HU0 ⊢
  have HNL := Lib.hid hn
  clear hv hu hm hn
  go_enter Try.func5, Try.ntmps5
  go_wp2_with fail
  refine (small_v HV0.out).mono ?_
  rintro e w1 ⟨R, rfl, hR, hb⟩
  have HB1 := Lib.hid (HB0.out.trans (hb.mono HB0.out.size))
  have HV1 := Lib.hid (HV0.out.on hb)
  have HU1 := Lib.hid (HU0.out.on hb)
  clear hb HB0 HV0 HU0 
  cases R with
  | false =>
    clear hR
    go_wp2_with fail
    refine (awake_true _).mono ?_
    rintro e w2 ⟨rfl, hb⟩
    have HB2 := Lib.hid (HB1.out.trans (hb.mono HB1.out.size))
    clear hb HB1 
    go_wp2
    go_ret
    exact ⟨rfl, HB2.out⟩
  | true =>
    have HN := Lib.hid (hR rfl)
    clear hR
    by_cases h10 : n ≤ 10
    case neg =>
      have hd : decide (10 < n) = true := by simp; omega
      go_wp2_with fail
      refine (awake_true _).mono ?_
      rintro e w3 ⟨rfl, hb⟩
      have HB3 := Lib.hid (HB1.out.trans (hb.mono HB1.out.size))
      clear hb HB1 
      go_wp2
      go_ret
      exact ⟨rfl, HB3.out⟩
    have hd : decide (10 < n) = false := by simp; omega
    have HBS := Lib.hid (show bs.length ≤ 10 from by rw [HNL.out]; exact h10)
    clear hd
    go_wp2
    go_loopw [7, 33] (fun nv i wr => ∃ (k N : Nat), i = .int .i64 k ∧ k ≤ n ∧ Hid (((bs.take k).flatten).length = N ∧ N ≤ 20 * k) ∧ Hid (wr.ownsRow w1.heap.size 58 4 nv N (((bs.take k).flatten).flatMap Nt.cells)) ∧ Below w1.heap.size w1 wr) (fun _ i _ => (n - intOf i).toNat)
    case atStart => exact ⟨0, 0, rfl, by omega, (show ([] : List Nt).length = 0 ∧ 0 ≤ 20 * 0 from ⟨rfl, by omega⟩), (show World.ownsRow _ _ _ _ _ _ _ from World.ownsRow_nil _ _ _ _), Below.refl _ _⟩
    case round =>
      obtain ⟨k, N, rfl, hk, HNN, HO, hbr⟩ := hrel
      obtain ⟨NA, nc, rfl⟩ := own_shape HO.out
      have HBr := Lib.hid (HB1.out.trans (hbr.mono HB1.out.size))
      have HVr := Lib.hid (HV1.out.on hbr)
      have HUr := Lib.hid (HU1.out.on hbr)
      by_cases hlt : k < n
      · have hkl : k < bs.length := by rw [HNL.out]; exact hlt
        obtain ⟨A', c', e', hel⟩ := HUr.out.part
        injection e' with e1 e2 e3
        subst e1 e3
        obtain ⟨ad, bv, rfl, hab, hcell, hnb⟩ := hel k hkl
        have htk := takeS hkl
        obtain ⟨pk, hpk⟩ : ∃ q, bs[k]'hkl = q := ⟨_, rfl⟩
        rw [hpk] at hnb htk
        have hk1 := few_v hnb
        obtain ⟨BA, bd, rfl⟩ : ∃ A d, bv = .slice A pk.length d := by obtain ⟨A, d, e, _⟩ := hnb; exact ⟨A, d, e⟩
        obtain ⟨pn, hpn⟩ : ∃ q, pk.length = q := ⟨_, rfl⟩
        have HPN := Lib.hid hpn
        rw [hpn] at hk1 hcell hnb
        have HNB := Lib.hid hnb
        have HTK := Lib.hid (show (bs.take (k + 1)).flatten = (bs.take k).flatten ++ pk from by rw [htk]; simp)
        clear hel hnb hpn e2 htk hpk
        go_wp2_with fail
        refine hk1.mono ?_
        rintro e wq ⟨R, rfl, hR, hb⟩
        have HBq := Lib.hid (HBr.out.trans (hb.mono HBr.out.size))
        have hbq := hbr.trans (hb.mono hbr.size)
        have HOq := Lib.hid (own_on HO.out hb)
        have HNq := Lib.hid (NB.nv (B := wq.heap.size) (NV.on HNB.out hb) (Nat.le_refl _))
        clear hb hk1 hcell hbr HBr HVr HUr
        cases R with
        | false =>
          clear hR
          go_wp2_with fail
          refine (awake_true _).mono ?_
          rintro e wz ⟨rfl, hb⟩
          have HBz := Lib.hid (HBq.out.trans (hb.mono HBq.out.size))
          clear hb
          go_wp2
          go_ret
          exact ⟨rfl, HBz.out⟩
        | true =>
          have HP20 := Lib.hid (hR rfl)
          clear hR
          have hsq : w1.heap.size ≤ wq.heap.size := hbq.size
          obtain ⟨v4, wy, hr4, ho4, hg4, hat4⟩ := run_app_nv wq w1.heap.size _ N _ HOq.out HNq.out (by have := HBS.out; have := HNN.out.2; have := HP20.out; have := HPN.out; omega) hsq
          have hb4 : Below w1.heap.size w1 wy := hbq.grown hg4 hsq (fun j hj => (own_lt HOq.out hj).1)
          have HO4 := Lib.hid (show wy.ownsRow w1.heap.size 58 4 v4 (N + pk.length) (((bs.take (k + 1)).flatten).flatMap Nt.cells) from by
            rw [HTK.out, List.flatMap_append]
            exact ho4)
          have HN4 := Lib.hid (show ((bs.take (k + 1)).flatten).length = N + pk.length ∧ N + pk.length ≤ 20 * (k + 1) from by
            rw [HTK.out, List.length_append, HNN.out.1]
            have := HNN.out.2; have := HP20.out; have := HPN.out
            exact ⟨rfl, by omega⟩)
          have HB4 := Lib.hid hb4
          have hr4' : ∀ ty, (Builtin.append_ #[23, 23] ty #[.slice NA N nc, .slice BA pn bd]).run Try.prog wq = .ok v4 wy := hr4
          clear ho4 hg4 hat4 hb4 hbq hsq hr4
          go_wp2_with (at_builtin; refine Lib.wpList_append_run _ rfl _ _ _ _ rfl _ _ rfl rfl _ _ (hr4' _) ?_)
          clear hr4'
          go_wp2
          go_roundw
          case rel => exact ⟨k + 1, N + pk.length, by go_num, by omega, HN4, HO4, HB4.out⟩
          case measure => simp [intOf]; omega
      · have hkn : k = n := by omega
        have htk : bs.take k = bs := List.take_of_length_le (by rw [HNL.out]; omega)
        rw [htk] at HNN HO
        have HXr := Lib.hid (show NV wr (.slice NA N nc) bs.flatten from NV.own HO.out HNN.out.1.symm)
        have HN2 := Lib.hid (show bs.flatten.length ≤ 200 from by rw [HNN.out.1]; have := HNN.out.2; omega)
        clear hbr HO htk hkn
        have hr := all_any s HVr.out HUr.out (by have := HN.out; omega) (by have := HBS.out; omega) HM.out
        go_wp2_with fail
        refine (hr).mono ?_
        rintro e w4 ⟨cv, pv, nv, rfl, hc, hp, hi, hb⟩
        have HC4 := Lib.hid hc
        clear hc
        have HP4 := Lib.hid hp
        clear hp
        have HI4 := Lib.hid hi
        clear hi
        have HB4 := Lib.hid (HBr.out.trans (hb.mono HBr.out.size))
        have HV4 := Lib.hid (HVr.out.on hb)
        have HU4 := Lib.hid (HUr.out.on hb)
        have HX4 := Lib.hid (HXr.out.on hb)
        clear hb HBr HVr HUr HXr hr
        have hlen := out_len l s bs
        obtain ⟨CA, cc, e1⟩ : ∃ A c, cv = .slice A (outC l s bs).length c := by obtain ⟨A, c, e, _⟩ := HC4.out; exact ⟨A, c, e⟩
        obtain ⟨EA, ec, e2, hes⟩ := HI4.out.see
        obtain ⟨E, hE⟩ : ∃ q, outE l s bs = q := ⟨_, rfl⟩
        rw [hE]
        by_cases hE0 : E = 0
        case neg =>
          obtain ⟨h0, h1, h2⟩ := out_no (l := l) (s := s) (bs := bs) (by rw [hE]; exact hE0)
          rw [h0] at e1
          rw [h2] at e2
          have e1 : cv = .slice CA 0 cc := e1
          have e2 : nv = .slice EA 0 ec := e2
          subst e1 e2
          have hk1 := same_v HP4.out HV4.out (by rw [h1]; have := HN.out; unfold maxLen; omega)
          rw [h1, decide_eq_true rfl] at hk1
          clear hes
          go_wp2_with fail
          refine (hk1).mono ?_
          rintro e w5 ⟨rfl, hb⟩
          have HB5 := Lib.hid (HB4.out.trans (hb.mono HB4.out.size))
          have HV5 := Lib.hid (HV4.out.on hb)
          have HU5 := Lib.hid (HU4.out.on hb)
          have HX5 := Lib.hid (HX4.out.on hb)
          have HC5 := Lib.hid (HC4.out.on hb)
          have HP5 := Lib.hid (HP4.out.on hb)
          have HI5 := Lib.hid (HI4.out.on hb)
          clear hb HB4 HV4 HU4 HX4 HC4 HP4 HI4 hk1
          go_wp2_with fail
          refine (awake_true _).mono ?_
          rintro e w6 ⟨rfl, hb⟩
          have HB6 := Lib.hid (HB5.out.trans (hb.mono HB5.out.size))
          clear hb HB5 
          go_wp2
          go_ret
          exact ⟨rfl, HB6.out⟩
        subst hE0
        have hrw := right_v HV4.out (by have := HN.out; unfold maxLen; omega)
        obtain ⟨W, hW⟩ : ∃ W, wellL l = W := ⟨_, rfl⟩
        rw [hW] at hrw
        have hcl : (outC l s bs).length ≤ 80 := by have := HBS.out; omega
        have hpl : (outP l s bs).length ≤ 140 := by have := HBS.out; have := HN.out; omega
        obtain ⟨m, hm⟩ : ∃ q, (outC l s bs).length = q := ⟨_, rfl⟩
        rw [hm] at e1 hcl
        subst e1
        obtain ⟨p, hp'⟩ : ∃ q, (outN l s bs).length = q := ⟨_, rfl⟩
        rw [hp'] at e2
        subst e2
        have HCL := Lib.hid hm
        have HHE := Lib.hid hE
        have HES := Lib.hid (show ∀ i (hi : i < (outN l s bs).length), ∃ ad, EA = some ad from fun i hi => let ⟨ad, h, _⟩ := hes i hi; ⟨ad, h⟩)
        have HPL := Lib.hid hp'
        have HPP := Lib.hid hpl
        clear hes hE hm hp' hlen hpl
        go_wp2_with fail
        refine (hrw).mono ?_
        rintro e w7 ⟨rfl, hb⟩
        have HB7 := Lib.hid (HB4.out.trans (hb.mono HB4.out.size))
        have HV7 := Lib.hid (HV4.out.on hb)
        have HU7 := Lib.hid (HU4.out.on hb)
        have HX7 := Lib.hid (HX4.out.on hb)
        have HC7 := Lib.hid (HC4.out.on hb)
        have HP7 := Lib.hid (HP4.out.on hb)
        have HI7 := Lib.hid (HI4.out.on hb)
        clear hb HB4 HV4 HU4 HX4 HC4 HP4 HI4 hrw
        cases W with
        | false =>
          have hn0 : n = 0 := by
            rcases Nat.eq_zero_or_pos n with h | h
            · exact h
            · exfalso
              have hb0 : bs ≠ [] := fun e => by have := HNL.out; rw [e] at this; simp at this; omega
              have := (out_start hb0 HHE.out).well
              rw [hW] at this
              cases this
          have hnI : (n : Int) = 0 := by omega
          clear hW
          go_wp2_with fail
          refine (awake_true _).mono ?_
          rintro e w8 ⟨rfl, hb⟩
          have HB8 := Lib.hid (HB7.out.trans (hb.mono HB7.out.size))
          clear hb HB7 
          go_wp2
          go_ret
          exact ⟨rfl, HB8.out⟩
        | true =>
          obtain ⟨f1, f2, f3, f4, f5, f6, f7, f8⟩ := leads_facts hW HHE.out
          have HSEQ := Lib.hid f5
          have HTR := Lib.hid f4
          have HLAST := Lib.hid f7
          have HLOW := Lib.hid f8
          have hks : ∀ c ∈ outC l s bs, c.key.size ≤ maxLen := fun c hc => by have := out_keys c hc; unfold maxLen; omega
          obtain ⟨d1, d2⟩ := walk_yes hW f1
          obtain ⟨d3, d4⟩ := walk_yes (doL_well hW f1) f2
          obtain ⟨d5, d6⟩ := f3
          have hdo := do_v HV7.out HC7.out (by have := HN.out; omega) (by rw [HCL.out]; omega) hks
          rw [d1, d2] at hdo
          have HUN := Lib.hid (fun (wx : World) (hx : Below w7.heap.size w7 wx) => undo_v (HP7.out.on hx) (HC7.out.on hx) (by have := HPP.out; omega) (by rw [HCL.out]; omega) hks)
          have HD34 := Lib.hid (And.intro d3 d4)
          have HAP := Lib.hid (And.intro d5 d6)
          have HEN := Lib.hid f6
          clear f1 f2 f4 f5 f6 f7 f8 hks d1 d2 d3 d4 d5 d6 hW
          go_wp2_with fail
          refine (hdo).mono ?_
          rintro e w9 ⟨rv, rfl, hp, hb⟩
          have HR9 := Lib.hid hp
          clear hp
          have HB9 := Lib.hid (HB7.out.trans (hb.mono HB7.out.size))
          have HV9 := Lib.hid (HV7.out.on hb)
          have HU9 := Lib.hid (HU7.out.on hb)
          have HX9 := Lib.hid (HX7.out.on hb)
          have HC9 := Lib.hid (HC7.out.on hb)
          have HP9 := Lib.hid (HP7.out.on hb)
          have HI9 := Lib.hid (HI7.out.on hb)
          clear hb HB7 HV7 HU7 HX7 HC7 HP7 HI7 hdo
          have hun := undo_v HP9.out HC9.out (by have := HPP.out; omega) (by rw [HCL.out]; omega) (fun c hc => by have := out_keys c hc; unfold maxLen; omega)
          rw [HD34.out.1, HD34.out.2] at hun
          clear HUN
          go_wp2_with fail
          refine (hun).mono ?_
          rintro e w10 ⟨uv, rfl, hp, hb⟩
          have HQ10 := Lib.hid hp
          clear hp
          have HB10 := Lib.hid (HB9.out.trans (hb.mono HB9.out.size))
          have HV10 := Lib.hid (HV9.out.on hb)
          have HU10 := Lib.hid (HU9.out.on hb)
          have HX10 := Lib.hid (HX9.out.on hb)
          have HC10 := Lib.hid (HC9.out.on hb)
          have HP10 := Lib.hid (HP9.out.on hb)
          have HI10 := Lib.hid (HI9.out.on hb)
          have HR10 := Lib.hid (HR9.out.on hb)
          clear hb HB9 HV9 HU9 HX9 HC9 HP9 HI9 HR9 hun
          have hap := apply_v HV10.out HX10.out (by have := HN.out; have := HN2.out; omega)
          rw [HAP.out.1, HAP.out.2] at hap
          go_wp2_with fail
          refine (hap).mono ?_
          rintro e w11 ⟨av, rfl, hp, hb⟩
          have HS11 := Lib.hid hp
          clear hp
          have HB11 := Lib.hid (HB10.out.trans (hb.mono HB10.out.size))
          have HV11 := Lib.hid (HV10.out.on hb)
          have HU11 := Lib.hid (HU10.out.on hb)
          have HX11 := Lib.hid (HX10.out.on hb)
          have HC11 := Lib.hid (HC10.out.on hb)
          have HP11 := Lib.hid (HP10.out.on hb)
          have HI11 := Lib.hid (HI10.out.on hb)
          have HR11 := Lib.hid (HR10.out.on hb)
          have HQ11 := Lib.hid (HQ10.out.on hb)
          clear hb HB10 HV10 HU10 HX10 HC10 HP10 HI10 HR10 HQ10 hap
          go_wp2
          go_loopw [99] (fun i wr => ∃ (k : Nat), i = .int .i64 k ∧ k ≤ m ∧ Below w11.heap.size w11 wr) (fun i _ => (m - intOf i).toNat)
          case atStart => exact ⟨0, rfl, by omega, Below.refl _ _⟩
          case round =>
            obtain ⟨k, rfl, hk, hbr⟩ := hrel
            have hbs := hbr.size
            by_cases hlt : k < m
            · have hkl : k < (outC l s bs).length := by rw [HCL.out]; exact hlt
              obtain ⟨CB, cb, eC, hcC, _⟩ := HC11.out.on hbr
              injection eC with eC1 eC2 eC3
              subst eC1 eC3
              obtain ⟨ad, rfl, hab, hca⟩ := hcC.seeC (by omega)
              obtain ⟨c0, c1, c2', c3, c4', c5⟩ := hca k hkl
              have hsq := HSEQ.out k hkl
              obtain ⟨hl0, hl1⟩ := HLOW.out (fun e => by rw [e, (out_nil l s).2.1] at hkl; exact absurd hkl (by simp))
              rw [hsq] at c0
              obtain ⟨x, hx⟩ : ∃ x, x = (outC l s bs)[k]'hkl := ⟨_, rfl⟩
              rw [← hx] at c1 c2' c3 c4' c5
              clear hx hca hcC eC2 hsq
              obtain ⟨xs, xk, xh, xb, xg, xa⟩ := x
              simp only at c1 c2' c3 c4' c5
              have hwr1 : IntKind.i64.wrap (s + (k : Int)) = s + (k : Int) := IntWalk.i64_in _ (by omega)
              have hwr2 : IntKind.i64.wrap (s + (k : Int) + 1) = s + (k : Int) + 1 := IntWalk.i64_in _ (by omega)
              have HBZ := Lib.hid (fun (o : Obj) => hbr.alloc hbs o)
              clear hbr
              go_wp2
              go_roundw
              case rel => exact ⟨k + 1, by go_num, by omega, HBZ.out _⟩
              case measure => simp [intOf]; omega
            · have hrr := hbr
              clear hbs hbr
              have HBZ := Lib.hid (HB11.out.trans (hrr.mono HB11.out.size))
              have HVZ := Lib.hid (HV11.out.on hrr)
              have HUZ := Lib.hid (HU11.out.on hrr)
              have HXZ := Lib.hid (HX11.out.on hrr)
              have HCZ := Lib.hid (HC11.out.on hrr)
              have HPZ := Lib.hid (HP11.out.on hrr)
              have HIZ := Lib.hid (HI11.out.on hrr)
              have HRZ := Lib.hid (HR11.out.on hrr)
              have HQZ := Lib.hid (HQ11.out.on hrr)
              have HSZ := Lib.hid (HS11.out.on hrr)
              clear hrr
              have hk1 := same_v HRZ.out HPZ.out (by have := HPP.out; unfold maxLen; omega)
              rw [decide_eq_true rfl] at hk1
              go_wp2_with fail
              refine (hk1).mono ?_
              rintro e w12 ⟨rfl, hb⟩
              have HB12 := Lib.hid (HBZ.out.trans (hb.mono HBZ.out.size))
              have HV12 := Lib.hid (HVZ.out.on hb)
              have HU12 := Lib.hid (HUZ.out.on hb)
              have HX12 := Lib.hid (HXZ.out.on hb)
              have HC12 := Lib.hid (HCZ.out.on hb)
              have HP12 := Lib.hid (HPZ.out.on hb)
              have HI12 := Lib.hid (HIZ.out.on hb)
              have HR12 := Lib.hid (HRZ.out.on hb)
              have HQ12 := Lib.hid (HQZ.out.on hb)
              have HS12 := Lib.hid (HSZ.out.on hb)
              clear hb HBZ HVZ HUZ HXZ HCZ HPZ HIZ HRZ HQZ HSZ hk1
              have hk1 := same_v HQ12.out HV12.out (by have := HN.out; unfold maxLen; omega)
              rw [decide_eq_true rfl] at hk1
              go_wp2_with fail
              refine (hk1).mono ?_
              rintro e w13 ⟨rfl, hb⟩
              have HB13 := Lib.hid (HB12.out.trans (hb.mono HB12.out.size))
              have HV13 := Lib.hid (HV12.out.on hb)
              have HU13 := Lib.hid (HU12.out.on hb)
              have HX13 := Lib.hid (HX12.out.on hb)
              have HC13 := Lib.hid (HC12.out.on hb)
              have HP13 := Lib.hid (HP12.out.on hb)
              have HI13 := Lib.hid (HI12.out.on hb)
              have HR13 := Lib.hid (HR12.out.on hb)
              have HQ13 := Lib.hid (HQ12.out.on hb)
              have HS13 := Lib.hid (HS12.out.on hb)
              clear hb HB12 HV12 HU12 HX12 HC12 HP12 HI12 HR12 HQ12 HS12 hk1
              have hk1 := same_v HS13.out HP13.out (by have := HPP.out; unfold maxLen; omega)
              rw [decide_eq_true rfl] at hk1
              go_wp2_with fail
              refine (hk1).mono ?_
              rintro e w14 ⟨rfl, hb⟩
              have HB14 := Lib.hid (HB13.out.trans (hb.mono HB13.out.size))
              have HV14 := Lib.hid (HV13.out.on hb)
              have HU14 := Lib.hid (HU13.out.on hb)
              have HX14 := Lib.hid (HX13.out.on hb)
              have HC14 := Lib.hid (HC13.out.on hb)
              have HP14 := Lib.hid (HP13.out.on hb)
              have HI14 := Lib.hid (HI13.out.on hb)
              have HR14 := Lib.hid (HR13.out.on hb)
              have HQ14 := Lib.hid (HQ13.out.on hb)
              have HS14 := Lib.hid (HS13.out.on hb)
              clear hb HB13 HV13 HU13 HX13 HC13 HP13 HI13 HR13 HQ13 HS13 hk1
              have hk1 := tright_v HC14.out (by rw [HCL.out]; unfold maxLen; omega)
              rw [HTR.out] at hk1
              have hpn : p = n := by rw [← HPL.out, HEN.out, HNL.out]
              subst hpn
              by_cases hp0 : p = 0
              case pos =>
                have hp0I : (p : Int) = 0 := by omega
                go_wp2_with fail
                refine (hk1).mono ?_
                rintro e w15 ⟨rfl, hb⟩
                have HB15 := Lib.hid (HB14.out.trans (hb.mono HB14.out.size))
                have HV15 := Lib.hid (HV14.out.on hb)
                have HU15 := Lib.hid (HU14.out.on hb)
                have HX15 := Lib.hid (HX14.out.on hb)
                have HC15 := Lib.hid (HC14.out.on hb)
                have HP15 := Lib.hid (HP14.out.on hb)
                have HI15 := Lib.hid (HI14.out.on hb)
                have HR15 := Lib.hid (HR14.out.on hb)
                have HQ15 := Lib.hid (HQ14.out.on hb)
                have HS15 := Lib.hid (HS14.out.on hb)
                clear hb HB14 HV14 HU14 HX14 HC14 HP14 HI14 HR14 HQ14 HS14 hk1
                go_wp2_with fail
                refine (awake_true _).mono ?_
                rintro e w16 ⟨rfl, hb⟩
                have HB16 := Lib.hid (HB15.out.trans (hb.mono HB15.out.size))
                clear hb HB15 
                go_wp2
                go_ret
                exact ⟨rfl, HB16.out⟩
              go_wp2_with fail
              refine (hk1).mono ?_
              rintro e w17 ⟨rfl, hb⟩
              have HB17 := Lib.hid (HB14.out.trans (hb.mono HB14.out.size))
              have HV17 := Lib.hid (HV14.out.on hb)
              have HU17 := Lib.hid (HU14.out.on hb)
              have HX17 := Lib.hid (HX14.out.on hb)
              have HC17 := Lib.hid (HC14.out.on hb)
              have HP17 := Lib.hid (HP14.out.on hb)
              have HI17 := Lib.hid (HI14.out.on hb)
              have HR17 := Lib.hid (HR14.out.on hb)
              have HQ17 := Lib.hid (HQ14.out.on hb)
              have HS17 := Lib.hid (HS14.out.on hb)
              clear hb HB14 HV14 HU14 HX14 HC14 HP14 HI14 HR14 HQ14 HS14 hk1
              have hpl : p - 1 < (outN l s bs).length := by rw [HPL.out]; omega
              obtain ⟨EB, eb, eE, hee⟩ := HI17.out.see
              injection eE with eE1 eE2 eE3
              subst eE1 eE3
              obtain ⟨ad, rfl, hab, hcell⟩ := hee (p - 1) hpl
              have hlast := HLAST.out (fun e => by have := HNL.out; rw [e] at this; simp at this; omega) (p - 1) (by rw [HPL.out]; omega) hpl
              rw [hlast, HCL.out] at hcell
              obtain ⟨hl0, hl1⟩ := HLOW.out (fun e => by have := HNL.out; rw [e] at this; simp at this; omega)
              have hwr1 : IntKind.i64.wrap (s + (m : Int)) = s + (m : Int) := IntWalk.i64_in _ (by omega)
              have hpI : ¬ (p : Int) = 0 := by omega
              have hp20 : p ≤ 10 := by have := HBS.out; have := HNL.out; omega
              have hpj : (p : Int) - 1 = ((p - 1 : Nat) : Int) := by omega
              clear hee eE2 hlast hpl
              go_wp2_with fail
              refine (awake_true _).mono ?_
              rintro e w18 ⟨rfl, hb⟩
              have HB18 := Lib.hid (HB17.out.trans (hb.mono HB17.out.size))
              clear hb HB17 
              go_wp2
              go_ret
              exact ⟨rfl, HB18.out⟩

end Go.Proofs.Ytnlmdgbkfoofoaa
