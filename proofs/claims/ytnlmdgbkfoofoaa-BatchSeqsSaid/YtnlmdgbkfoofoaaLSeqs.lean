/- The walk of BatchSeqs. -/
import Derived.Test.YtnlmdgbkfoofoaaRB
import Derived.Test.YtnlmdgbkfoofoaaLTells
set_option linter.unusedVariables false
set_option linter.unusedSimpArgs false
namespace Go.Proofs.Ytnlmdgbkfoofoaa
open Go.RowKit

theorem keys_sub (r : Rs) (ns : List Nt) : ∃ K : List ByteArray, (runR r ns).C.map Ch.key = r.C.map Ch.key ++ K ∧ K.Sublist (ns.map Nt.key) := by
  induction ns generalizing r with
  | nil => exact ⟨[], by simp [runR], List.Sublist.refl _⟩
  | cons n ns ih =>
    obtain ⟨K, h1, h2⟩ := ih (stepR r n)
    have h1 : (runR r (n :: ns)).C.map Ch.key = (stepR r n).C.map Ch.key ++ K := h1
    rw [h1]
    by_cases e : ofE r.p (r.s + 1) n = 0
    · have hk : (ofA r.p (r.s + 1) n).key = n.key := by unfold ofA; rw [if_pos e]; rfl
      refine ⟨n.key :: K, ?_, h2.cons_cons _⟩
      unfold stepR
      rw [if_pos e]
      show (r.C ++ [ofA r.p (r.s + 1) n]).map Ch.key ++ K = _
      rw [List.map_append, List.append_assoc]
      show r.C.map Ch.key ++ ([(ofA r.p (r.s + 1) n).key] ++ K) = _
      rw [hk]; rfl
    · refine ⟨K, ?_, h2.cons _⟩
      unfold stepR
      rw [if_neg e]
theorem seqs_low {l : List Pr} {s : Int} {ns : List Nt} (h : runE l s ns = 0) : 0 ≤ s ∧ s ≤ 2147483647 := by
  obtain ⟨_, _, _, h4, h5⟩ := runE_ok h
  exact ⟨h4, by omega⟩
theorem seqs_facts {l : List Pr} {s : Int} {ns : List Nt} (h : runE l s ns = 0) : ((oneC l s ns).map Ch.key).Sublist (ns.map Nt.key) ∧ (∀ i (h : i < (oneC l s ns).length), (oneC l s ns)[i].seq = s + i + 1) ∧ (oneC l s ns).length ≤ ns.length := by
  obtain ⟨h1, _, h3, h4, h5⟩ := runE_ok h
  have hC : oneC l s ns = (runR (rs0 l s) ns).C := by unfold oneC; rw [if_pos h]
  have hri := (run_inv (RInv.start h1 h4 (by omega)) h3 (by show s + _ ≤ _; omega)).1
  obtain ⟨K, k1, k2⟩ := keys_sub (rs0 l s) ns
  rw [hC]
  have k3 : (runR (rs0 l s) ns).C.map Ch.key = K := k1
  refine ⟨by rw [k3]; exact k2, hri.nums, ?_⟩
  have := k2.length_le
  rw [← k3, List.length_map, List.length_map] at this
  exact this

set_option maxRecDepth 100000 in
set_option maxHeartbeats 4000000 in
theorem seqs_walk (v u : Value) (s : Int) (l : List Pr) (ns : List Nt) (w0 : World) (hv : PV w0 v l) (hu : NV w0 u ns) (hm : ns.length ≤ maxLen) :
    Calls Try.prog 8 #[v, .int .i64 s, u] w0 fun e w' => e = .returned (.bool true) ∧ Below w0.heap.size w0 w' := by
  have HV0 := Lib.hid hv
  have HU0 := Lib.hid hu
  have HM := Lib.hid hm
  have HB0 := Lib.hid (Below.refl w0.heap.size w0)
  clear hv hu hm
  go_enter Try.func8, Try.ntmps8
  go_wp2_with fail
  refine (small_v HV0.out).mono ?_
  rintro e w1 ⟨R, rfl, hR, hb⟩
  have HB1 := Lib.hid (HB0.out.trans (hb.mono HB0.out.size))
  have HV1 := Lib.hid (HV0.out.on hb)
  have HU1 := Lib.hid (HU0.out.on hb)
  clear hb HB0 HV0 HU0 
  cases R with
  | false =>
    clear hR
    go_wp2_with fail
    refine (awake_true _).mono ?_
    rintro e w2 ⟨rfl, hb⟩
    have HB2 := Lib.hid (HB1.out.trans (hb.mono HB1.out.size))
    clear hb HB1 
    go_wp2
    go_ret
    exact ⟨rfl, HB2.out⟩
  | true =>
    have HN := Lib.hid (hR rfl)
    clear hR
    go_wp2_with fail
    refine (few_v HU1.out).mono ?_
    rintro e w3 ⟨R, rfl, hR, hb⟩
    have HB3 := Lib.hid (HB1.out.trans (hb.mono HB1.out.size))
    have HV3 := Lib.hid (HV1.out.on hb)
    have HU3 := Lib.hid (HU1.out.on hb)
    clear hb HB1 HV1 HU1 
    cases R with
    | false =>
      clear hR
      go_wp2_with fail
      refine (awake_true _).mono ?_
      rintro e w4 ⟨rfl, hb⟩
      have HB4 := Lib.hid (HB3.out.trans (hb.mono HB3.out.size))
      clear hb HB3 
      go_wp2
      go_ret
      exact ⟨rfl, HB4.out⟩
    | true =>
      have HNS := Lib.hid (hR rfl)
      clear hR
      have hr := run_any s HV3.out HU3.out (by have := HN.out; omega) HM.out
      rw [(out_one l s ns).1, (out_one l s ns).2.1, (out_one l s ns).2.2] at hr
      go_wp2_with fail
      refine (hr).mono ?_
      rintro e w5 ⟨cv, pv, rfl, hc, hp, hb⟩
      have HC5 := Lib.hid hc
      clear hc
      have HP5 := Lib.hid hp
      clear hp
      have HB5 := Lib.hid (HB3.out.trans (hb.mono HB3.out.size))
      have HV5 := Lib.hid (HV3.out.on hb)
      have HU5 := Lib.hid (HU3.out.on hb)
      clear hb HB3 HV3 HU3 hr
      obtain ⟨A, c, e0⟩ : ∃ A c, u = .slice A ns.length c := by obtain ⟨A, c, e, _⟩ := HU5.out; exact ⟨A, c, e⟩
      obtain ⟨CA, cc, e1⟩ : ∃ A c, cv = .slice A (oneC l s ns).length c := by obtain ⟨A, c, e, _⟩ := HC5.out; exact ⟨A, c, e⟩
      obtain ⟨n, hn⟩ : ∃ q, ns.length = q := ⟨_, rfl⟩
      rw [hn] at e0
      subst e0
      have HNL := Lib.hid hn
      clear hn
      obtain ⟨E, hE⟩ : ∃ q, runE l s ns = q := ⟨_, rfl⟩
      rw [hE]
      by_cases hE0 : E = 0
      case neg =>
        have h0 : oneC l s ns = [] ∧ oneP l s ns = l := by
          unfold oneC oneP
          rw [hE, if_neg hE0, if_neg hE0]
          exact ⟨rfl, rfl⟩
        rw [h0.1] at e1
        have e1 : cv = .slice CA 0 cc := e1
        subst e1
        have hk1 := same_v HP5.out HV5.out (by rw [h0.2]; have := HN.out; unfold maxLen; omega)
        rw [h0.2, decide_eq_true rfl] at hk1
        go_wp2_with fail
        refine (hk1).mono ?_
        rintro e w6 ⟨rfl, hb⟩
        have HB6 := Lib.hid (HB5.out.trans (hb.mono HB5.out.size))
        have HV6 := Lib.hid (HV5.out.on hb)
        have HU6 := Lib.hid (HU5.out.on hb)
        have HC6 := Lib.hid (HC5.out.on hb)
        have HP6 := Lib.hid (HP5.out.on hb)
        clear hb HB5 HV5 HU5 HC5 HP5 hk1
        go_wp2_with fail
        refine (awake_true _).mono ?_
        rintro e w7 ⟨rfl, hb⟩
        have HB7 := Lib.hid (HB6.out.trans (hb.mono HB6.out.size))
        clear hb HB6 
        go_wp2
        go_ret
        exact ⟨rfl, HB7.out⟩
      subst hE0
      obtain ⟨s1, s2, s3⟩ := seqs_facts hE
      obtain ⟨h0, h1⟩ := seqs_low hE
      obtain ⟨C, hC⟩ : ∃ q, oneC l s ns = q := ⟨_, rfl⟩
      obtain ⟨m, hm⟩ : ∃ q, C.length = q := ⟨_, rfl⟩
      rw [hC] at HC5 e1 s1 s2 s3
      rw [hm] at e1 s3
      subst e1
      have HS1 := Lib.hid s1
      have HS2 := Lib.hid s2
      have HCL := Lib.hid hm
      have hmn : m ≤ n := by rw [← HNL.out]; exact s3
      have hn20 : n ≤ 20 := by rw [← HNL.out]; exact HNS.out
      clear s1 s2 s3 hE hC hm
      go_wp2
      go_loopw [10, 45] (fun av i wr => ∃ (k a : Nat), i = .int .i64 k ∧ av = .int .i64 a ∧ k ≤ m ∧ a ≤ n ∧ Hid (((C.drop k).map Ch.key).Sublist ((ns.drop a).map Nt.key)) ∧ Below w5.heap.size w5 wr) (fun _ i _ => (m - intOf i).toNat)
      case atStart => exact ⟨0, 0, rfl, rfl, by omega, by omega, HS1, Below.refl _ _⟩
      case round =>
        obtain ⟨k, a, rfl, rfl, hk, ha, HSB, hbr⟩ := hrel
        have hbs := hbr.size
        by_cases hlt : k < m
        · have hkl : k < C.length := by rw [HCL.out]; exact hlt
          obtain ⟨CB, cb, eC, hcC, _⟩ := HC5.out.on hbr
          injection eC with eC1 eC2 eC3
          subst eC1 eC3
          obtain ⟨ad, rfl, hab, hca⟩ := hcC.seeC (by omega)
          obtain ⟨c0, c1, c2', c3, c4', c5⟩ := hca k hkl
          have hsq := HS2.out k hkl
          have HDR := Lib.hid (show C.drop k = C[k]'hkl :: C.drop (k + 1) from List.drop_eq_getElem_cons hkl)
          obtain ⟨x, hx⟩ : ∃ x, x = C[k]'hkl := ⟨_, rfl⟩
          rw [← hx] at c0 c1 c2' c3 c4' c5 hsq HDR
          clear hx hca hcC eC2
          obtain ⟨xs, xk, xh, xb, xg, xa⟩ := x
          simp only at c0 c1 c2' c3 c4' c5 hsq
          have HSQ := Lib.hid hsq
          clear hsq
          go_upto_region 10 with fail
          obtain ⟨gx, hgx⟩ : ∃ gx, gx = wr.heap.size := ⟨_, rfl⟩
          obtain ⟨wz, hwz⟩ : ∃ wz, wz = wr.alloc (.cells #[.int .i64 xs, .string xk, .bool xh, .string xb, .bool xg, .string xa] 49) := ⟨_, rfl⟩
          rw [← hgx, ← hwz]
          have hbx : Box wz gx 49 #[.int .i64 xs, .string xk, .bool xh, .string xb, .bool xg, .string xa] := by rw [hwz]; exact Box.at_ wr _ _ hgx
          have hbz : Below w5.heap.size w5 wz := by rw [hwz]; exact hbr.alloc hbs _
          have HBX := Lib.hid hbx
          have HBZ := Lib.hid hbz
          have HNA := Lib.hid (show ∀ wi, Below wz.heap.size wz wi → ∀ a' (h : a' < ns.length), ∃ ad, A = some ad ∧ ad.block < wz.heap.size ∧ wi.cell? ⟨(ad.add (a' * 4)).block, (ad.add (a' * 4)).off + 1, none⟩ = some (.string (ns[a']'h).key) from fun wi hi a' h => by
            obtain ⟨A', c', e', hA', _⟩ := HU5.out.on hbz
            injection e' with e1 e2 e3
            subst e1
            obtain ⟨ad, e4, hb4, hcs⟩ := hA'.seeN (by omega)
            refine ⟨ad, e4, hb4, ?_⟩
            exact (hi.cell (p := ⟨(ad.add (a' * 4)).block, (ad.add (a' * 4)).off + 1, none⟩) (by rw [block_of_add]; exact hb4)).trans (hcs a' h).2.1)
          have HSB0 := Lib.hid (show ((xk :: (C.drop (k + 1)).map Ch.key)).Sublist ((ns.drop a).map Nt.key) from by have := HSB.out; rw [HDR.out] at this; exact this)
          clear hbx hbz hgx hwz c0 c1 c2' c3 c4' c5 hab hbr HSB hbs
          go_loopw [10] (fun av wi => ∃ (a' : Nat), av = .int .i64 a' ∧ a' ≤ n ∧ Hid ((xk :: (C.drop (k + 1)).map Ch.key).Sublist ((ns.drop a').map Nt.key)) ∧ Below wz.heap.size wz wi) (fun av _ => (n - intOf av).toNat)
          case atStart => exact ⟨a, rfl, ha, HSB0, Below.refl _ _⟩
          case round =>
            obtain ⟨a', rfl, ha', HSC, hbi⟩ := hrel
            have han : a' < n := by
              rcases Nat.lt_or_ge a' n with h | h
              · exact h
              · exfalso
                have := HSC.out
                have hnil : ns.drop a' = [] := List.drop_eq_nil_of_le (by rw [HNL.out]; exact h)
                rw [hnil] at this
                exact absurd this (by simp)
            have hal : a' < ns.length := by rw [HNL.out]; exact han
            obtain ⟨ad2, rfl, hb2, hky⟩ := HNA.out wr hbi a' hal
            have hdr := List.drop_eq_getElem_cons hal
            obtain ⟨yk, hyk⟩ : ∃ y, y = (ns[a']'hal).key := ⟨_, rfl⟩
            rw [← hyk] at hky
            have HDA := Lib.hid (show (ns.drop a').map Nt.key = yk :: (ns.drop (a' + 1)).map Nt.key from by rw [hdr, List.map_cons, ← hyk])
            have q1 := (HBX.out.on hbi).cell 1 rfl
            have hd : decide (a' < n) = true := decide_eq_true han
            have hbis := hbi.size
            clear hdr hyk
            by_cases hne : yk = xk
            · have he : (yk.toList == xk.toList) = true := str_eq hne
              have HSD := Lib.hid (show ((C.drop (k + 1)).map Ch.key).Sublist ((ns.drop (a' + 1)).map Nt.key) from by
                have := HSC.out
                rw [HDA.out, hne] at this
                exact List.cons_sublist_cons.1 this)
              have hwr1 : IntKind.i64.wrap (s + (k : Int)) = s + (k : Int) := IntWalk.i64_in _ (by omega)
              have hwr2 : IntKind.i64.wrap (s + (k : Int) + 1) = s + (k : Int) + 1 := IntWalk.i64_in _ (by omega)
              clear hne
              go_wp2
              go_quiet (fail)
              have q0 := (HBX.out.on (show Below wz.heap.size wz (wr.drewN nq) from below_drewN hbi nq)).cell 0 rfl
              rw [HSQ.out] at q0
              have hnn : ¬ (a' : Int) = (n : Int) := by omega
              have hBW := Lib.hid (HBZ.out.trans ((below_drewN hbi nq).mono HBZ.out.size))
              clear hbi
              go_wp2
              go_roundw
              case rel => exact ⟨k + 1, a' + 1, by go_num, by go_num, by omega, by omega, HSD, hBW.out⟩
              case measure => simp [intOf]; omega
            · have he : (yk.toList == xk.toList) = false := str_ne hne
              have HSD := Lib.hid (show ((xk :: (C.drop (k + 1)).map Ch.key)).Sublist ((ns.drop (a' + 1)).map Nt.key) from by
                have := HSC.out
                rw [HDA.out] at this
                cases this with
                | cons _ h => exact h
                | cons_cons _ h => exact absurd rfl hne)
              clear hne
              go_wp2
              go_quiet (fail)
              have hbq : Below wz.heap.size wz (wr.drewN nq) := below_drewN hbi nq
              clear hbi
              go_wp2
              go_roundw
              case rel => exact ⟨a' + 1, by go_num, by omega, HSD, hbq⟩
              case measure => simp [intOf]; omega
        · have hd : decide (m ≤ n) = true := decide_eq_true hmn
          have HBr := Lib.hid (HB5.out.trans (hbr.mono HB5.out.size))
          clear hbr HSB
          go_wp2_with fail
          refine (awake_true _).mono ?_
          rintro e w8 ⟨rfl, hb⟩
          have HB8 := Lib.hid (HBr.out.trans (hb.mono HBr.out.size))
          clear hb HBr 
          go_wp2
          go_ret
          exact ⟨rfl, HB8.out⟩

end Go.Proofs.Ytnlmdgbkfoofoaa
