/- The walk of BatchNone. -/
import Derived.Test.YtnlmdgbkfoofoaaRB
set_option linter.unusedVariables false
set_option linter.unusedSimpArgs false
namespace Go.Proofs.Ytnlmdgbkfoofoaa
open Go.RowKit

def delN (k : ByteArray) : Nt := ⟨2, k, noB, 0⟩
theorem del_right {k : ByteArray} (h : k.size ≤ 16) : rightN (delN k) = true := (rightN_iff _).2 ⟨h, .inr (.inl ⟨rfl, rfl, rfl⟩)⟩
theorem del_three {l : List Pr} {s : Int} {k : ByteArray} (hw : wellL l = true) (hg : getL l k = none) (hk : k.size ≤ 16) (h1 : 1 ≤ s) (h2 : s ≤ 2147483647) : ofE l s (delN k) = 3 := by
  have h3 : ofOk l s (delN k) = true := by unfold ofOk; rw [hw, del_right hk, decide_eq_true h1, decide_eq_true h2]; rfl
  unfold ofE
  rw [if_pos h3]
  have h4 : (!(ofC l s (delN k)).had && !(ofC l s (delN k)).has) = true := by
    unfold ofC
    show (!(hasOf (getL l k)).2 && !(hasOf (stepsO (getL l k) [delN k])).2) = true
    rw [hg, steps_del rfl]
    rfl
  rw [if_pos h4]
theorem none_fold {l : List Pr} {s : Int} (hw : wellL l = true) (h0 : 0 ≤ s) (h1 : s ≤ 65535) : ∀ {ks : List ByteArray}, (∀ x ∈ ks, getL l x = none ∧ x.size ≤ 16) → runR (rs0 l s) (ks.map delN) = rs0 l s ∧ (ks.map delN).all rightN = true
  | [], _ => ⟨rfl, rfl⟩
  | k :: ks, h => by
    obtain ⟨h2, h3⟩ := h k List.mem_cons_self
    obtain ⟨h4, h5⟩ := none_fold hw h0 h1 fun x hx => h x (List.mem_cons_of_mem _ hx)
    refine ⟨?_, by rw [List.map_cons, List.all_cons, del_right h3, h5]; rfl⟩
    show runR (stepR (rs0 l s) (delN k)) (ks.map delN) = _
    have : stepR (rs0 l s) (delN k) = rs0 l s := by
      unfold stepR
      rw [if_neg]
      show ¬ ofE l (s + 1) (delN k) = 0
      rw [del_three hw h2 h3 (by omega) (by omega)]
      decide
    rw [this, h4]
theorem none_run {l : List Pr} {s : Int} {ks : List ByteArray} (hw : wellL l = true) (h8 : ks.length ≤ 8) (h : ∀ x ∈ ks, getL l x = none ∧ x.size ≤ 16) (h0 : 0 ≤ s) (h1 : s ≤ 65535) :
    runE l s (ks.map delN) = 0 ∧ oneC l s (ks.map delN) = [] ∧ oneP l s (ks.map delN) = l := by
  obtain ⟨h2, h3⟩ := none_fold hw h0 h1 h
  have hE : runE l s (ks.map delN) = 0 := by
    rw [runE_is hw h0 (by omega), if_pos (batchB_iff.2 ⟨by rw [List.length_map]; exact h8, h3⟩), if_neg (by rw [List.length_map]; omega)]
  unfold oneC oneP
  rw [hE, if_pos rfl, if_pos rfl, h2]
  exact ⟨rfl, rfl, rfl⟩

set_option maxRecDepth 100000 in
set_option maxHeartbeats 4000000 in
theorem none_walk (v : Value) (A : Option Addr) (c sq : Nat) (l : List Pr) (ks : List ByteArray) (w0 : World) (hv : PV w0 v l) (hs : Strs w0 w0.heap.size A ks) (hz : ∀ x ∈ ks, x.size ≤ maxLen) (hsq : sq ≤ 65535) :
    Calls Try.prog 7 #[v, .int .u16 sq, .slice A ks.length c] w0 fun e w' => e = .returned (.bool true) ∧ Below w0.heap.size w0 w' := by
  have HV0 := Lib.hid hv
  have HS := Lib.hid hs
  have HSZ := Lib.hid hz
  have HB0 := Lib.hid (Below.refl w0.heap.size w0)
  obtain ⟨n, hn⟩ : ∃ n, ks.length = n := ⟨_, rfl⟩
  rw [hn]
  have HNL := Lib.hid hn
  clear hv hs hz hn
  go_enter Try.func7, Try.ntmps7
  go_wp2_with fail
  refine (small_v HV0.out).mono ?_
  rintro e w1 ⟨R, rfl, hR, hb⟩
  have HB1 := Lib.hid (HB0.out.trans (hb.mono HB0.out.size))
  have HV1 := Lib.hid (HV0.out.on hb)
  clear hb HB0 HV0 
  cases R with
  | false =>
    clear hR
    go_wp2_with fail
    refine (awake_true _).mono ?_
    rintro e w2 ⟨rfl, hb⟩
    have HB2 := Lib.hid (HB1.out.trans (hb.mono HB1.out.size))
    clear hb HB1 
    go_wp2
    go_ret
    exact ⟨rfl, HB2.out⟩
  | true =>
    have HN := Lib.hid (hR rfl)
    clear hR
    by_cases h8 : n ≤ 8
    case neg =>
      have hd : decide (8 < n) = true := by simp; omega
      go_wp2_with fail
      refine (awake_true _).mono ?_
      rintro e w3 ⟨rfl, hb⟩
      have HB3 := Lib.hid (HB1.out.trans (hb.mono HB1.out.size))
      clear hb HB1 
      go_wp2
      go_ret
      exact ⟨rfl, HB3.out⟩
    have hd : decide (8 < n) = false := by simp; omega
    have HBS := Lib.hid (show ks.length ≤ 8 from by rw [HNL.out]; exact h8)
    obtain ⟨W, hW⟩ : ∃ W, wellL l = W := ⟨_, rfl⟩
    have hk := right_v HV1.out (by have := HN.out; unfold maxLen; omega)
    rw [hW] at hk
    go_wp2_with fail
    refine (hk).mono ?_
    rintro e w4 ⟨rfl, hb⟩
    have HB4 := Lib.hid (HB1.out.trans (hb.mono HB1.out.size))
    have HV4 := Lib.hid (HV1.out.on hb)
    clear hb HB1 HV1 hk hd
    cases W with
    | false =>
      go_wp2_with fail
      refine (awake_true _).mono ?_
      rintro e w5 ⟨rfl, hb⟩
      have HB5 := Lib.hid (HB4.out.trans (hb.mono HB4.out.size))
      clear hb HB4 
      go_wp2
      go_ret
      exact ⟨rfl, HB5.out⟩
    | true =>
      have HW := Lib.hid hW
      clear hW
      go_wp2
      go_loopw [7, 31] (fun nv i wr => ∃ (k : Nat), i = .int .i64 k ∧ k ≤ n ∧ Hid (∀ x ∈ ks.take k, getL l x = none ∧ x.size ≤ 16) ∧ Hid (wr.ownsRow w4.heap.size 58 4 nv k (((ks.take k).map delN).flatMap Nt.cells)) ∧ Below w4.heap.size w4 wr) (fun _ i _ => (n - intOf i).toNat)
      case atStart => exact ⟨0, rfl, by omega, (show ∀ x ∈ [], getL l x = none ∧ x.size ≤ 16 from fun x hx => by cases hx), (show World.ownsRow _ _ _ _ _ _ _ from World.ownsRow_nil _ _ _ _), Below.refl _ _⟩
      case round =>
        obtain ⟨k, rfl, hk, HK, HO, hbr⟩ := hrel
        obtain ⟨NA, nc, rfl⟩ := own_shape HO.out
        have HBr := Lib.hid (HB4.out.trans (hbr.mono HB4.out.size))
        have HVr := Lib.hid (HV4.out.on hbr)
        by_cases hlt : k < n
        · have hkl : k < ks.length := by rw [HNL.out]; exact hlt
          obtain ⟨ad, rfl, hab, hcs⟩ := (HS.out.below (HBr.out)) (by omega)
          have hcell := hcs k hkl
          have htk := takeS hkl
          obtain ⟨x, hx⟩ : ∃ x, ks[k]'hkl = x := ⟨_, rfl⟩
          rw [hx] at hcell htk
          have hg := get_v HVr.out x (by have := HN.out; omega)
          have hga : (getA l x).2 = false → getL l x = none := fun h => by
            unfold getA at h
            rw [HW.out] at h
            exact has_none h
          obtain ⟨⟨gv, gh⟩, hgx⟩ : ∃ z, getA l x = z := ⟨_, rfl⟩
          rw [hgx] at hg hga
          have HTK := Lib.hid htk
          have HGA := Lib.hid hga
          have HG := Lib.hid hg
          have hsz := HSZ.out x (by rw [← hx]; exact List.getElem_mem hkl)
          clear hcs hx htk hga hg hgx hsz
          go_wp2_with fail
          refine HG.out.mono ?_
          rintro e wq ⟨rfl, hb⟩
          have HBq := Lib.hid (HBr.out.trans (hb.mono HBr.out.size))
          have hbq := hbr.trans (hb.mono hbr.size)
          have HOq := Lib.hid (own_on HO.out hb)
          clear hb hcell hbr HBr HVr
          cases gh with
          | true =>
            go_wp2_with fail
            refine (awake_true _).mono ?_
            rintro e wz ⟨rfl, hb⟩
            have HBz := Lib.hid (HBq.out.trans (hb.mono HBq.out.size))
            clear hb
            go_wp2
            go_ret
            exact ⟨rfl, HBz.out⟩
          | false =>
            by_cases h16 : x.size ≤ 16
            case neg =>
              have hd : decide (16 < x.size) = true := by simp; omega
              have hdI : decide (16 < (x.size : Int)) = true := by simp; omega
              go_wp2_with fail
              refine (awake_true _).mono ?_
              rintro e wz ⟨rfl, hb⟩
              have HBz := Lib.hid (HBq.out.trans (hb.mono HBq.out.size))
              clear hb
              go_wp2
              go_ret
              exact ⟨rfl, HBz.out⟩
            have hd : decide (16 < x.size) = false := by simp; omega
            have hdI : decide (16 < (x.size : Int)) = false := by simp; omega
            have HK2 := Lib.hid (show ∀ y ∈ ks.take (k + 1), getL l y = none ∧ y.size ≤ 16 from fun y hy => by
              rw [HTK.out, List.mem_append, List.mem_singleton] at hy
              rcases hy with hy | rfl
              · exact HK.out y hy
              · exact ⟨HGA.out rfl, h16⟩)
            have hsq : w4.heap.size ≤ wq.heap.size := hbq.size
            have hbx := Box.fresh wq 58 #[.int .i64 2, .string x, .string ⟨#[]⟩, .int .u64 0]
            obtain ⟨v4, wy, hr4, ho4, hg4, hat4⟩ := run_push_nt (wq.alloc (.cells #[.int .i64 2, .string x, .string ⟨#[]⟩, .int .u64 0] 58)) w4.heap.size _ k _ (HOq.out.alloc _) wq.heap.size [.int .i64 2, .string x, .string ⟨#[]⟩, .int .u64 0] ⟨rfl, by simp [Value.oneCell']⟩ hbx (by have := HBS.out; omega) (by simp; omega)
            have hb4 : Below w4.heap.size w4 wy := (hbq.alloc hsq _).grown hg4 (by simp; omega) (fun j hj => (own_lt HOq.out hj).1)
            have HO4 := Lib.hid (show wy.ownsRow w4.heap.size 58 4 v4 (k + 1) (((ks.take (k + 1)).map delN).flatMap Nt.cells) from by
              rw [HTK.out, List.map_append, List.flatMap_append]
              simpa [delN, Nt.cells] using ho4)
            have HB4 := Lib.hid hb4
            clear ho4 hg4 hat4 hb4 hbx hbq hsq
            go_wp2_with (at_builtin; refine Lib.wpList_append_run _ rfl _ _ _ _ rfl _ _ rfl rfl _ _ (hr4 _) ?_)
            clear hr4
            go_wp2
            go_roundw
            case rel => exact ⟨k + 1, by go_num, by omega, HK2, HO4, HB4.out⟩
            case measure => simp [intOf]; omega
        · have hkn : k = n := by omega
          have htk : ks.take k = ks := List.take_of_length_le (by rw [HNL.out]; omega)
          rw [htk] at HK HO
          have HNV := Lib.hid (show NV wr (.slice NA n nc) (ks.map delN) from by
            have h := HO.out
            rw [hkn] at h
            exact NV.own h (by rw [List.length_map, HNL.out]))
          have HNO := Lib.hid (none_run (l := l) (s := (sq : Int)) HW.out HBS.out HK.out (by omega) (by omega))
          clear hbr HO htk
          have hr := run_any (sq : Int) HVr.out HNV.out (by have := HN.out; omega) (by rw [List.length_map]; have := HBS.out; unfold maxLen; omega)
          rw [(out_one l (sq : Int) (ks.map delN)).1, (out_one l (sq : Int) (ks.map delN)).2.1, (out_one l (sq : Int) (ks.map delN)).2.2, HNO.out.1, HNO.out.2.1, HNO.out.2.2] at hr
          go_wp2_with fail
          refine (hr).mono ?_
          rintro e w6 ⟨cv, pv, rfl, hc, hp, hb⟩
          have HP6 := Lib.hid hp
          clear hp
          have HB6 := Lib.hid (HBr.out.trans (hb.mono HBr.out.size))
          have HV6 := Lib.hid (HVr.out.on hb)
          clear hb HBr HVr hr
          obtain ⟨CA, cc, rfl, _⟩ := hc
          have hk1 := same_v HP6.out HV6.out (by have := HN.out; unfold maxLen; omega)
          rw [decide_eq_true rfl] at hk1
          go_wp2_with fail
          refine (hk1).mono ?_
          rintro e w7 ⟨rfl, hb⟩
          have HB7 := Lib.hid (HB6.out.trans (hb.mono HB6.out.size))
          have HV7 := Lib.hid (HV6.out.on hb)
          have HP7 := Lib.hid (HP6.out.on hb)
          clear hb HB6 HV6 HP6 hk1
          go_wp2_with fail
          refine (awake_true _).mono ?_
          rintro e w8 ⟨rfl, hb⟩
          have HB8 := Lib.hid (HB7.out.trans (hb.mono HB7.out.size))
          clear hb HB7 
          go_wp2
          go_ret
          exact ⟨rfl, HB8.out⟩

end Go.Proofs.Ytnlmdgbkfoofoaa
