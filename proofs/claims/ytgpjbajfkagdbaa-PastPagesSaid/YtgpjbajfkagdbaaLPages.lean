/- The walk of PastPages. -/
import Derived.Test.YtgpjbajfkagdbaaAW
import Derived.Test.YtgpjbajfkagdbaaRStep
import Derived.Test.YtgpjbajfkagdbaaPg
import Derived.Test.YtgpjbajfkagdbaaPh
import Derived.StillTailTactics
set_option linter.unusedVariables false
set_option linter.unusedSimpArgs false
namespace Go.Proofs.Ytgpjbajfkagdbaa
open Go.RowKit

theorem own_ex {w w' : World} {g base e k n : Nat} {v : Value} {xs : List Value} (h : w.ownsRow base e k v n xs) (hx : Ex g w w') (hg : g < base) : w'.ownsRow base e k v n xs := by
  obtain ⟨A, c, rfl⟩ := own_shape h
  cases A with
  | none => exact h.kept hx (.inl rfl)
  | some a => exact h.kept hx (.inr (fun e => by have := (own_lt h e).1; omega))
theorem grown_cell {w w' : World} {r : Option Nat} (h : w.grownBy w' r) {p : Addr} (hp : p.block < w.heap.size) (hn : some p.block ≠ r) : w'.cell? p = w.cell? p := by
  unfold World.cell?
  rw [h.block _ hp hn]

set_option maxRecDepth 100000 in
set_option maxHeartbeats 8000000 in
theorem pages_walk (v u : Value) (s : Int) (n8 : Nat) (lo hi : ByteArray) (op : Bool) (l : List Pr) (t : List Ch) (w : World) (hv : PV w v l) (hu : CV w u t) (h8 : n8 < 256) :
    Calls Try.prog 5 #[v, u, .int .i64 s, .int .u8 n8, .agg #[.string lo, .string hi, .bool op]] w fun e w' => e = .returned (.bool true) ∧ Below w.heap.size w w' := by
  obtain ⟨w0, hw0⟩ : ∃ q, q = w.alloc (.cells #[.string lo, .string hi, .bool op] 25) := ⟨_, rfl⟩
  obtain ⟨gx, hgx⟩ : ∃ q, q = w.heap.size := ⟨_, rfl⟩
  have hb0 : Below w.heap.size w w0 := by rw [hw0]; exact (Below.refl _ _).alloc (Nat.le_refl _) _
  have HX0 := Lib.hid (show XB gx lo hi op w0 from XB.mk (by rw [hw0]; exact Box.at_ _ _ _ hgx))
  have HV0 := Lib.hid (hv.on hb0)
  have HU0 := Lib.hid (hu.on hb0)
  have HB0 := Lib.hid hb0
  have HW0 := Lib.hid (And.intro hw0 hgx)
  clear hv hu hb0 hw0 hgx
  go_enter Try.func5, Try.ntmps5
  go_upto_region 1 with fail
  rw [← HW0.out.2, ← HW0.out.1]
  have c0 := HX0.out.box.cell 0 rfl
  have c1 := HX0.out.box.cell 1 rfl
  clear c0 c1
  go_wp2_with fail
  refine (small_v HV0.out HU0.out).mono ?_
  rintro e w1 ⟨R, rfl, hR, hb⟩
  have HB1 := Lib.hid (HB0.out.trans (hb.mono HB0.out.size))
  have HV1 := Lib.hid (HV0.out.on hb)
  have HU1 := Lib.hid (HU0.out.on hb)
  have HX1 := Lib.hid (HX0.out.on hb)
  clear hb HB0 HV0 HU0 HX0 
  cases R with
  | false =>
    clear hR
    go_wp2_with fail
    refine (awake_true _).mono ?_
    rintro e w2 ⟨rfl, hb⟩
    have HB2 := Lib.hid (HB1.out.trans (hb.mono HB1.out.size))
    clear hb HB1 
    go_wp2
    go_ret
    exact ⟨rfl, HB2.out⟩
  | true =>
    have HN := Lib.hid (hR rfl)
    clear hR
    have c0 : w1.cell? ⟨gx, 0, none⟩ = some (.string lo) := HX1.out.box.cell 0 rfl
    have c1 : w1.cell? ⟨gx, 1, none⟩ = some (.string hi) := HX1.out.box.cell 1 rfl
    have c2 : w1.cell? ⟨gx, 2, none⟩ = some (.bool op) := HX1.out.box.cell 2 rfl
    by_cases hk : lo.size ≤ 300
    case neg =>
      have hd : decide (300 < (lo.size : Int)) = true := by simp; omega
      have hd2 : decide (300 < lo.size) = true := by simp; omega
      go_wp2_with fail
      refine (awake_true _).mono ?_
      rintro e w3 ⟨rfl, hb⟩
      have HB3 := Lib.hid (HB1.out.trans (hb.mono HB1.out.size))
      clear hb HB1 
      go_wp2
      go_ret
      exact ⟨rfl, HB3.out⟩
    have hd : decide (300 < (lo.size : Int)) = false := by simp; omega
    have hd2 : decide (300 < lo.size) = false := by simp; omega
    by_cases hh : hi.size ≤ 300
    case neg =>
      have he : decide (300 < (hi.size : Int)) = true := by simp; omega
      have he2 : decide (300 < hi.size) = true := by simp; omega
      go_wp2_with fail
      refine (awake_true _).mono ?_
      rintro e w4 ⟨rfl, hb⟩
      have HB4 := Lib.hid (HB1.out.trans (hb.mono HB1.out.size))
      clear hb HB1 
      go_wp2
      go_ret
      exact ⟨rfl, HB4.out⟩
    have he : decide (300 < (hi.size : Int)) = false := by simp; omega
    have he2 : decide (300 < hi.size) = false := by simp; omega
    go_upto_region 4 with fail
    clear hd hd2 he he2 hk hh
    obtain ⟨m, hm⟩ : ∃ m : Nat, (m : Int) = 1 + (n8 : Int) % 9 := ⟨1 + n8 % 9, by omega⟩
    have hm1 : 1 ≤ m := by omega
    have hm9 : m ≤ 9 := by omega
    rw [← hm]
    clear hm
    have hr := pages_v s s 1000 ⟨lo, hi, op⟩ HV1.out HU1.out (by have := HN.out; omega) (by have := HN.out; omega)
    have hno : pastE l t s s ≠ 0 → pastE l t s s = 1 ∧ pastL l t s s = [] := fun h => ⟨by
      unfold pastE at h ⊢
      rw [if_neg (show ¬ s < s by omega)] at h ⊢
      split at h
      · rename_i hc
        rw [if_pos hc]
        split at h
        · exact absurd rfl h
        · rename_i hc2
          rw [if_neg hc2]
      · rename_i hc
        rw [if_neg hc], past_no h⟩
    have hyes : pastE l t s s = 0 → wellL (pastL l t s s) = true := past_well
    have hpl := past_len l t s s
    obtain ⟨E, hE⟩ : ∃ q, pastE l t s s = q := ⟨_, rfl⟩
    obtain ⟨P, hP⟩ : ∃ q, pastL l t s s = q := ⟨_, rfl⟩
    rw [hE, hP] at hr hno
    rw [hE, hP] at hyes
    rw [hP] at hpl
    have HEP := Lib.hid (And.intro hE hP)
    have HNO := Lib.hid hno
    have HYES := Lib.hid hyes
    have hkl : (pickL ⟨lo, hi, op⟩ P).length ≤ l.length + t.length := Nat.le_trans (List.length_filter_le _ _) hpl
    have hw1 : pageL ⟨lo, hi, op⟩ 1000 P = pickL ⟨lo, hi, op⟩ P ∧ moreB ⟨lo, hi, op⟩ 1000 P = false := by
      have := HN.out
      unfold pageL moreB
      exact ⟨List.take_of_length_le (by simp; omega), decide_eq_false (by simp; omega)⟩
    rw [hw1.1, hw1.2] at hr
    have HPL := Lib.hid (And.intro hpl hkl)
    clear hw1 hE hP hno hyes hpl hkl
    go_wp2_with fail
    refine (hr).mono ?_
    rintro e w5 ⟨zv, rfl, hz, hb⟩
    have HZ5 := Lib.hid hz
    clear hz
    have HB5 := Lib.hid (HB1.out.trans (hb.mono HB1.out.size))
    have HV5 := Lib.hid (HV1.out.on hb)
    have HU5 := Lib.hid (HU1.out.on hb)
    have HX5 := Lib.hid (HX1.out.on hb)
    clear hb HB1 HV1 HU1 HX1 hr c0 c1 c2
    by_cases h0 : E = 0
    case neg =>
      obtain ⟨rfl, rfl⟩ := HNO.out h0
      obtain ⟨ZA, zc, rfl⟩ := PV.none_len (w := w5) (v := zv) HZ5.out
      go_wp2_with fail
      refine (awake_true _).mono ?_
      rintro e w6 ⟨rfl, hb⟩
      have HB6 := Lib.hid (HB5.out.trans (hb.mono HB5.out.size))
      clear hb HB5 
      go_wp2
      go_ret
      exact ⟨rfl, HB6.out⟩
    subst h0
    obtain ⟨K, hK⟩ : ∃ q, pickL ⟨lo, hi, op⟩ P = q := ⟨_, rfl⟩
    rw [hK] at HZ5
    have HK := Lib.hid hK
    have HW := Lib.hid (HYES.out rfl)
    have HKL := Lib.hid (show K.length ≤ l.length + t.length from by rw [← hK]; exact HPL.out.2)
    clear hK
    obtain ⟨LA, ln, lc, rfl, hl⟩ : ∃ A n c, v = .slice A n c ∧ l.length = n := by obtain ⟨A, c, e, _⟩ := HV5.out; exact ⟨A, _, c, e, rfl⟩
    obtain ⟨TA, tn, tc, rfl, ht⟩ : ∃ A n c, u = .slice A n c ∧ t.length = n := by obtain ⟨A, c, e, _⟩ := HU5.out; exact ⟨A, _, c, e, rfl⟩
    have HLT := Lib.hid (And.intro hl ht)
    have hln : ln ≤ 60 := by rw [← hl]; exact HN.out.1
    have htn : tn ≤ 60 := by rw [← ht]; exact HN.out.2
    clear hl ht
    have c0 : w5.cell? ⟨gx, 0, none⟩ = some (.string lo) := HX5.out.box.cell 0 rfl
    have c1 : w5.cell? ⟨gx, 1, none⟩ = some (.string hi) := HX5.out.box.cell 1 rfl
    have c2 : w5.cell? ⟨gx, 2, none⟩ = some (.bool op) := HX5.out.box.cell 2 rfl
    go_upto_region 9 with fail
    clear c0 c1 c2
    obtain ⟨g, hg⟩ : ∃ q, q = w5.heap.size := ⟨_, rfl⟩
    obtain ⟨wa, hwa⟩ : ∃ q, q = w5.alloc (.cells #[.string lo, .string hi, .bool op] 25) := ⟨_, rfl⟩
    rw [← hg, ← hwa]
    have HBX := Lib.hid (show Box wa g 25 #[.string lo, .string hi, .bool op] from by rw [hwa]; exact Box.at_ _ _ _ hg)
    have HBA := Lib.hid (show Below w5.heap.size w5 wa from by rw [hwa]; exact (Below.refl _ _).alloc (Nat.le_refl _) _)
    have HGS := Lib.hid (show g = w5.heap.size ∧ g + 1 ≤ wa.heap.size from ⟨hg, by rw [hwa, hg]; simp⟩)
    clear hg hwa
    go_wp2
    go_loopw [15, 17, 69] (fun av bv iv wr => ∃ (k d : Nat) (lo' : ByteArray), iv = .int .i64 k ∧ bv = .bool true ∧ k ≤ ln + tn + 1 ∧ Hid (k ≤ d ∧ (k = 0 ∨ d < K.length) ∧ d ≤ K.length ∧ pickL ⟨lo', hi, op⟩ P = K.drop d) ∧ Hid (wr.ownsRow (g + 1) 41 2 av d ((K.take d).flatMap Pr.cells)) ∧ Hid (Box wr g 25 #[.string lo', .string hi, .bool op]) ∧ Hid (g + 1 ≤ wr.heap.size) ∧ Below w5.heap.size w5 wr) (fun _ _ iv _ => (ln + tn + 1 - intOf iv).toNat)
    case atStart => exact ⟨0, 0, lo, rfl, rfl, by omega, ⟨Nat.le_refl _, .inl rfl, Nat.zero_le _, by rw [List.drop_zero]; exact HK.out⟩, by show World.ownsRow _ _ _ _ _ _ _; exact World.ownsRow_nil _ _ _ _, HBX.out, HGS.out.2, HBA.out⟩
    case round =>
      obtain ⟨k, d, lo', rfl, rfl, hk, HD, HO, HQ, HSZ, hbr⟩ := hrel
      obtain ⟨wo, hwo⟩ : ∃ q, q = wr := ⟨_, rfl⟩
      subst hwo
      have hkn : k < ln + tn + 1 := by
        have := HD.out
        have := HKL.out
        rw [HLT.out.1, HLT.out.2] at this
        omega
      have HKN := Lib.hid hkn
      have HBo := Lib.hid (HB5.out.trans (hbr.mono HB5.out.size))
      have HVo := Lib.hid (HV5.out.on hbr)
      have HUo := Lib.hid (HU5.out.on hbr)
      have HXo := Lib.hid (HX5.out.on hbr)
      have HZo := Lib.hid (HZ5.out.on hbr)
      have HRo := Lib.hid hbr
      have hr := pages_o s s m ⟨lo', hi, op⟩ HVo.out HUo.out (by have := HN.out; omega) (by have := HN.out; omega)
      rw [HEP.out.1, HEP.out.2] at hr
      have hq : pageL ⟨lo', hi, op⟩ m P = (K.drop d).take m ∧ moreB ⟨lo', hi, op⟩ m P = decide (m < (K.drop d).length) := by
        unfold pageL moreB
        rw [HD.out.2.2.2, Int.toNat_natCast]
        exact ⟨rfl, rfl⟩
      rw [hq.1, hq.2] at hr
      have c0 : wo.cell? ⟨g, 0, none⟩ = some (.string lo') := HQ.out.cell 0 rfl
      have c1 : wo.cell? ⟨g, 1, none⟩ = some (.string hi) := HQ.out.cell 1 rfl
      have c2 : wo.cell? ⟨g, 2, none⟩ = some (.bool op) := HQ.out.cell 2 rfl
      obtain ⟨Aa, ca, rfl⟩ := own_shape HO.out
      have HSo := Lib.hid HSZ.out
      have HAL := Lib.hid (show ∀ g', (Value.slice Aa d ca).ownBlock = some g' → g' < wo.heap.size from fun g' h => (own_lt HO.out h).2)
      clear hbr hq
      go_wp2_with fail
      refine (hr).mono ?_
      rintro e w7 ⟨pv, rfl, hp, hpo, hb⟩
      have HP7 := Lib.hid hp
      clear hp
      have HPO7 := Lib.hid hpo
      clear hpo
      have HB7 := Lib.hid (HBo.out.trans (hb.mono HBo.out.size))
      have HV7 := Lib.hid (HVo.out.on hb)
      have HU7 := Lib.hid (HUo.out.on hb)
      have HX7 := Lib.hid (HXo.out.on hb)
      have HZ7 := Lib.hid (HZo.out.on hb)
      have HQ7 := Lib.hid (HQ.out.on hb)
      have HO7 := Lib.hid (own_on HO.out hb)
      have HS7 := Lib.hid (Nat.le_trans HSo.out hb.size)
      have HR7 := Lib.hid (HRo.out.trans (hb.mono HRo.out.size))
      clear hb HBo HVo HUo HXo HZo HRo hr c0 c1 c2
      clear HQ HO HSZ HSo
      obtain ⟨Q, hQ⟩ : ∃ q, (K.drop d).take m = q := ⟨_, rfl⟩
      have HQL := Lib.hid hQ
      rw [hQ] at HP7
      obtain ⟨QA, n, qc, rfl, hqn⟩ : ∃ A n c, pv = .slice A n c ∧ Q.length = n := by obtain ⟨A, c, e, _⟩ := HP7.out; exact ⟨A, _, c, e, rfl⟩
      have HQN := Lib.hid hqn
      have hnm : n ≤ m := by rw [← hqn, ← hQ, List.length_take]; omega
      have hdk : d + n ≤ K.length := by have := HD.out.2.2.1; rw [← hqn, ← hQ, List.length_take, List.length_drop]; omega
      have HDK := Lib.hid hdk
      have HTK := Lib.hid (show K.take (d + n) = K.take d ++ Q from by
        rw [List.take_add, ← hQ]
        congr 1
        have e : n = min m (K.drop d).length := by rw [← hqn, ← hQ, List.length_take]
        rw [e, ← List.take_eq_take_min])
      have hd120 : d + n ≤ 120 := by have := HKL.out; have := HN.out; omega
      have hkk : k + n ≤ 130 := by omega
      have HPA := Lib.hid (show Prs w7 w7.heap.size QA Q ∧ (QA = none → qc = 0) from by
        obtain ⟨A', c', e', h1, _, h3⟩ := HP7.out
        injection e' with e1 e2 e3
        subst e1 e3
        exact ⟨h1, h3⟩)
      have HLAST := Lib.hid (show m < (K.drop d).length → n = m ∧ d + n < K.length from fun h => by
        rw [List.length_drop] at h
        have e : n = min m (K.drop d).length := by rw [← hqn, ← hQ, List.length_take]
        rw [List.length_drop] at e
        omega)
      have HEND := Lib.hid (show ¬ m < (K.drop d).length → K.take (d + n) = K from fun h => by
        rw [List.length_drop] at h
        have e : n = min m (K.drop d).length := by rw [← hqn, ← hQ, List.length_take]
        rw [List.length_drop] at e
        exact List.take_of_length_le (by have := HD.out.2.2.1; omega))
      obtain ⟨M, hM⟩ : ∃ q, decide (m < (K.drop d).length) = q := ⟨_, rfl⟩
      rw [hM]
      have HMM := Lib.hid hM
      clear hQ hqn hdk hM
      have hown := HO7.out
      have hbase : g + 1 ≤ w7.heap.size := HS7.out
      have hnmd : decide (m < n) = false := by simp; omega
      cases M with
      | false =>
        go_wp2_with (at_builtin; refine append_prs _ rfl _ _ rfl (g + 1) _ d _ rfl hown w7.heap.size QA n qc Q rfl ?c1 ?c2 ?c3 ?c4 hbase ?_)
        case c1 => exact HQN.out
        case c2 => exact HPA.out.1
        case c3 => exact HPA.out.2
        case c4 => omega
        intro v6 w6 hown6 hg6
        have hlt6 : ∀ k, Value.ownBlock _ = some k → g + 1 ≤ k := fun k hk => (hown.lt k hk).1
        have HO6 := Lib.hid (show w6.ownsRow (g + 1) 41 2 v6 (d + n) ((K.take (d + n)).flatMap Pr.cells) from by rw [HTK.out, List.flatMap_append]; exact hown6)
        have HB6 := Lib.hid (HB7.out.grown hg6 HB7.out.size (fun k hk => by have := hlt6 k hk; have := HGS.out.1; have := HB5.out.size; omega))
        have HR6 := Lib.hid (HR7.out.grown hg6 HR7.out.size (fun k hk => by have := hlt6 k hk; have := HGS.out.1; omega))
        have HQ6 := Lib.hid (HQ7.out.grown hg6 (fun e => by have := hlt6 _ e.symm; omega))
        have HS6 := Lib.hid (Nat.le_trans HS7.out hg6.size)
        have HEQ := Lib.hid (HEND.out (by simpa using HMM.out))
        have HZ6 := Lib.hid (HZ5.out.on HR6.out)
        have hv6 : PV w6 v6 K := by
          have h := HO6.out
          rw [HEQ.out] at h
          exact PV.own h (by rw [← HEQ.out, List.length_take]; have := HDK.out; omega)
        clear hown hown6 hg6 hlt6
        have hr := same_v hv6 HZ6.out (by have := HKL.out; have := HN.out; unfold maxLen; omega)
        rw [decide_eq_true rfl] at hr
        go_wp2_with fail
        refine (hr).mono ?_
        rintro e w8 ⟨rfl, hb⟩
        have HB8 := Lib.hid (HB6.out.trans (hb.mono HB6.out.size))
        clear hb HB6 hr hv6
        go_wp2_with fail
        refine (awake_true _).mono ?_
        rintro e w9 ⟨rfl, hb⟩
        have HB9 := Lib.hid (HB8.out.trans (hb.mono HB8.out.size))
        clear hb HB8 
        go_wp2
        go_ret
        exact ⟨rfl, HB9.out⟩
      | true =>
        obtain ⟨hnm2, hdn⟩ := HLAST.out (by simpa using HMM.out)
        subst hnm2
        have HDN := Lib.hid hdn
        clear hdn
        go_wp2_with (at_builtin; refine append_prs _ rfl _ _ rfl (g + 1) _ d _ rfl hown w7.heap.size QA n qc Q rfl ?c1 ?c2 ?c3 ?c4 hbase ?_)
        case c1 => exact HQN.out
        case c2 => exact HPA.out.1
        case c3 => exact HPA.out.2
        case c4 => omega
        intro v6 w6 hown6 hg6
        have hlt6 : ∀ k, Value.ownBlock _ = some k → g + 1 ≤ k := fun k hk => (hown.lt k hk).1
        have HO6 := Lib.hid (show w6.ownsRow (g + 1) 41 2 v6 (d + n) ((K.take (d + n)).flatMap Pr.cells) from by rw [HTK.out, List.flatMap_append]; exact hown6)
        have HB6 := Lib.hid (HB7.out.grown hg6 HB7.out.size (fun k hk => by have := hlt6 k hk; have := HGS.out.1; have := HB5.out.size; omega))
        have HR6 := Lib.hid (HR7.out.grown hg6 HR7.out.size (fun k hk => by have := hlt6 k hk; have := HGS.out.1; omega))
        have HQ6 := Lib.hid (HQ7.out.grown hg6 (fun e => by have := hlt6 _ e.symm; omega))
        have HS6 := Lib.hid (Nat.le_trans HS7.out hg6.size)
        obtain ⟨ad, rfl, hab, hca⟩ := HPA.out.1.seeP (by rw [HQN.out]; exact hm1)
        obtain ⟨z, hz⟩ : ∃ z : Nat, (n : Int) - 1 = z := ⟨n - 1, by omega⟩
        have hzq : z < Q.length := by rw [HQN.out]; omega
        have x1 := (hca z hzq).1
        have hz1 : z < n := by omega
        have hnz : n = z + 1 := by omega
        have hkey : (Q[z]'hzq).k = (K[d + z]'(by have := HDN.out; omega)).k := by
          have e : Q = (K.drop d).take n := HQL.out.symm
          have : Q[z]'hzq = K[d + z]'(by have := HDN.out; omega) := by
            simp only [e, List.getElem_take, List.getElem_drop]
          rw [this]
        obtain ⟨key, hke⟩ : ∃ q, (Q[z]'hzq).k = q := ⟨_, rfl⟩
        rw [hke] at x1 hkey
        have y1 : w6.cell? (ad.add (z * 2)) = some (.string key) := by
          rw [grown_cell hg6 (p := ad.add (z * 2)) (by rw [block_of_add]; exact hab) ?_]
          · exact x1
          · rw [block_of_add]
            intro e
            have h1 := HAL.out _ e.symm
            have h2 := HPO7.out ad _ _ rfl
            omega
        have HNEXT := Lib.hid (show pickL ⟨nextS key, hi, op⟩ P = K.drop (d + n) from by
          have hp := pick_behind (well_sorted HW.out) ⟨lo, hi, op⟩ (k := d + z) (by show d + z < (pickL ⟨lo, hi, op⟩ P).length; rw [HK.out]; have := HDN.out; omega)
          have e : pickS ⟨lo, hi, op⟩ P = K := HK.out
          simp only [e] at hp
          rw [← hkey] at hp
          rw [hnz]
          exact hp)
        clear hown hown6 hg6 hlt6 x1 hca hke
        have q0 := HQ6.out.cell 0 rfl
        have q1 := HQ6.out.cell 1 rfl
        have q2 := HQ6.out.cell 2 rfl
        have f0 := Box.free HQ6.out 0
        have hx6 := (HX5.out.on HR6.out)
        have r1 : w6.cell? ⟨gx, 1, none⟩ = some (.string hi) := hx6.box.cell 1 rfl
        have r2 : w6.cell? ⟨gx, 2, none⟩ = some (.bool op) := hx6.box.cell 2 rfl
        clear hx6
        have hks : key.size ≤ 16 := by
          have h1 := well_fits HW.out _ (List.mem_filter.1 (show K[d + z]'(by have := HDN.out; omega) ∈ P.filter (fun p => inB ⟨lo, hi, op⟩ p.k) from by rw [show P.filter (fun p => inB ⟨lo, hi, op⟩ p.k) = K from HK.out]; exact List.getElem_mem _)).1
          unfold fitsP at h1
          rw [Bool.and_eq_true, decide_eq_true_iff, decide_eq_true_iff] at h1
          rw [hkey]
          exact h1.1
        have hka : ¬ 9223372036854775807 < key.size + 1 := by omega
        have hwr : IntKind.i64.wrap ((n : Int) - 1) = (z : Int) := by rw [hz]; exact IntWalk.i64_in _ (by omega)
        have HNZ := Lib.hid hnz
        clear hnz hz hkey hks
        go_upto_region 17 with fail
        go_still_tail 13, (by kernel_rfl)
        change wpList _ _ _ _ _ w6.drew
        clear q0 q1 q2 f0 r1 r2 y1 hab hz1 hwr hka hbase
        have hbd : Below w6.heap.size w6 w6.drew := below_drewN (Below.refl _ _) 1
        have HO7 := Lib.hid (own_on HO6.out hbd)
        have HQ7 := Lib.hid (HQ6.out.on hbd)
        have HS7 := Lib.hid (Nat.le_trans HS6.out hbd.size)
        have HR7 := Lib.hid (HR6.out.trans (hbd.mono HR6.out.size))
        clear hbd
        generalize w6.drew = w7 at HO7 HQ7 HS7 HR7 ⊢
        have q0 := HQ7.out.cell 0 rfl
        have q1 := HQ7.out.cell 1 rfl
        have q2 := HQ7.out.cell 2 rfl
        have f0 := Box.free HQ7.out 0
        have f1 := Box.free HQ7.out 1
        have f2 := Box.free HQ7.out 2
        go_wp2
        have hex : Ex g w7 (((w7.setCell ⟨g, 0, none⟩ (.string (key ++ ByteArray.mk #[0]))).setCell ⟨g, 1, none⟩ (.string hi)).setCell ⟨g, 2, none⟩ (.bool op)) := (Ex.set _ _).trans ((Ex.set _ _).trans (Ex.set _ _))
        have HEX := Lib.hid hex
        have HQ8 := Lib.hid (show Box (((w7.setCell ⟨g, 0, none⟩ (.string (key ++ ByteArray.mk #[0]))).setCell ⟨g, 1, none⟩ (.string hi)).setCell ⟨g, 2, none⟩ (.bool op)) g 25 #[.string (key ++ ByteArray.mk #[0]), .string hi, .bool op] from Box.set (Box.set (Box.set HQ7.out 0 _) 1 _) 2 _)
        clear hex q0 q1 q2 f0 f1 f2
        go_roundw
        case rel => exact ⟨k + 1, d + n, key ++ ByteArray.mk #[0], by first | rfl | go_num, rfl, by omega, ⟨by have := HD.out.1; omega, .inr HDN.out, Nat.le_of_lt HDN.out, HNEXT.out⟩, own_ex HO7.out HEX.out (Nat.lt_succ_self g), (show Hid _ from HQ8.out), Nat.le_trans HS7.out HEX.out.size, Ex.below HR7.out HEX.out (Nat.le_of_eq HGS.out.1.symm) HR7.out.size⟩
        case measure => simp [intOf]; omega

end Go.Proofs.Ytgpjbajfkagdbaa
