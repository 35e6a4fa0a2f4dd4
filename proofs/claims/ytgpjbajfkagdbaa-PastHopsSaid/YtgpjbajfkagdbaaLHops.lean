/- The walk of PastHops. -/
import Derived.Test.YtgpjbajfkagdbaaAW
import Derived.Test.YtgpjbajfkagdbaaCa
set_option linter.unusedVariables false
set_option linter.unusedSimpArgs false
namespace Go.Proofs.Ytgpjbajfkagdbaa
open Go.RowKit

def someL (t : List Ch) (hi : Int) : List Ch := t.filter fun c => decide (c.seq ≤ hi)
theorem some_take {t : List Ch} {k : Nat} (hi : Int) (h : k < t.length) : someL (t.take (k + 1)) hi = someL (t.take k) hi ++ (if t[k].seq ≤ hi then [t[k]] else []) := by
  unfold someL
  rw [List.take_succ_eq_append_getElem h, List.filter_append, List.filter_cons, List.filter_nil]
  by_cases e : t[k].seq ≤ hi
  · rw [if_pos e, if_pos (decide_eq_true e)]
  · rw [if_neg e, if_neg (by simpa using e)]
theorem hop_same {l P : List Pr} {t : List Ch} {lo hi : Int} (hw : wellL l = true) (hp : wellL P = true) (ht : trailB t = true) (h : lo ≤ hi) (ha : asU l t hi = some P) : pastE P (someL t hi) lo lo = pastE l t lo lo ∧ pastL P (someL t hi) lo lo = pastL l t lo lo := by
  have e1 : asU P (someL t hi) lo = asU l t lo := as_hop ht h ha
  have e2 : trailB (someL t hi) = true := some_trail ht hi
  have e3 : pastE P (someL t hi) lo lo = pastE l t lo lo := by unfold pastE; rw [hw, hp, ht, e2, e1]
  exact ⟨e3, by unfold pastL; rw [e3, e1]⟩

set_option maxRecDepth 100000 in
set_option maxHeartbeats 4000000 in
theorem hops_walk (v u : Value) (a b : Int) (l : List Pr) (t : List Ch) (w0 : World) (hv : PV w0 v l) (hu : CV w0 u t) :
    Calls Try.prog 6 #[v, u, .int .i64 a, .int .i64 b] w0 fun e w' => e = .returned (.bool true) ∧ Below w0.heap.size w0 w' := by
  have HV0 := Lib.hid hv
  have HU0 := Lib.hid hu
  have HB0 := Lib.hid (Below.refl w0.heap.size w0)
  clear hv hu
  go_enter Try.func6, Try.ntmps6
  go_wp2_with fail
  refine (small_v HV0.out HU0.out).mono ?_
  rintro e w1 ⟨R, rfl, hR, hb⟩
  have HB1 := Lib.hid (HB0.out.trans (hb.mono HB0.out.size))
  have HV1 := Lib.hid (HV0.out.on hb)
  have HU1 := Lib.hid (HU0.out.on hb)
  clear hb HB0 HV0 HU0 
  cases R with
  | false =>
    clear hR
    go_wp2_with fail
    refine (awake_true _).mono ?_
    rintro e w2 ⟨rfl, hb⟩
    have HB2 := Lib.hid (HB1.out.trans (hb.mono HB1.out.size))
    clear hb HB1 
    go_wp2
    go_ret
    exact ⟨rfl, HB2.out⟩
  | true =>
    have HN := Lib.hid (hR rfl)
    clear hR
    have h1 := past_v (min a b) (max a b) HV1.out HU1.out (by have := HN.out; omega) (by have := HN.out; omega)
    obtain ⟨lo, hlo⟩ : ∃ q, min a b = q := ⟨_, rfl⟩
    obtain ⟨hi, hhi⟩ : ∃ q, max a b = q := ⟨_, rfl⟩
    have HLH := Lib.hid (show lo ≤ hi from by omega)
    rw [hlo, hhi] at h1
    have hpl := past_len l t lo hi
    have hno : pastE l t lo hi ≠ 0 → pastL l t lo hi = [] := past_no
    have hyes : pastE l t lo hi = 0 → wellL (pastL l t lo hi) = true ∧ trailB t = true ∧ asU l t hi = some (pastL l t lo hi) ∧ wellL l = true := fun h => by
      obtain ⟨y1, y2, _, y4⟩ := pastE_yes h
      exact ⟨past_well h, y2, y4, y1⟩
    obtain ⟨E, hE2⟩ : ∃ q, pastE l t lo hi = q := ⟨_, rfl⟩
    obtain ⟨P, hP2⟩ : ∃ q, pastL l t lo hi = q := ⟨_, rfl⟩
    rw [hE2, hP2] at h1
    rw [hP2] at hpl
    rw [hE2, hP2] at hno hyes
    have HPL := Lib.hid hpl
    have HNO := Lib.hid hno
    have HYES := Lib.hid hyes
    have HLO := Lib.hid hlo
    have HHI := Lib.hid hhi
    clear hE2 hP2 hpl hno hyes
    go_wp2_with fail
    refine (h1).mono ?_
    rintro e w3 ⟨p, rfl, hp, hb⟩
    have HP3 := Lib.hid hp
    clear hp
    have HB3 := Lib.hid (HB1.out.trans (hb.mono HB1.out.size))
    have HV3 := Lib.hid (HV1.out.on hb)
    have HU3 := Lib.hid (HU1.out.on hb)
    clear hb HB1 HV1 HU1 h1
    clear hlo hhi
    by_cases h0 : E = 0
    case neg =>
      have hP := HNO.out h0
      subst hP
      obtain ⟨PA, pc, rfl⟩ := HP3.out.none_len
      go_wp2_with fail
      refine (awake_true _).mono ?_
      rintro e w4 ⟨rfl, hb⟩
      have HB4 := Lib.hid (HB3.out.trans (hb.mono HB3.out.size))
      clear hb HB3 
      go_wp2
      go_ret
      exact ⟨rfl, HB4.out⟩
    subst h0
    obtain ⟨y1, y2, y3, y4⟩ := HYES.out rfl
    have HFC := Lib.hid (show pastE P (someL t hi) lo lo = pastE l t lo lo ∧ pastL P (someL t hi) lo lo = pastL l t lo lo from hop_same y4 y1 y2 HLH.out y3)
    have HAU := Lib.hid (And.intro y1 y2)
    clear y1 y2 y3 y4
    obtain ⟨A, n, c, rfl, hnl⟩ : ∃ A n c, u = .slice A n c ∧ t.length = n := by obtain ⟨A, c, e, _⟩ := HU3.out; exact ⟨A, _, c, e, rfl⟩
    have HNL := Lib.hid hnl
    have hn60 : n ≤ 60 := by rw [← hnl]; exact HN.out.2
    clear hnl
    have HCH := Lib.hid (show Chs w3 w3.heap.size A t from by
      obtain ⟨A', c', e', h, _⟩ := HU3.out
      injection e' with e1 e2 e3
      rw [e1]; exact h)
    obtain ⟨i0, hi0, hz0, hz1, hz2⟩ := info_parts change_info
    go_wp2
    go_loopw [13, 49] (fun sv iv wr => ∃ (k m : Nat), iv = .int .i64 k ∧ k ≤ n ∧ Hid (m = (someL (t.take k) hi).length ∧ m ≤ k) ∧ Hid (wr.ownsRow w3.heap.size 55 6 sv m ((someL (t.take k) hi).flatMap Ch.cells)) ∧ Below w3.heap.size w3 wr) (fun _ iv _ => (n - intOf iv).toNat)
    case atStart => exact ⟨0, 0, rfl, by omega, ⟨rfl, Nat.le_refl _⟩, by show World.ownsRow _ _ _ _ _ _ _; exact World.ownsRow_nil _ _ _ _, Below.refl _ _⟩
    case round =>
      obtain ⟨k, m, rfl, hk, HM, HO, hbr⟩ := hrel
      have hbs := hbr.size
      obtain ⟨A2, c2, rfl⟩ := own_shape HO.out
      by_cases hlt : k < n
      · have hkl : k < t.length := by rw [HNL.out]; exact hlt
        have hmk : m ≤ k := HM.out.2
        obtain ⟨ad, rfl, hab, hca⟩ := (HCH.out.below hbr).seeC (by rw [HNL.out]; omega)
        obtain ⟨d0, d1, d2, d3, d4, d5⟩ := hca k hkl
        have HT := Lib.hid (some_take hi hkl)
        obtain ⟨x, hx⟩ : ∃ x, x = t[k]'hkl := ⟨_, rfl⟩
        rw [← hx] at d0 d1 d2 d3 d4 d5 HT
        clear hx hca
        obtain ⟨xs, xk, xh, xb, xg, xa⟩ := x
        simp only at d0 d1 d2 d3 d4 d5
        have hown0 := HO.out
        go_upto_region 11 with fail
        obtain ⟨gx, hgx⟩ : ∃ gx, gx = wr.heap.size := ⟨_, rfl⟩
        obtain ⟨wz, hwz⟩ : ∃ wz, wz = wr.alloc (.cells #[.int .i64 xs, .string xk, .bool xh, .string xb, .bool xg, .string xa] 55) := ⟨_, rfl⟩
        rw [← hgx, ← hwz]
        have hbx : Box wz gx 55 #[.int .i64 xs, .string xk, .bool xh, .string xb, .bool xg, .string xa] := by rw [hwz]; exact Box.at_ wr _ _ hgx
        have hbz : Below w3.heap.size w3 wz := by rw [hwz]; exact hbr.alloc hbs _
        have own : wz.ownsRow w3.heap.size 55 6 (.slice A2 m c2) m ((someL (t.take k) hi).flatMap Ch.cells) := by rw [hwz]; exact hown0.alloc _
        have q0 := hbx.cell 0 rfl
        have q1 := hbx.cell 1 rfl
        have q2 := hbx.cell 2 rfl
        have q3 := hbx.cell 3 rfl
        have q4 := hbx.cell 4 rfl
        have q5 := hbx.cell 5 rfl
        have hbzs := hbz.size
        clear hown0 HO hwz hgx d0 d1 d2 d3 d4 d5 hab
        by_cases hsq : xs ≤ hi
        · have HF := Lib.hid (show someL (t.take (k + 1)) hi = someL (t.take k) hi ++ [⟨xs, xk, xh, xb, xg, xa⟩] from by rw [HT.out, if_pos hsq])
          go_wp2_with (at_builtin; refine append_change _ rfl _ _ rfl w3.heap.size _ m ((someL (t.take k) hi).flatMap Ch.cells) rfl (own.alloc _) (wz.heap.size + 1) wz.heap.size ⟨xs, xk, xh, xb, xg, xa⟩ rfl ?a1 ?a2 ?a3 ?_)
          case a1 => exact Lies.lit Ch.cells6 rfl
          case a2 => omega
          case a3 => first | omega | (simp; omega)
          intro v' w5 hown5 hg5 hat
          have hb5 : Below w3.heap.size w3 w5 := (hbz.alloc hbzs _).grown hg5 (by simp; omega) (fun k hk => (own.lt k hk).1)
          have HO5 := Lib.hid hown5
          have HM5 := Lib.hid (show m + 1 = (someL (t.take (k + 1)) hi).length ∧ m + 1 ≤ k + 1 from ⟨by rw [HF.out, List.length_append, ← HM.out.1]; rfl, by omega⟩)
          clear own hown5 hg5 hat q0 q1 q2 q3 q4 q5 hbx hbz hbzs
          go_wp2
          go_roundw
          case rel => exact ⟨k + 1, m + 1, by first | rfl | go_num, by omega, HM5, by show World.ownsRow _ _ _ _ _ _ _; rw [HF.out, List.flatMap_append]; simpa [Ch.cells] using HO5.out, hb5⟩
          case measure => simp [intOf]; omega
        · have HF := Lib.hid (show someL (t.take (k + 1)) hi = someL (t.take k) hi from by rw [HT.out, if_neg hsq, List.append_nil])
          have HOA := Lib.hid own
          clear own
          go_wp2
          go_roundw
          case rel => exact ⟨k + 1, m, by first | rfl | go_num, by omega, ⟨by rw [HF.out]; exact HM.out.1, by omega⟩, by show World.ownsRow _ _ _ _ _ _ _; rw [HF.out]; exact HOA.out, hbz⟩
          case measure => simp [intOf]; omega
      · have hkn : k = n := by omega
        have HE := Lib.hid (show t.take k = t from List.take_of_length_le (by rw [HNL.out]; omega))
        clear hkn
        have ho := HO.out
        have hml := HM.out.1
        rw [HE.out] at ho hml
        have hcs := CV.own ho hml
        have HBr := Lib.hid (HB3.out.trans (hbr.mono HB3.out.size))
        have HVr := Lib.hid (HV3.out.on hbr)
        have HUr := Lib.hid (HU3.out.on hbr)
        have HPr := Lib.hid (HP3.out.on hbr)
        have HSr := Lib.hid hcs
        have HSL := Lib.hid (show (someL t hi).length ≤ 60 from by rw [← hml]; have := HM.out.2; omega)
        clear ho hml hcs hbr hbs HO
        have hr := past_v lo lo HPr.out HSr.out (by have := HPL.out; have := HN.out; omega) (by have := HSL.out; omega)
        rw [HFC.out.1, HFC.out.2] at hr
        have hpl := past_len l t lo lo
        obtain ⟨F, hF⟩ : ∃ q, pastE l t lo lo = q := ⟨_, rfl⟩
        obtain ⟨Q, hQ⟩ : ∃ q, pastL l t lo lo = q := ⟨_, rfl⟩
        rw [hF, hQ] at hr
        rw [hQ] at hpl
        have HFQ := Lib.hid (And.intro hF hQ)
        have HQL := Lib.hid hpl
        clear hF hQ hpl
        go_wp2_with fail
        refine (hr).mono ?_
        rintro e w5 ⟨qv, rfl, hq, hb⟩
        have HQ5 := Lib.hid hq
        clear hq
        have HB5 := Lib.hid (HBr.out.trans (hb.mono HBr.out.size))
        have HV5 := Lib.hid (HVr.out.on hb)
        have HU5 := Lib.hid (HUr.out.on hb)
        have HP5 := Lib.hid (HPr.out.on hb)
        have HS5 := Lib.hid (HSr.out.on hb)
        clear hb HBr HVr HUr HPr HSr hr
        have hr := past_v lo lo HV5.out HU5.out (by have := HN.out; omega) (by have := HN.out; omega)
        rw [HFQ.out.1, HFQ.out.2] at hr
        go_wp2_with fail
        refine (hr).mono ?_
        rintro e w6 ⟨rv, rfl, hq, hb⟩
        have HR6 := Lib.hid hq
        clear hq
        have HB6 := Lib.hid (HB5.out.trans (hb.mono HB5.out.size))
        have HV6 := Lib.hid (HV5.out.on hb)
        have HU6 := Lib.hid (HU5.out.on hb)
        have HP6 := Lib.hid (HP5.out.on hb)
        have HS6 := Lib.hid (HS5.out.on hb)
        have HQ6 := Lib.hid (HQ5.out.on hb)
        clear hb HB5 HV5 HU5 HP5 HS5 HQ5 hr
        have hr := same_v HQ6.out HR6.out (by have := HQL.out; have := HN.out; unfold maxLen; omega)
        rw [decide_eq_true rfl] at hr
        go_wp2_with fail
        refine (hr).mono ?_
        rintro e w7 ⟨rfl, hb⟩
        have HB7 := Lib.hid (HB6.out.trans (hb.mono HB6.out.size))
        have HV7 := Lib.hid (HV6.out.on hb)
        have HU7 := Lib.hid (HU6.out.on hb)
        have HP7 := Lib.hid (HP6.out.on hb)
        have HS7 := Lib.hid (HS6.out.on hb)
        have HQ7 := Lib.hid (HQ6.out.on hb)
        have HR7 := Lib.hid (HR6.out.on hb)
        clear hb HB6 HV6 HU6 HP6 HS6 HQ6 HR6 hr
        go_wp2_with fail
        refine (awake_true _).mono ?_
        rintro e w8 ⟨rfl, hb⟩
        have HB8 := Lib.hid (HB7.out.trans (hb.mono HB7.out.size))
        clear hb HB7 
        go_wp2
        go_ret
        exact ⟨rfl, HB8.out⟩

end Go.Proofs.Ytgpjbajfkagdbaa
