/- The walk of TrailNewest: of each key the last change up to a Seq is among the newest, and all above it, and nothing else. -/
import Derived.Test.YtidigbjlglomhaaAwk
import Derived.Test.YtidigbjlglomhaaSf
import Derived.Test.YtidigbjlglomhaaRNewest
import Derived.Test.YtidigbjlglomhaaRSame
import Derived.Lib.MinMax
set_option linter.unusedVariables false
set_option linter.unusedSimpArgs false
namespace Go.Proofs.Ytidigbjlglomhaa
open Go.RowKit

theorem oldTo_is {l : List Ch} (h : Trail l) (s : Int) {i n : Nat} {z : Ch} (hi : i < l.length) (hz : z = l[i]) (hn : l.length = n) : oldTo l s z i n = decide (OldC l s z) := by
  subst hz hn
  exact oldTo_end h s hi
theorem filter_at {p : Ch → Bool} {l : List Ch} {i : Nat} (hi : i < l.length) (hp : p l[i] = true) : (l.filter p)[((l.take i).filter p).length]? = some l[i] := by
  have e : l = l.take i ++ l[i] :: l.drop (i + 1) := by rw [List.getElem_cons_drop, List.take_append_drop]
  conv => lhs; rw [show l.filter p = (l.take i).filter p ++ (l[i] :: l.drop (i + 1)).filter p from by rw [← List.filter_append, ← e]]
  rw [List.filter_cons, if_pos hp, List.getElem?_append_right (Nat.le_refl _), Nat.sub_self]
  rfl

set_option maxRecDepth 100000 in
set_option maxHeartbeats 8000000 in
theorem newest_walk (v : Value) (l : List Ch) (a b : Int) (w : World) (hv : CV w v l) (hn : l.length ≤ maxLen) :
    Calls Try.prog 5 #[v, .int .i64 a, .int .i64 b] w fun e w' => e = .returned (.bool true) ∧ Below w.heap.size w w' := by
  obtain ⟨A, n, c, rfl, hnl, hA, hnc⟩ : ∃ A n c, v = .slice A n c ∧ l.length = n ∧ Chs w w.heap.size A l ∧ n ≤ c := by obtain ⟨A, c, e, h1, h2, _⟩ := hv; exact ⟨A, _, c, e, rfl, h1, h2⟩
  have HLN := Lib.hid hnl
  have HMX := Lib.hid hn
  have VL := Lib.hid hv
  have HA := Lib.hid hA
  have HB := Lib.hid (Below.refl w.heap.size w)
  clear hv hn hnl hA
  go_enter Try.func5, Try.ntmps5
  go_wp2_with fail
  refine (few_v VL.out).mono ?_
  rintro e w1 ⟨R1, rfl, h1, hb⟩
  have HB1 := Lib.hid (HB.out.trans (hb.mono HB.out.size))
  have VL1 := Lib.hid (VL.out.on hb)
  have HA1 := Lib.hid (HA.out.on hb)
  clear hb HB VL HA 
  have H1 := Lib.hid h1
  clear h1
  cases R1 with
  | false =>
    go_wp2_with fail
    refine (awake_true _).mono ?_
    rintro e w2 ⟨rfl, hb⟩
    have HB2 := Lib.hid (HB1.out.trans (hb.mono HB1.out.size))
    clear hb HB1 
    go_wp2
    go_ret
    exact ⟨rfl, HB2.out⟩
  | true =>
    have HL := Lib.hid (H1.out (by simp)).1
    have HL2 := Lib.hid (show l.length ≤ 1000 from by have := HL.out; omega)
    clear H1
    obtain ⟨R, hR⟩ : ∃ R, trailB l = R := ⟨_, rfl⟩
    have hk := right_v VL1.out HMX.out
    rw [hR] at hk
    go_wp2_with fail
    refine (hk).mono ?_
    rintro e w3 ⟨rfl, hb⟩
    have HB3 := Lib.hid (HB1.out.trans (hb.mono HB1.out.size))
    have VL3 := Lib.hid (VL1.out.on hb)
    have HA3 := Lib.hid (HA1.out.on hb)
    clear hb HB1 VL1 HA1 hk
    cases R with
    | false =>
      go_wp2_with fail
      refine (awake_true _).mono ?_
      rintro e w4 ⟨rfl, hb⟩
      have HB4 := Lib.hid (HB3.out.trans (hb.mono HB3.out.size))
      clear hb HB3 
      go_wp2
      go_ret
      exact ⟨rfl, HB4.out⟩
    | true =>
      have HT := Lib.hid (trail_t.1 hR)
      clear hR
      go_upto_region 4 with fail
      obtain ⟨x, hx⟩ : ∃ x, x = min a b := ⟨_, rfl⟩
      obtain ⟨y, hy⟩ : ∃ y, y = max a b := ⟨_, rfl⟩
      have HXY := Lib.hid (show x ≤ y from by rw [hx, hy]; omega)
      rw [← hx, ← hy]
      clear hx hy
      obtain ⟨N, hN⟩ : ∃ N, newestL l y = N := ⟨_, rfl⟩
      have hk := newest_v y VL3.out HL2.out
      rw [hN] at hk
      go_wp2_with fail
      refine (hk).mono ?_
      rintro e w5 ⟨vn, rfl, hp, hb⟩
      have VN5 := Lib.hid hp
      clear hp
      have HB5 := Lib.hid (HB3.out.trans (hb.mono HB3.out.size))
      have VL5 := Lib.hid (VL3.out.on hb)
      have HA5 := Lib.hid (HA3.out.on hb)
      clear hb HB3 VL3 HA3 hk
      obtain ⟨p, hp⟩ : ∃ p : Ch → Bool, p = fun c => decide (¬ OldC l y c) := ⟨_, rfl⟩
      have HP := Lib.hid hp
      have HNP := Lib.hid (show N = l.filter p from by rw [← hN, hp]; exact newest_eq HT.out y)
      have HNL := Lib.hid (show N.length ≤ 60 from by rw [← hN]; have := newest_len l y; have := HL.out; omega)
      have HN := Lib.hid hN
      obtain ⟨An, nn, cn, rfl, hnn⟩ : ∃ A n c, vn = .slice A n c ∧ N.length = n := by obtain ⟨A, c, e, _⟩ := VN5.out; exact ⟨A, _, c, e, rfl⟩
      have HNN := Lib.hid hnn
      have HAN := Lib.hid (show Chs w5 w5.heap.size An N from by obtain ⟨A', c', e, h1, _⟩ := VN5.out; injection e with e1 e2 e3; subst e1; exact h1)
      have hnb : n ≤ 60 := by have := HL.out; rw [HLN.out] at this; exact this
      have hnnb : nn ≤ 60 := by have := HNL.out; rw [HNN.out] at this; exact this
      clear hN hp hnn
      go_wp2
      go_loopw [10, 36] (fun kv iv wr => ∃ (i k : Nat), iv = .int .i64 i ∧ i ≤ n ∧ kv = .int .i64 k ∧ Hid (k = ((l.take i).filter p).length ∧ k ≤ i) ∧ Below w5.heap.size w5 wr) (fun _ iv _ => (n - intOf iv).toNat)
      case atStart => exact ⟨0, 0, rfl, by omega, rfl, (show _ ∧ _ from ⟨rfl, by omega⟩), Below.refl _ _⟩
      case round =>
        obtain ⟨i, k, rfl, hi, rfl, HK, hbr⟩ := hrel
        by_cases hlt : i < n
        · have hil : i < l.length := by rw [HLN.out]; exact hlt
          obtain ⟨ad, rfl, hab, hca⟩ := (HA5.out.below hbr).seeC (by rw [HLN.out]; omega)
          obtain ⟨c0, c1, c2, c3, c4, c5⟩ := hca i hil
          obtain ⟨z, hz⟩ : ∃ z, z = l[i]'hil := ⟨_, rfl⟩
          rw [← hz] at c0 c1 c2 c3 c4 c5
          have HTF := Lib.hid (filter_take p l hil)
          have HFA := Lib.hid (fun h => filter_at (p := p) hil h)
          have HST := Lib.hid (oldTo_start l y z i)
          have HZ := Lib.hid hz
          clear hz hca
          obtain ⟨zs, zk, zh, zb, zg, za⟩ := z
          simp only at c0 c1 c2 c3 c4 c5
          go_upto_region 9 with fail
          obtain ⟨gx, hgx⟩ : ∃ gx, gx = wr.heap.size := ⟨_, rfl⟩
          obtain ⟨wz, hwz⟩ : ∃ wz, wz = wr.alloc (.cells #[.int .i64 zs, .string zk, .bool zh, .string zb, .bool zg, .string za] 30) := ⟨_, rfl⟩
          rw [← hgx, ← hwz]
          have hb : Below wr.heap.size wr wz := by rw [hwz]; exact (Below.refl _ _).alloc (Nat.le_refl _) _
          have BX := Lib.hid (show Box wz gx 30 #[.int .i64 zs, .string zk, .bool zh, .string zb, .bool zg, .string za] from by rw [hwz]; exact Box.at_ wr _ _ hgx)
          have HBZ := Lib.hid (hbr.trans (hb.mono hbr.size))
          have HAz := Lib.hid (HA5.out.on HBZ.out)
          have hin : (i : Int) + 1 ≤ (n : Int) := by omega
          have hnc2 : n ≤ c := hnc
          clear hb hgx hwz c0 c1 c2 c3 c4 c5 hab hbr
          have HIL := Lib.hid hil
          by_cases hne : c = i + 1
          · have hni : n = i + 1 := by omega
            go_wp2
            go_loopw [13, 46] (fun bv jv wx => ∃ (q : Nat) (bb : Bool), jv = .int .i64 q ∧ q ≤ n - (i + 1) ∧ bv = .bool bb ∧ Hid (bb = !oldTo l y (⟨zs, zk, zh, zb, zg, za⟩ : Ch) i (i + 1 + q)) ∧ Below wz.heap.size wz wx) (fun _ jv _ => (((n - (i + 1) : Nat) : Int) - intOf jv).toNat)
            case atStart => exact ⟨0, true, rfl, by omega, rfl, (show _ = _ from by rw [Nat.add_zero, HST.out]; rfl), Below.refl _ _⟩
            case round =>
              obtain ⟨q, bb, rfl, hq, rfl, HBB, hbx⟩ := hrel
              have HBQ := Lib.hid hbx
              have HBW := Lib.hid (HBZ.out.trans (hbx.mono HBZ.out.size))
              have BXr := Lib.hid (Box.on BX.out hbx)
              by_cases hqt : q < n - (i + 1)
              · exact absurd hqt (by omega)
              · have hqe : i + 1 + q = n := by omega
                have HB2 := Lib.hid (show p (⟨zs, zk, zh, zb, zg, za⟩ : Ch) = bb from by
                  rw [HBB.out, hqe, oldTo_is HT.out y HIL.out HZ.out HLN.out, HP.out]
                  simp)
                obtain ⟨x0, x1, x2, x3, x4, x5⟩ : _ ∧ _ ∧ _ ∧ _ ∧ _ ∧ _ := let hx := BXr.out; ⟨Box.cell hx 0 rfl, Box.cell hx 1 rfl, Box.cell hx 2 rfl, Box.cell hx 3 rfl, Box.cell hx 4 rfl, Box.cell hx 5 rfl⟩
                clear hqe hbx hne hni
                cases bb with
                | false =>
                  have HF := Lib.hid (show (l.take (i + 1)).filter p = (l.take i).filter p from by rw [HTF.out, ← HZ.out, HB2.out]; simp)
                  have h8 := HBW.out
                  clear x0 x1 x2 x3 x4 x5
                  go_wp2
                  go_roundw
                  case rel => exact ⟨i + 1, k, by go_num, by omega, rfl, (show _ ∧ _ from by rw [HF.out]; exact ⟨HK.out.1, by have := HK.out.2; omega⟩), h8⟩
                  case measure => simp [intOf]; omega
                | true =>
                  have HF := Lib.hid (show (l.take (i + 1)).filter p = (l.take i).filter p ++ [(⟨zs, zk, zh, zb, zg, za⟩ : Ch)] from by rw [HTF.out, ← HZ.out, HB2.out]; simp)
                  have hget : N[k]? = some (⟨zs, zk, zh, zb, zg, za⟩ : Ch) := by
                    have h1 := HFA.out (by rw [← HZ.out]; exact HB2.out)
                    rw [← HNP.out, ← HK.out.1, ← HZ.out] at h1
                    exact h1
                  have hkN : k < N.length := (List.getElem?_eq_some_iff.1 hget).1
                  have hgt : N[k]'hkN = (⟨zs, zk, zh, zb, zg, za⟩ : Ch) := (List.getElem?_eq_some_iff.1 hget).2
                  have hknn : k < nn := by rw [← HNN.out]; exact hkN
                  obtain ⟨an, hAn, han, hcn⟩ := (HAN.out.below HBW.out).seeC (by omega)
                  obtain ⟨e0, e1, e2, e3, e4, e5⟩ := hcn k hkN
                  rw [hgt] at e0 e1 e2 e3 e4 e5
                  simp only at e0 e1 e2 e3 e4 e5
                  subst hAn
                  have hkd : decide ((nn : Int) ≤ (k : Int)) = false := by simp; omega
                  have hki : (k : Int) < (nn : Int) := by omega
                  have h8 := HBW.out
                  clear hcn hgt hget hkN han
                  go_wp2
                  go_quiet (fail)
                  go_wp2
                  go_roundw
                  case rel => exact ⟨i + 1, k + 1, by go_num, by omega, by go_num, (show _ ∧ _ from by rw [HF.out, List.length_append, ← HK.out.1]; exact ⟨rfl, by have := HK.out.2; omega⟩), below_drewN h8 _⟩
                  case measure => simp [intOf]; omega
          · go_wp2
            go_loopw [13, 46] (fun bv jv wx => ∃ (q : Nat) (bb : Bool), jv = .int .i64 q ∧ q ≤ n - (i + 1) ∧ bv = .bool bb ∧ Hid (bb = !oldTo l y (⟨zs, zk, zh, zb, zg, za⟩ : Ch) i (i + 1 + q)) ∧ Below wz.heap.size wz wx) (fun _ jv _ => (((n - (i + 1) : Nat) : Int) - intOf jv).toNat)
            case atStart => exact ⟨0, true, rfl, by omega, rfl, (show _ = _ from by rw [Nat.add_zero, HST.out]; rfl), Below.refl _ _⟩
            case round =>
              obtain ⟨q, bb, rfl, hq, rfl, HBB, hbx⟩ := hrel
              have HBQ := Lib.hid hbx
              have HBW := Lib.hid (HBZ.out.trans (hbx.mono HBZ.out.size))
              have BXr := Lib.hid (Box.on BX.out hbx)
              by_cases hqt : q < n - (i + 1)
              · have hql : i + 1 + q < l.length := by rw [HLN.out]; omega
                obtain ⟨ad', ea, hab, hca⟩ := (HA5.out.below HBW.out).seeC (by rw [HLN.out]; omega)
                injection ea with ea
                subst ea
                obtain ⟨d0, d1, d2, d3, d4, d5⟩ := hca (i + 1 + q) hql
                rw [show (i + 1 + q) * 6 = (i + 1) * 6 + q * 6 from by omega, ← Go.Addr.add_add] at d0 d1 d2 d3 d4 d5
                have HSTEP := Lib.hid (oldTo_step (s := y) (c := (⟨zs, zk, zh, zb, zg, za⟩ : Ch)) (i := i) hql (by omega))
                obtain ⟨u, hu⟩ : ∃ u, u = l[i + 1 + q]'hql := ⟨_, rfl⟩
                rw [← hu] at d0 d1 d2 d3 d4 d5 HSTEP
                clear hu hca
                obtain ⟨us, uk, uh, ub, ug, ua⟩ := u
                simp only at d0 d1 d2 d3 d4 d5 HSTEP
                go_upto_region 13 with fail
                obtain ⟨gy, hgy⟩ : ∃ gy, gy = wr.heap.size := ⟨_, rfl⟩
                obtain ⟨wy, hwy⟩ : ∃ wy, wy = wr.alloc (.cells #[.int .i64 us, .string uk, .bool uh, .string ub, .bool ug, .string ua] 30) := ⟨_, rfl⟩
                rw [← hgy, ← hwy]
                have hb : Below wr.heap.size wr wy := by rw [hwy]; exact (Below.refl _ _).alloc (Nat.le_refl _) _
                obtain ⟨y0, y1⟩ : _ ∧ _ := let hx := (show Box wy gy 30 #[.int .i64 us, .string uk, .bool uh, .string ub, .bool ug, .string ua] from by rw [hwy]; exact Box.at_ wr _ _ hgy); ⟨Box.cell hx 0 rfl, Box.cell hx 1 rfl⟩
                have x1 := Box.cell (Box.on BXr.out hb) 1 rfl
                have hby : Below wz.heap.size wz wy := HBQ.out.trans (hb.mono HBQ.out.size)
                have HEQ : i + 1 + (q + 1) = i + 1 + q + 1 := by omega
                clear hb hgy hwy d0 d1 d2 d3 d4 d5 hbx hab
                rcases he : (uk.toList == zk.toList) with _ | _
                · have HN2 := Lib.hid (show bb = !oldTo l y (⟨zs, zk, zh, zb, zg, za⟩ : Ch) i (i + 1 + (q + 1)) from by rw [HEQ, HSTEP.out, ← key_eq, he, HBB.out]; simp)
                  clear HEQ
                  cases bb <;>
                  · go_wp2
                    go_roundw
                    case rel => exact ⟨q + 1, _, by go_num, by omega, rfl, HN2, hby⟩
                    case measure => simp [intOf]; omega
                · by_cases hs : us ≤ y
                  · have hd : decide (y < us) = false := decide_eq_false (by omega)
                    have HN2 := Lib.hid (show false = !oldTo l y (⟨zs, zk, zh, zb, zg, za⟩ : Ch) i (i + 1 + (q + 1)) from by rw [HEQ, HSTEP.out, ← key_eq, he, decide_eq_true hs]; simp)
                    clear HEQ hs
                    cases bb <;>
                    · go_wp2
                      go_roundw
                      case rel => exact ⟨q + 1, _, by go_num, by omega, rfl, HN2, hby⟩
                      case measure => simp [intOf]; omega
                  · have hd : decide (y < us) = true := decide_eq_true (by omega)
                    have HN2 := Lib.hid (show bb = !oldTo l y (⟨zs, zk, zh, zb, zg, za⟩ : Ch) i (i + 1 + (q + 1)) from by rw [HEQ, HSTEP.out, ← key_eq, he, decide_eq_false hs, HBB.out]; simp)
                    clear HEQ hs
                    cases bb <;>
                    · go_wp2
                      go_roundw
                      case rel => exact ⟨q + 1, _, by go_num, by omega, rfl, HN2, hby⟩
                      case measure => simp [intOf]; omega
              · have hqe : i + 1 + q = n := by omega
                have HB2 := Lib.hid (show p (⟨zs, zk, zh, zb, zg, za⟩ : Ch) = bb from by
                  rw [HBB.out, hqe, oldTo_is HT.out y HIL.out HZ.out HLN.out, HP.out]
                  simp)
                obtain ⟨x0, x1, x2, x3, x4, x5⟩ : _ ∧ _ ∧ _ ∧ _ ∧ _ ∧ _ := let hx := BXr.out; ⟨Box.cell hx 0 rfl, Box.cell hx 1 rfl, Box.cell hx 2 rfl, Box.cell hx 3 rfl, Box.cell hx 4 rfl, Box.cell hx 5 rfl⟩
                clear hqe hbx
                cases bb with
                | false =>
                  have HF := Lib.hid (show (l.take (i + 1)).filter p = (l.take i).filter p from by rw [HTF.out, ← HZ.out, HB2.out]; simp)
                  have h8 := HBW.out
                  clear x0 x1 x2 x3 x4 x5
                  go_wp2
                  go_roundw
                  case rel => exact ⟨i + 1, k, by go_num, by omega, rfl, (show _ ∧ _ from by rw [HF.out]; exact ⟨HK.out.1, by have := HK.out.2; omega⟩), h8⟩
                  case measure => simp [intOf]; omega
                | true =>
                  have HF := Lib.hid (show (l.take (i + 1)).filter p = (l.take i).filter p ++ [(⟨zs, zk, zh, zb, zg, za⟩ : Ch)] from by rw [HTF.out, ← HZ.out, HB2.out]; simp)
                  have hget : N[k]? = some (⟨zs, zk, zh, zb, zg, za⟩ : Ch) := by
                    have h1 := HFA.out (by rw [← HZ.out]; exact HB2.out)
                    rw [← HNP.out, ← HK.out.1, ← HZ.out] at h1
                    exact h1
                  have hkN : k < N.length := (List.getElem?_eq_some_iff.1 hget).1
                  have hgt : N[k]'hkN = (⟨zs, zk, zh, zb, zg, za⟩ : Ch) := (List.getElem?_eq_some_iff.1 hget).2
                  have hknn : k < nn := by rw [← HNN.out]; exact hkN
                  obtain ⟨an, hAn, han, hcn⟩ := (HAN.out.below HBW.out).seeC (by omega)
                  obtain ⟨e0, e1, e2, e3, e4, e5⟩ := hcn k hkN
                  rw [hgt] at e0 e1 e2 e3 e4 e5
                  simp only at e0 e1 e2 e3 e4 e5
                  subst hAn
                  have hkd : decide ((nn : Int) ≤ (k : Int)) = false := by simp; omega
                  have hki : (k : Int) < (nn : Int) := by omega
                  have h8 := HBW.out
                  clear hcn hgt hget hkN han
                  go_wp2
                  go_quiet (fail)
                  go_wp2
                  go_roundw
                  case rel => exact ⟨i + 1, k + 1, by go_num, by omega, by go_num, (show _ ∧ _ from by rw [HF.out, List.length_append, ← HK.out.1]; exact ⟨rfl, by have := HK.out.2; omega⟩), below_drewN h8 _⟩
                  case measure => simp [intOf]; omega
        · have hin : i = n := by omega
          have HKN := Lib.hid (show k = nn from by
            rw [HK.out.1, hin, ← HNN.out, HNP.out, List.take_of_length_le (by rw [HLN.out]; exact Nat.le_refl _)])
          clear hin
          have hkn := HKN.out
          subst hkn
          have HBr := Lib.hid (HB5.out.trans (hbr.mono HB5.out.size))
          have VLr := Lib.hid (VL5.out.on hbr)
          have HAr := Lib.hid (HA5.out.on hbr)
          have VNr := Lib.hid (VN5.out.on hbr)
          clear hbr HB5 VL5 HA5 VN5 
          go_wp2_with fail
          refine (newest_v x VLr.out HL2.out).mono ?_
          rintro e w6 ⟨v1, rfl, hp, hb⟩
          have V16 := Lib.hid hp
          clear hp
          have HB6 := Lib.hid (HBr.out.trans (hb.mono HBr.out.size))
          have VL6 := Lib.hid (VLr.out.on hb)
          have HA6 := Lib.hid (HAr.out.on hb)
          have VN6 := Lib.hid (VNr.out.on hb)
          clear hb HBr VLr HAr VNr 
          have hk := newest_v y V16.out (by have := newest_len l x; have := HL.out; omega)
          rw [newest_twice HT.out HXY.out, HN.out] at hk
          go_wp2_with fail
          refine (hk).mono ?_
          rintro e w7 ⟨v2, rfl, hp, hb⟩
          have V27 := Lib.hid hp
          clear hp
          have HB7 := Lib.hid (HB6.out.trans (hb.mono HB6.out.size))
          have VL7 := Lib.hid (VL6.out.on hb)
          have HA7 := Lib.hid (HA6.out.on hb)
          have VN7 := Lib.hid (VN6.out.on hb)
          have V17 := Lib.hid (V16.out.on hb)
          clear hb HB6 VL6 HA6 VN6 V16 hk
          have hk := dsame_v V27.out VN7.out (by have := HNL.out; unfold maxLen; omega)
          rw [decide_eq_true rfl] at hk
          go_wp2_with fail
          refine (hk).mono ?_
          rintro e w8 ⟨rfl, hb⟩
          have HB8 := Lib.hid (HB7.out.trans (hb.mono HB7.out.size))
          have VL8 := Lib.hid (VL7.out.on hb)
          have HA8 := Lib.hid (HA7.out.on hb)
          have VN8 := Lib.hid (VN7.out.on hb)
          have V18 := Lib.hid (V17.out.on hb)
          have V28 := Lib.hid (V27.out.on hb)
          clear hb HB7 VL7 HA7 VN7 V17 V27 hk
          have hk := right_v VN8.out (by have := HNL.out; unfold maxLen; omega)
          rw [show trailB N = true from by rw [← HN.out]; exact trail_t.2 (newest_trail HT.out y)] at hk
          go_wp2_with fail
          refine (hk).mono ?_
          rintro e w9 ⟨rfl, hb⟩
          have HB9 := Lib.hid (HB8.out.trans (hb.mono HB8.out.size))
          have VL9 := Lib.hid (VL8.out.on hb)
          have HA9 := Lib.hid (HA8.out.on hb)
          have VN9 := Lib.hid (VN8.out.on hb)
          have V19 := Lib.hid (V18.out.on hb)
          have V29 := Lib.hid (V28.out.on hb)
          clear hb HB8 VL8 HA8 VN8 V18 V28 hk
          have hk := last_v VN9.out (by have := HNL.out; unfold maxLen; omega)
          rw [show lastL N = lastL l from by rw [← HN.out]; exact newest_end HT.out y] at hk
          obtain ⟨zl, hzl⟩ : ∃ z, lastL l = z := ⟨_, rfl⟩
          rw [hzl] at hk
          have HZL := Lib.hid hzl
          clear hzl
          go_wp2_with fail
          refine (hk).mono ?_
          rintro e w10 ⟨rfl, hb⟩
          have HB10 := Lib.hid (HB9.out.trans (hb.mono HB9.out.size))
          have VL10 := Lib.hid (VL9.out.on hb)
          have HA10 := Lib.hid (HA9.out.on hb)
          have VN10 := Lib.hid (VN9.out.on hb)
          have V110 := Lib.hid (V19.out.on hb)
          have V210 := Lib.hid (V29.out.on hb)
          clear hb HB9 VL9 HA9 VN9 V19 V29 hk
          have hk := last_v VL10.out HMX.out
          rw [HZL.out] at hk
          go_wp2_with fail
          refine (hk).mono ?_
          rintro e w11 ⟨rfl, hb⟩
          have HB11 := Lib.hid (HB10.out.trans (hb.mono HB10.out.size))
          have VL11 := Lib.hid (VL10.out.on hb)
          have HA11 := Lib.hid (HA10.out.on hb)
          have VN11 := Lib.hid (VN10.out.on hb)
          have V111 := Lib.hid (V110.out.on hb)
          have V211 := Lib.hid (V210.out.on hb)
          clear hb HB10 VL10 HA10 VN10 V110 V210 hk
          go_wp2_with fail
          refine (awake_true _).mono ?_
          rintro e w12 ⟨rfl, hb⟩
          have HB12 := Lib.hid (HB11.out.trans (hb.mono HB11.out.size))
          clear hb HB11 
          go_wp2
          go_ret
          exact ⟨rfl, HB12.out⟩

end Go.Proofs.Ytidigbjlglomhaa
