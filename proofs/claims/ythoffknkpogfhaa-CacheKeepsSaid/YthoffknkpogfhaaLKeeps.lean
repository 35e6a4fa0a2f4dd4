/- The walk of CacheKeeps: of items that are all dirty each one is still there, or went, just once. -/
import Derived.Test.YthoffknkpogfhaaKp
set_option linter.unusedVariables false
set_option linter.unusedSimpArgs false
namespace Go.Proofs.Ythoffknkpogfhaa
open Go.RowKit

theorem count_next (x : It) (S : List It) (j : Nat) (h : j < S.length) : (S.take (j + 1)).count x = (S.take j).count x + if S[j] = x then 1 else 0 := by
  rw [List.take_succ_eq_append_getElem h, List.count_append, List.count_singleton]
  congr 1
  by_cases e : S[j] = x
  · simp [e]
  · simp [e]

set_option maxRecDepth 100000 in
set_option maxHeartbeats 8000000 in
theorem keeps_walk (u : Nat) (it : Value) (xs : List Int) (w : World) (hv : NVi w it xs) (hn : xs.length ≤ maxLen) (hu : u ≤ 255) :
    Calls Try.prog 5 #[.int .u8 (u : Int), it] w fun e w' => e = .returned (.bool true) ∧ Below w.heap.size w w' := by
  obtain ⟨AX, cx, rfl⟩ := hv.shape rfl
  obtain ⟨nx, hl⟩ : ∃ nx, xs.length = nx := ⟨_, rfl⟩
  rw [hl] at hv hn ⊢
  have HL := Lib.hid hl
  unfold maxLen at hn
  have HVW := Lib.hid hv
  have HBZ := Lib.hid (Below.refl w.heap.size w)
  clear hv hl
  by_cases h60 : nx ≤ 60
  · have hd : decide ((60 : Int) < (nx : Int)) = false := by simp; omega
    obtain ⟨N, hN⟩ : ∃ N, N = 1 + u % 20 := ⟨_, rfl⟩
    have HN := Lib.hid (show 1 ≤ N ∧ N ≤ 20 from by omega)
    have hN20 : N ≤ 20 := by omega
    have e1 : (u : Int) % 20 = ((u % 20 : Nat) : Int) := by omega
    obtain ⟨q, hq⟩ : ∃ q, q = u % 20 := ⟨_, rfl⟩
    rw [← hq] at e1
    have hq19 : q ≤ 19 := by omega
    have e2 : IntKind.u8.wrap (q : Int) = (q : Int) := by rw [IntKind.wrap_u8]; omega
    have e3 : IntKind.i64.wrap (q : Int) = (q : Int) := by rw [IntKind.wrap_i64]; omega
    have e4 : IntKind.i64.wrap (1 + (q : Int)) = (N : Int) := by rw [IntKind.wrap_i64]; omega
    clear hN hq
    go_enter Try.func5, Try.ntmps5
    go_upto_region 3 with fail
    go_wp2_with fail
    refine (new_s N HN.out.1 (by have := HN.out.2; omega) _).mono ?_
    rintro e w1 ⟨rfl, hb⟩
    have HB1 := Lib.hid (HBZ.out.trans (hb.mono HBZ.out.size))
    clear hb HBZ e1 e2 e3 e4 hq19
    go_upto_region 4 with fail
    obtain ⟨g5, hg5⟩ : ∃ g5, g5 = w1.heap.size := ⟨_, rfl⟩
    obtain ⟨w2, hz0⟩ : ∃ wz, wz = w1.alloc (.cells #[.int .i64 (N : Int), .slice none 0 0] 24) := ⟨_, rfl⟩
    rw [← hg5, ← hz0]
    have hb : Below w1.heap.size w1 w2 := by rw [hz0]; exact ((Below.refl _ _).alloc (Nat.le_refl _) _)
    have B52 := Lib.hid (show Box w2 g5 24 #[.int .i64 (N : Int), .slice none 0 0] from (by rw [hz0]; exact Box.at_ w1 _ _ hg5))
    have HGg5 := Lib.hid (show w.heap.size ≤ g5 from by rw [hg5]; exact HB1.out.size)
    have HB2 := Lib.hid (HB1.out.trans (hb.mono HB1.out.size))
    clear hb HB1 hg5  hz0
    have hnx0 : ¬ ((nx : Int) < 0) := by omega
    go_wp2
    go_loopw [7, 38] (fun av iv wr => ∃ (k : Nat) (A' : Option Addr) (c' : Nat), iv = .int .i64 k ∧ av = .slice A' k c' ∧ k ≤ nx ∧ Hid ((xs.take k).Nodup) ∧ Hid (wr.ownsRow w2.heap.size 27 3 (.slice A' k c') k (((xs.map dirt).take k).flatMap It.cells)) ∧ Below w2.heap.size w2 wr) (fun _ iv _ => (nx - intOf iv).toNat)
    case atStart =>
      refine ⟨0, none, 0, rfl, rfl, by omega, ?_, ?_, Below.refl _ _⟩
      · show List.Nodup _
        simp
      · show World.ownsRow _ _ _ _ _ _ _
        simpa using World.ownsRow_nil w2 w2.heap.size _ 3
    case round =>
      obtain ⟨k, A', c', rfl, rfl, hk, HND, HO, hbr⟩ := hrel
      by_cases hlt : k < nx
      · obtain ⟨ad, rfl, hab, hca⟩ := (show Lies intC 1 wr wr.heap.size AX xs from by obtain ⟨A', c', e, h, _⟩ := HVW.out.on (HB2.out.trans (hbr.mono HB2.out.size)); injection e with e1 _ _; rw [e1]; exact h).seeJ (by rw [HL.out]; omega)
        have hkl : k < xs.length := by rw [HL.out]; exact hlt
        have c1 := hca k hkl
        obtain ⟨x, hx⟩ : ∃ x, x = xs[k]'hkl := ⟨_, rfl⟩
        rw [← hx] at c1
        have HX := Lib.hid hx
        have HKL := Lib.hid hkl
        have HBR := Lib.hid hbr
        have hkc : k ≤ cx := by
          obtain ⟨_, _, e, _, h, _⟩ := HVW.out
          injection e with _ _ e3
          have := HL.out
          rw [e3]; omega
        have hkn : (k : Int) ≤ (nx : Int) := by omega
        have hk0 : ¬ ((k : Int) < 0) := by omega
        have HCA := Lib.hid (show ∀ (i : Nat) (h : i < xs.length), wr.cell? (ad.add i) = some (.int .i64 xs[i]) from hca)
        clear hca hx hab
        go_wp2
        go_loopw [47] (fun jv wx => ∃ (jj : Nat), jv = .int .i64 jj ∧ jj ≤ k ∧ Hid (∀ (i : Nat) (h : i < xs.length), i < jj → xs[i] ≠ x) ∧ Below wr.heap.size wr wx) (fun jv _ => (k - intOf jv).toNat)
        case atStart => exact ⟨0, rfl, by omega, (show ∀ (i : Nat) (h : i < xs.length), i < 0 → xs[i] ≠ x from fun i _ h => absurd h (Nat.not_lt_zero _)), Below.refl _ _⟩
        case round =>
          obtain ⟨jj, rfl, hjj, HNE, hbx⟩ := hrel
          by_cases hjk : jj < k
          · have hjl : jj < xs.length := by rw [HL.out]; omega
            have d1 := (hbx.cell (lt_of_cell (HCA.out jj hjl))).trans (HCA.out jj hjl)
            obtain ⟨z, hz⟩ : ∃ z, z = xs[jj]'hjl := ⟨_, rfl⟩
            rw [← hz] at d1
            by_cases hxz : x = z
            · have hbz : (x == z) = true := by simp [hxz]
              have HBZ2 := Lib.hid ((HB2.out.trans (HBR.out.mono HB2.out.size)).trans (hbx.mono (HB2.out.trans (HBR.out.mono HB2.out.size)).size))
              clear hz hxz
              go_wp2_with fail
              refine (awake_true _).mono ?_
              rintro e w9 ⟨rfl, hb⟩
              have HBZ3 := Lib.hid (HBZ2.out.trans (hb.mono HBZ2.out.size))
              clear hb
              go_wp2
              go_ret
              exact ⟨rfl, HBZ3.out⟩
            · have hbz : (x == z) = false := by simp [hxz]
              have HNE2 := Lib.hid (show ∀ (i : Nat) (h : i < xs.length), i < jj + 1 → xs[i] ≠ x from fun i h hi => by
                rcases Nat.lt_or_ge i jj with h1 | h1
                · exact HNE.out i h h1
                · obtain rfl : i = jj := by omega
                  rw [← hz]
                  exact fun e => hxz e.symm)
              clear hz hxz
              go_wp2
              go_roundw
              case rel => exact ⟨jj + 1, by go_num, by omega, HNE2.out, hbx⟩
              case measure => simp [intOf]; omega
          · have HND2 := Lib.hid (show (xs.take (k + 1)).Nodup from by
              rw [List.take_succ_eq_append_getElem HKL.out, List.nodup_append]
              refine ⟨HND.out, by simp, fun a ha b hb e => ?_⟩
              simp only [List.mem_singleton] at hb
              subst hb
              obtain ⟨i, hi, he⟩ := List.getElem_of_mem ha
              rw [List.length_take] at hi
              rw [List.getElem_take] at he
              refine HNE.out i (by omega) (by omega) ?_
              rw [he, e, HX.out])
            have HST := Lib.hid (show ((xs.map dirt).take (k + 1)).flatMap It.cells = ((xs.map dirt).take k).flatMap It.cells ++ It.cells ⟨x, ⟨#[]⟩, true⟩ from by
              rw [List.take_succ_eq_append_getElem (by rw [List.length_map]; exact HKL.out), List.flatMap_append, List.getElem_map, HX.out]
              simp [dirt])
            have HBR2 := Lib.hid (HBR.out.trans (hbx.mono HBR.out.size))
            have HO2 := Lib.hid (own_on HO.out hbx)
            clear hbx
            go_wp2_with (at_builtin; refine push_it item_info Try.underlying22 _ rfl _ _ rfl w2.heap.size _ k _ rfl (own_on HO2.out ((Below.refl _ _).alloc (Nat.le_refl _) _)) wr.heap.size ⟨x, ⟨#[]⟩, true⟩ rfl (Box.fresh _ _ _) (by omega) (by have := HBR2.out.size; simp; omega) ?_)
            intro ov' w12 hown hgr hat
            obtain ⟨A9, c9, rfl⟩ := own_shape hown
            have hb1 : Below wr.heap.size wr (wr.alloc (.cells #[.int .i64 x, .string ⟨#[]⟩, .bool true] 27)) := (Below.refl _ _).alloc (Nat.le_refl _) _
            have HBR3 := Lib.hid ((HBR2.out.trans (hb1.mono HBR2.out.size)).grown hgr (by have := HBR2.out.size; simp; omega) (fun q hq => (own_lt HO2.out hq).1))
            have HO3 := Lib.hid (show w12.ownsRow w2.heap.size 27 3 (.slice A9 (k + 1) c9) (k + 1) (((xs.map dirt).take (k + 1)).flatMap It.cells) from by
              rw [HST.out]
              exact hown)
            clear hown hgr hat hb1 c1
            go_wp2
            go_roundw
            case rel => exact ⟨k + 1, A9, c9, by go_num, rfl, by omega, HND2.out, HO3.out, HBR3.out⟩
            case measure => simp [intOf]; omega

      · obtain ⟨L, hL⟩ : ∃ L, L = xs.map dirt := ⟨_, rfl⟩
        have HLL := Lib.hid (show L.length = nx from by rw [hL, List.length_map, HL.out])
        have hLA : L.map It.a = xs := by rw [hL, List.map_map]; exact List.map_id' xs
        have HLN := Lib.hid (show (L.map It.a).Nodup from by
          have h := HND.out
          rw [List.take_of_length_le (by rw [HL.out]; omega)] at h
          rw [hLA]; exact h)
        have HLD := Lib.hid (show ∀ x ∈ L, x.d = true from fun x hx => by rw [hL] at hx; obtain ⟨a, _, rfl⟩ := List.mem_map.1 hx; rfl)
        have hkn : k = nx := by omega
        have HVA := Lib.hid (show IV wr (.slice A' nx c') L from by
          have h := HO.out
          rw [List.take_of_length_le (by rw [List.length_map, HL.out]; omega), ← hL, hkn] at h
          exact IV.own h HLL.out.symm)
        subst hkn
        obtain ⟨P, hP⟩ : ∃ P, P = (putL N [] L).1 := ⟨_, rfl⟩
        obtain ⟨O, hO⟩ : ∃ O, O = (putL N [] L).2 := ⟨_, rfl⟩
        have hRR := right_nil N HN.out.1 (by have := HN.out.2; omega)
        have HPUT := Lib.hid (show putC (N : Int) [] L = (P, O) from by unfold putC; rw [if_pos hRR, hP, hO])
        have HER := Lib.hid (show (if rightL (N : Int) [] = true then 0 else 1 : Int) = 0 from by rw [hRR]; rfl)
        have HPR := Lib.hid (show rightL N P = true from by rw [hP]; exact put_right hRR _)
        have HPM := Lib.hid (show (O ++ P).Perm L from by rw [hP, hO]; exact keep_perm N HN.out.1 (by have := HN.out.2; omega) L HLN.out HLD.out)
        have HPD := Lib.hid (show ∀ x ∈ P, x.d = true from fun x hx => HLD.out x (HPM.out.subset (List.mem_append_right _ hx)))
        have HCL := Lib.hid (show cleanC (N : Int) P = (P.map wash, P) from by unfold cleanC; rw [if_pos HPR.out, filter_all HPD.out])
        have HCL2 := Lib.hid (show cleanC (N : Int) (P.map wash) = ((P.map wash).map wash, []) from by unfold cleanC; rw [if_pos (right_wash HPR.out), filter_wash])
        have HPL := Lib.hid (right_len HPR.out)
        obtain ⟨np, hnp⟩ : ∃ np, P.length = np := ⟨_, rfl⟩
        obtain ⟨no, hno⟩ : ∃ no, O.length = no := ⟨_, rfl⟩
        have HNP := Lib.hid hnp
        have HNO := Lib.hid hno
        have HSUM := Lib.hid (show no + np = k from by
          have h := HPM.out.length_eq
          rw [List.length_append, hno, hnp, HLL.out] at h
          exact h)
        have HBe := Lib.hid (HB2.out.trans (hbr.mono HB2.out.size))
        have B5e := Lib.hid (B52.out.on hbr)
        have VAe := HVA
        clear hL hLA hP hO hRR hnp hno hbr HVA hlt
        obtain ⟨we, hwe⟩ : ∃ we, we = wr := ⟨_, rfl⟩
        rw [← hwe] at HBe B5e VAe ⊢
        clear hwe
        have kB50 := Box.cell B5e.out 0 rfl
        have kB51 := Box.cell B5e.out 1 rfl
        go_wp2_with fail
        refine (put_s (l := []) (xs := L) (N : Int) _ (IV.nil _) (by simp) VAe.out (by rw [HLL.out]; omega) HPUT.out HNP.out HNO.out HER.out).mono ?_
        rintro e w1 ⟨A1, c1, B1, d1, rfl, h1, h2, hb⟩
        have VP1 := Lib.hid h1
        clear h1
        have VO1 := Lib.hid h2
        clear h2
        have HB1 := Lib.hid (HBe.out.trans (hb.mono HBe.out.size))
        have B51 := Lib.hid (B5e.out.on hb)
        have VA1 := Lib.hid (VAe.out.on hb)
        clear hb HBe B5e VAe kB50 kB51
        have kk0 := Box.cell B51.out 0 rfl
        have ff0 := Box.free B51.out 0
        have kk1 := Box.cell B51.out 1 rfl
        have ff1 := Box.free B51.out 1
        go_upto_region 17 with fail
        obtain ⟨w2, hw⟩ : ∃ wz, wz = (w1.setCell ⟨g5, 0, none⟩ (.int .i64 (N : Int))).setCell ⟨g5, 1, none⟩ (.slice A1 np c1) := ⟨_, rfl⟩
        rw [← hw]
        have HB2 := Lib.hid (show Below w.heap.size w w2 from by rw [hw]; exact below_two HB1.out HGg5.out)
        have B52 := Lib.hid (show Box w2 g5 24 #[.int .i64 (N : Int), .slice A1 np c1] from by rw [hw]; exact (Box.set B51.out 0 _).set 1 _)
        have VA2 := Lib.hid (show IV w2 _ _ from by rw [hw]; exact iv_put VA1.out B51.out)
        have VP2 := Lib.hid (show IV w2 _ _ from by rw [hw]; exact iv_put VP1.out B51.out)
        have VO2 := Lib.hid (show IV w2 _ _ from by rw [hw]; exact iv_put VO1.out B51.out)
        clear hw kk0 kk1 ff0 ff1 HB1 B51 VA1 VP1 VO1 
        have kB50 := Box.cell B52.out 0 rfl
        have kB51 := Box.cell B52.out 1 rfl
        go_wp2_with fail
        refine (clean_s (np := np) (no := np) (N : Int) _ VP2.out (Nat.le_trans HPL.out (by decide)) HCL.out (by rw [List.length_map]; exact HNP.out) HNP.out).mono ?_
        rintro e w3 ⟨A2, c2, B2, d2, rfl, h1, h2, hb⟩
        have VW3 := Lib.hid h1
        clear h1
        have VD3 := Lib.hid h2
        clear h2
        have HB3 := Lib.hid (HB2.out.trans (hb.mono HB2.out.size))
        have B53 := Lib.hid (B52.out.on hb)
        have VA3 := Lib.hid (VA2.out.on hb)
        have VP3 := Lib.hid (VP2.out.on hb)
        have VO3 := Lib.hid (VO2.out.on hb)
        clear hb HB2 B52 VA2 VP2 VO2 kB50 kB51
        go_upto_region 18 with fail
        obtain ⟨g14, hg14⟩ : ∃ g14, g14 = w3.heap.size := ⟨_, rfl⟩
        obtain ⟨w4, hz0⟩ : ∃ wz, wz = w3.alloc (.cells #[.int .i64 (N : Int), .slice A2 np c2] 24) := ⟨_, rfl⟩
        rw [← hg14, ← hz0]
        have hb : Below w3.heap.size w3 w4 := by rw [hz0]; exact ((Below.refl _ _).alloc (Nat.le_refl _) _)
        have B144 := Lib.hid (show Box w4 g14 24 #[.int .i64 (N : Int), .slice A2 np c2] from (by rw [hz0]; exact Box.at_ w3 _ _ hg14))
        have HGg14 := Lib.hid (show w.heap.size ≤ g14 from by rw [hg14]; exact HB3.out.size)
        have HN_g14_g5 := Lib.hid (show g14 ≠ g5 from by have := B53.out.lt; omega)
        have HB4 := Lib.hid (HB3.out.trans (hb.mono HB3.out.size))
        have B54 := Lib.hid (B53.out.on hb)
        have VA4 := Lib.hid (VA3.out.on hb)
        have VP4 := Lib.hid (VP3.out.on hb)
        have VO4 := Lib.hid (VO3.out.on hb)
        have VW4 := Lib.hid (VW3.out.on hb)
        have VD4 := Lib.hid (VD3.out.on hb)
        clear hb HB3 B53 VA3 VP3 VO3 VW3 VD3 hg14  hz0
        have hown0 : (w4.alloc (.cells #[] 27)).ownsRow w4.heap.size 27 3 (.slice (some ⟨w4.heap.size, 0, none⟩) 0 0) 0 [] := by exact World.ownsRow_made w4 #[] 0 (Nat.le_refl _) (Nat.zero_le _) rfl
        obtain ⟨va, wa, r1, o1, g1, a1⟩ := run_app_iv item_info Try.underlying22 (w4.alloc (.cells #[] 27)) w4.heap.size _ 0 [] hown0 (VO4.out.push _) (by rw [HNO.out]; have := HSUM.out; omega) (by simp)
        have hba : Below w4.heap.size w4 wa := ((Below.refl _ w4).alloc (Nat.le_refl _) _).grown g1 (by simp) (fun q hq => (own_lt hown0 hq).1)
        obtain ⟨vb, wb, r2, o2, g2, a2⟩ := run_app_iv item_info Try.underlying22 wa w4.heap.size va (0 + O.length) _ o1 (VD4.out.on hba) (by rw [HNO.out, HNP.out]; have := HSUM.out; omega) hba.size
        have hbb : Below w4.heap.size w4 wb := hba.grown g2 hba.size (fun q hq => (own_lt o1 hq).1)
        rw [Nat.zero_add, List.nil_append, ← List.flatMap_append, HNO.out, HNP.out, HSUM.out] at o2
        obtain ⟨Ab, cb, rfl⟩ := own_shape o2
        have hvb := IV.own (e := 27) o2 (by rw [List.length_append, HNO.out, HNP.out, HSUM.out])
        have hrr1 : ∀ ty, (Builtin.append_ #[22, 22] ty #[.slice (some ⟨w4.heap.size, 0, none⟩) 0 0, .slice B1 no d1]).run Try.prog (w4.alloc (.cells #[] 27)) = .ok va wa := r1
        have HHB := Lib.hid hbb
        have HVB := Lib.hid hvb
        clear hown0 o1 g1 a1 hba o2 g2 a2 hbb hvb r1
        go_wp2_with (at_builtin; first | refine Lib.wpList_append_run _ rfl _ _ _ _ rfl _ _ rfl rfl _ _ (hrr1 _) ?_ | refine Lib.wpList_append_run _ rfl _ _ _ _ rfl _ _ rfl rfl _ _ (r2 _) ?_)
        obtain ⟨S, hS⟩ : ∃ S, S = O ++ P := ⟨_, rfl⟩
        rw [← hS] at HVB
        have HSP := Lib.hid (show S.Perm L from by rw [hS]; exact HPM.out)
        have HSL := Lib.hid (show S.length = k from by rw [HSP.out.length_eq, HLL.out])
        have HLND := Lib.hid (show L.Nodup from by
          have h := HLN.out
          rw [List.nodup_iff_pairwise_ne, List.pairwise_map] at h
          exact h.imp (fun h e => h (by rw [e])))
        have HBb := Lib.hid (HB4.out.trans (HHB.out.mono HB4.out.size))
        have B5b := Lib.hid (B54.out.on HHB.out)
        have B14b := Lib.hid (B144.out.on HHB.out)
        have VAb := Lib.hid (VA4.out.on HHB.out)
        have VWb := Lib.hid (VW4.out.on HHB.out)
        have VSb := HVB
        have hk0 : ¬ ((k : Int) < 0) := by omega
        clear hS HVB HHB HB4 B54 B144 VA4 VW4 VO4 VP4 VD4
        go_loopw [81] (fun iv wr => ∃ (i : Nat), iv = .int .i64 i ∧ i ≤ k ∧ Below wb.heap.size wb wr) (fun iv _ => (k - intOf iv).toNat)
        case atStart => exact ⟨0, rfl, by omega, Below.refl _ _⟩
        case round =>
          obtain ⟨i, rfl, hik, hbr⟩ := hrel
          by_cases hlt : i < k
          · obtain ⟨aa, rfl, hab, hca⟩ := (show Its wr wr.heap.size A' L from by obtain ⟨A'', c'', e, h, _⟩ := VAb.out.on hbr; injection e with e1 _ _; rw [e1]; exact h).seeI (by rw [HLL.out]; omega)
            have hkl : i < L.length := by rw [HLL.out]; exact hlt
            obtain ⟨c1', c2', c3'⟩ := hca i hkl
            obtain ⟨x, hx⟩ : ∃ x, x = L[i]'hkl := ⟨_, rfl⟩
            rw [← hx] at c1' c2' c3'
            have HXL := Lib.hid (show S.count x = 1 from by
              rw [HSP.out.count_eq]
              have h1 := List.nodup_iff_count.1 HLND.out x
              have h2 : 0 < L.count x := List.count_pos_iff.2 (by rw [hx]; exact List.getElem_mem _)
              omega)
            have HBR := Lib.hid hbr
            clear hca hx hkl hab
            obtain ⟨xa, xt, xd⟩ := x
            simp only at c1' c2' c3'
            go_upto_region 22 with fail
            obtain ⟨g18, hg18⟩ : ∃ g18, g18 = wr.heap.size := ⟨_, rfl⟩
            obtain ⟨wo, hwo⟩ : ∃ wo, wo = wr.alloc (.cells #[.int .i64 xa, .string xt, .bool xd] 27) := ⟨_, rfl⟩
            rw [← hg18, ← hwo]
            have hb : Below wr.heap.size wr wo := by rw [hwo]; exact (Below.refl _ _).alloc (Nat.le_refl _) _
            have B18 := Lib.hid (show Box wo g18 27 #[.int .i64 xa, .string xt, .bool xd] from by rw [hwo]; exact Box.at_ wr _ _ hg18)
            have HBO := Lib.hid (HBR.out.trans (hb.mono HBR.out.size))
            clear hb hg18 hwo c1' c2' c3' hbr HBR
            go_wp2
            go_loopw [19, 87] (fun mv jv wx => ∃ (j m : Nat), jv = .int .i64 j ∧ mv = .int .i64 m ∧ j ≤ k ∧ m ≤ j ∧ Hid (m = (S.take j).count ⟨xa, xt, xd⟩) ∧ Below wo.heap.size wo wx) (fun _ jv _ => (k - intOf jv).toNat)
            case atStart => exact ⟨0, 0, rfl, rfl, by omega, by omega, (show _ = _ from by simp), Below.refl _ _⟩
            case round =>
              obtain ⟨j, m, rfl, rfl, hjk, hmj, HM, hbx⟩ := hrel
              by_cases hjl : j < k
              · obtain ⟨ab, rfl, hab, hcb⟩ := (show Its wr wr.heap.size Ab S from by obtain ⟨A'', c'', e, h, _⟩ := VSb.out.on (HBO.out.trans (hbx.mono HBO.out.size)); injection e with e1 _ _; rw [e1]; exact h).seeI (by rw [HSL.out]; omega)
                have hjs : j < S.length := by rw [HSL.out]; exact hjl
                obtain ⟨d1, d2, d3⟩ := hcb j hjs
                obtain ⟨y, hy⟩ : ∃ y, y = S[j]'hjs := ⟨_, rfl⟩
                rw [← hy] at d1 d2 d3
                have HMN := Lib.hid (show (S.take (j + 1)).count ⟨xa, xt, xd⟩ = m + if y = ⟨xa, xt, xd⟩ then 1 else 0 from by rw [count_next _ _ _ hjs, HM.out, hy])
                have HBX := Lib.hid hbx
                clear hcb hy hjs hab
                obtain ⟨ya, yt, yd⟩ := y
                simp only at d1 d2 d3
                go_upto_region 26 with fail
                obtain ⟨g21, hg21⟩ : ∃ g21, g21 = wr.heap.size := ⟨_, rfl⟩
                obtain ⟨wp, hwp⟩ : ∃ wp, wp = wr.alloc (.cells #[.int .i64 ya, .string yt, .bool yd] 27) := ⟨_, rfl⟩
                rw [← hg21, ← hwp]
                have hb : Below wr.heap.size wr wp := by rw [hwp]; exact (Below.refl _ _).alloc (Nat.le_refl _) _
                have BY := (show Box wp g21 27 #[.int .i64 ya, .string yt, .bool yd] from by rw [hwp]; exact Box.at_ wr _ _ hg21)
                have HBX2 := Lib.hid (HBX.out.trans (hb.mono HBX.out.size))
                have BX2 := B18.out.on HBX2.out
                have q0 := Box.cell BY 0 rfl
                have q1 := Box.cell BY 1 rfl
                have q2 := Box.cell BY 2 rfl
                have p0 := Box.cell BX2 0 rfl
                have p1 := Box.cell BX2 1 rfl
                have p2 := Box.cell BX2 2 rfl
                have hwm : IntKind.i64.wrap ((m : Int) + 1) = ((m + 1 : Nat) : Int) := by rw [IntKind.wrap_i64]; omega
                clear hb hg21 hwp hbx d1 d2 d3 HBX BY BX2
                by_cases hxy : (⟨ya, yt, yd⟩ : It) = ⟨xa, xt, xd⟩
                · have HMQ := Lib.hid (show m + 1 = (S.take (j + 1)).count ⟨xa, xt, xd⟩ from by rw [HMN.out, if_pos hxy])
                  injection hxy with h1 h2 h3
                  subst h1 h2 h3
                  go_wp2
                  go_roundw
                  case rel => exact ⟨j + 1, m + 1, by go_num, by first | rfl | simp, by omega, by omega, HMQ.out, HBX2.out⟩
                  case measure => simp [intOf]; omega
                · have HMQ := Lib.hid (show m = (S.take (j + 1)).count ⟨xa, xt, xd⟩ from by rw [HMN.out, if_neg hxy]; rfl)
                  by_cases h1 : ya = xa
                  · subst h1
                    by_cases h2 : yt = xt
                    · subst h2
                      have h3 : yd ≠ xd := fun h => hxy (by rw [h])
                      have hz : (yd == xd) = false := by simpa using h3
                      clear hxy h3
                      go_wp2
                      go_roundw
                      case rel => exact ⟨j + 1, m, by go_num, rfl, by omega, by omega, HMQ.out, HBX2.out⟩
                      case measure => simp [intOf]; omega
                    · have hz := str_ne h2
                      clear hxy h2
                      go_wp2
                      go_roundw
                      case rel => exact ⟨j + 1, m, by go_num, rfl, by omega, by omega, HMQ.out, HBX2.out⟩
                      case measure => simp [intOf]; omega
                  · have hz : (ya == xa) = false := by simpa using h1
                    clear hxy h1
                    go_wp2
                    go_roundw
                    case rel => exact ⟨j + 1, m, by go_num, rfl, by omega, by omega, HMQ.out, HBX2.out⟩
                    case measure => simp [intOf]; omega
              · obtain rfl : m = 1 := by
                  have h1 := HM.out
                  rw [List.take_of_length_le (by rw [HSL.out]; omega), HXL.out] at h1
                  exact h1
                have HBX2 := Lib.hid (HBO.out.trans (hbx.mono HBO.out.size))
                clear hbx
                go_wp2
                go_roundw
                case rel => exact ⟨i + 1, by go_num, by omega, HBX2.out⟩
                case measure => simp [intOf]; omega
          · obtain ⟨wf, hwf⟩ : ∃ wf, wf = wr := ⟨_, rfl⟩
            rw [← hwf] at hbr ⊢
            have HBf := Lib.hid (HBb.out.trans (hbr.mono HBb.out.size))
            have B5f := Lib.hid (B5b.out.on hbr)
            have B14f := Lib.hid (B14b.out.on hbr)
            have VWf := Lib.hid (VWb.out.on hbr)
            clear hbr hwf
            have kB140 := Box.cell B14f.out 0 rfl
            have kB141 := Box.cell B14f.out 1 rfl
            go_wp2_with fail
            refine (clean_s (np := np) (no := 0) (N : Int) _ VWf.out (by rw [List.length_map]; exact Nat.le_trans HPL.out (by decide)) HCL2.out (by rw [List.length_map, List.length_map]; exact HNP.out) rfl).mono ?_
            rintro e w21 ⟨A3, c3, B3, d3, rfl, _, _, hb⟩
            have HB21 := Lib.hid (HBf.out.trans (hb.mono HBf.out.size))
            have B521 := Lib.hid (B5f.out.on hb)
            have B1421 := Lib.hid (B14f.out.on hb)
            have VW21 := Lib.hid (VWf.out.on hb)
            clear hb HBf B5f B14f VWf kB140 kB141
            go_upto_region 33 with fail
            obtain ⟨g22, hg22⟩ : ∃ g22, g22 = w21.heap.size := ⟨_, rfl⟩
            obtain ⟨w22, hz0⟩ : ∃ wz, wz = w21.alloc (.cells #[.int .i64 (N : Int), .slice A3 np c3] 24) := ⟨_, rfl⟩
            rw [← hg22, ← hz0]
            have hb : Below w21.heap.size w21 w22 := by rw [hz0]; exact ((Below.refl _ _).alloc (Nat.le_refl _) _)
            have B2222 := Lib.hid (show Box w22 g22 24 #[.int .i64 (N : Int), .slice A3 np c3] from (by rw [hz0]; exact Box.at_ w21 _ _ hg22))
            have HGg22 := Lib.hid (show w.heap.size ≤ g22 from by rw [hg22]; exact HB21.out.size)
            have HB22 := Lib.hid (HB21.out.trans (hb.mono HB21.out.size))
            have B522 := Lib.hid (B521.out.on hb)
            have B1422 := Lib.hid (B1421.out.on hb)
            have VW22 := Lib.hid (VW21.out.on hb)
            clear hb HB21 B521 B1421 VW21 hg22  hz0
            have kB140 := Box.cell B1422.out 0 rfl
            have kB141 := Box.cell B1422.out 1 rfl
            have kB50 := Box.cell B522.out 0 rfl
            have kB51 := Box.cell B522.out 1 rfl
            go_wp2_with fail
            refine (awake_true _).mono ?_
            rintro e w23 ⟨rfl, hb⟩
            have HB23 := Lib.hid (HB22.out.trans (hb.mono HB22.out.size))
            clear hb HB22 
            go_wp2
            go_ret
            exact ⟨rfl, HB23.out⟩
  · have hd : decide ((60 : Int) < (nx : Int)) = true := by simp; omega
    go_enter Try.func5, Try.ntmps5
    go_wp2_with fail
    refine (awake_true _).mono ?_
    rintro e w1 ⟨rfl, hb⟩
    go_wp2
    go_ret
    exact ⟨rfl, hb⟩

end Go.Proofs.Ythoffknkpogfhaa
