/- The walk of CacheMost: a cache that began empty has as many items as there were unlike numbers, but Most at most. -/
import Derived.Test.YthoffknkpogfhaaMst
set_option linter.unusedVariables false
set_option linter.unusedSimpArgs false
namespace Go.Proofs.Ythoffknkpogfhaa
open Go.RowKit

theorem again_mem (z y : Int) (W : List Int) (jj : Nat) (h : jj < W.length) (e : W[jj] = z) : (decide (y ∈ W.take jj) || (y == z)) = decide (y ∈ W.take (jj + 1)) := by
  rw [List.take_succ_eq_append_getElem h, e]
  rw [Bool.eq_iff_iff]
  simp
theorem min_ints {P : Program} (a b : Int) (w : World) (ts : Array TypeId) (t : TypeId) : (Builtin.min_ ts t #[.int .i64 a, .int .i64 b]).run P w = .ok (.int .i64 (min a b)) w := by
  by_cases h : b < a
  · simp [Builtin.min_, Builtin.min2, h]; omega
  · simp [Builtin.min_, Builtin.min2, h]; omega
theorem uniq_more (x : It) (r : List It) : (uniq (x :: r)).length = if x.a ∈ r.map It.a then (uniq r).length else (uniq r).length + 1 := by
  rw [uniq_cons, List.length_cons, ← without_filter (uniq_nodup r), without_len]
  by_cases h : x.a ∈ r.map It.a
  · rw [if_pos h, if_pos (mem_uniq.2 h)]
    have : 0 < ((uniq r).map It.a).length := List.length_pos_of_mem (mem_uniq.2 h)
    rw [List.length_map] at this
    omega
  · rw [if_neg h, if_neg (fun h2 => h (mem_uniq.1 h2))]

set_option maxRecDepth 100000 in
set_option maxHeartbeats 8000000 in
theorem most_walk (u : Nat) (it : Value) (xs : List It) (w : World) (hv : IV w it xs) (hn : xs.length ≤ maxLen) (hu : u ≤ 255) :
    Calls Try.prog 8 #[.int .u8 (u : Int), it] w fun e w' => e = .returned (.bool true) ∧ Below w.heap.size w w' := by
  obtain ⟨AX, cx, rfl⟩ := hv.shape rfl
  obtain ⟨nx, hl⟩ : ∃ nx, xs.length = nx := ⟨_, rfl⟩
  rw [hl] at hv hn ⊢
  have HL := Lib.hid hl
  unfold maxLen at hn
  have HVW := Lib.hid hv
  have HBZ := Lib.hid (Below.refl w.heap.size w)
  clear hv hl
  by_cases h60 : nx ≤ 60
  · have hd : decide ((60 : Int) < (nx : Int)) = false := by simp; omega
    obtain ⟨N, hN⟩ : ∃ N, N = 1 + u % 20 := ⟨_, rfl⟩
    have HN := Lib.hid (show 1 ≤ N ∧ N ≤ 20 from by omega)
    have hN20 : N ≤ 20 := by omega
    have e1 : (u : Int) % 20 = ((u % 20 : Nat) : Int) := by omega
    obtain ⟨q, hq⟩ : ∃ q, q = u % 20 := ⟨_, rfl⟩
    rw [← hq] at e1
    have hq19 : q ≤ 19 := by omega
    have e2 : IntKind.u8.wrap (q : Int) = (q : Int) := by rw [IntKind.wrap_u8]; omega
    have e3 : IntKind.i64.wrap (q : Int) = (q : Int) := by rw [IntKind.wrap_i64]; omega
    have e4 : IntKind.i64.wrap (1 + (q : Int)) = (N : Int) := by rw [IntKind.wrap_i64]; omega
    clear hN hq
    go_enter Try.func8, Try.ntmps8
    go_upto_region 4 with fail
    go_wp2_with fail
    refine (new_s N HN.out.1 (by have := HN.out.2; omega) _).mono ?_
    rintro e w1 ⟨rfl, hb⟩
    have HB1 := Lib.hid (HBZ.out.trans (hb.mono HBZ.out.size))
    clear hb HBZ e1 e2 e3 e4 hq19
    go_upto_region 5 with fail
    obtain ⟨g6, hg6⟩ : ∃ g6, g6 = w1.heap.size := ⟨_, rfl⟩
    obtain ⟨w2, hz0⟩ : ∃ wz, wz = w1.alloc (.cells #[.int .i64 (N : Int), .slice none 0 0] 24) := ⟨_, rfl⟩
    rw [← hg6, ← hz0]
    have hb : Below w1.heap.size w1 w2 := by rw [hz0]; exact ((Below.refl _ _).alloc (Nat.le_refl _) _)
    have B62 := Lib.hid (show Box w2 g6 24 #[.int .i64 (N : Int), .slice none 0 0] from (by rw [hz0]; exact Box.at_ w1 _ _ hg6))
    have HGg6 := Lib.hid (show w.heap.size ≤ g6 from by rw [hg6]; exact HB1.out.size)
    have HB2 := Lib.hid (HB1.out.trans (hb.mono HB1.out.size))
    clear hb HB1 hg6  hz0
    have hnx0 : ¬ ((nx : Int) < 0) := by omega
    go_wp2
    go_loopw [8, 32] (fun sv iv wr => ∃ (k sn np : Nat) (A' : Option Addr) (c' : Nat), iv = .int .i64 k ∧ sv = .int .i64 sn ∧ k ≤ nx ∧ sn ≤ k ∧ Hid (sn = (uniq (xs.take k).reverse).length) ∧ Hid (((uniq (xs.take k).reverse).take N).length = np) ∧ Hid (Box wr g6 24 #[.int .i64 (N : Int), .slice A' np c']) ∧ Hid (IV wr (.slice A' np c') ((uniq (xs.take k).reverse).take N)) ∧ Below w.heap.size w wr) (fun _ iv _ => (nx - intOf iv).toNat)
    case atStart =>
      refine ⟨0, 0, 0, none, 0, rfl, rfl, by omega, by omega, ?_, ?_, B62.out, ?_, HB2.out⟩
      · show _ = _
        simp [uniq]
      · show _ = _
        simp [uniq]
      · show IV _ _ _
        simpa [uniq] using IV.nil w2
    case round =>
      obtain ⟨k, sn, np, A', c', rfl, rfl, hk, hsn, HSN, HNP, B6, HV, hbr⟩ := hrel
      by_cases hlt : k < nx
      · obtain ⟨ad, rfl, hab, hca⟩ := (show Its wr wr.heap.size AX xs from by obtain ⟨A', c', e, h, _⟩ := HVW.out.on hbr; injection e with e1 _ _; rw [e1]; exact h).seeI (by rw [HL.out]; omega)
        have hkl : k < xs.length := by rw [HL.out]; exact hlt
        obtain ⟨c1, c2, c3⟩ := hca k hkl
        obtain ⟨x, hx⟩ : ∃ x, x = xs[k]'hkl := ⟨_, rfl⟩
        rw [← hx] at c1 c2 c3
        obtain ⟨V, hV⟩ : ∃ V, V = (uniq (xs.take k).reverse).take N := ⟨_, rfl⟩
        obtain ⟨V2, hV2⟩ : ∃ V2, V2 = (uniq (xs.take (k + 1)).reverse).take N := ⟨_, rfl⟩
        have HV2 := Lib.hid hV2
        rw [← hV] at HNP HV
        have hrev : (xs.take (k + 1)).reverse = x :: (xs.take k).reverse := by rw [List.take_succ_eq_append_getElem hkl, List.reverse_append, ← hx]; rfl
        have HUL := Lib.hid (show (uniq (xs.take (k + 1)).reverse).length = if x.a ∈ (xs.take k).map It.a then sn else sn + 1 from by
          rw [hrev, uniq_more, HSN.out]
          simp only [List.map_reverse, List.mem_reverse])
        have hVR : rightL N V = true := by rw [hV]; exact right_uniq N HN.out.1 (by have := HN.out.2; omega) _
        have HVL := Lib.hid (show V.length ≤ 100 from right_len hVR)
        have HVR2 := Lib.hid (show rightL N V2 = true from by rw [hV2]; exact right_uniq N HN.out.1 (by have := HN.out.2; omega) _)
        obtain ⟨O, hO⟩ : ∃ O, O = outD (goneL N V x) := ⟨_, rfl⟩
        have HPUT := Lib.hid (show putC (N : Int) V [x] = (V2, O) from by
          rw [hO, hV2, hV]
          unfold putC
          rw [if_pos (by rw [← hV]; exact hVR), show ([x] : List It) = [] ++ [x] from rfl, putL_snoc, hrev, uniq_cons, ← use_take _ (uniq_nodup _) N HN.out.1]
          rfl)
        have HER := Lib.hid (show (if rightL (N : Int) V = true then 0 else 1 : Int) = 0 from by rw [hVR]; rfl)
        have HOL := Lib.hid (show O.length ≤ 1 from by rw [hO]; exact outD_len _)
        obtain ⟨np2, hnp2⟩ : ∃ np2, V2.length = np2 := ⟨_, rfl⟩
        obtain ⟨no, hno⟩ : ∃ no, O.length = no := ⟨_, rfl⟩
        have HNP2 := Lib.hid hnp2
        have HNO := Lib.hid hno
        clear hca hkl hx hV hV2 hrev hVR hO hnp2 hno hab
        obtain ⟨xa, xt, xd⟩ := x
        simp only at c1 c2 c3
        have HBr := Lib.hid hbr
        have B6r := B6
        have VCr := HV
        clear hbr B6 HV
        go_upto_region 9 with fail
        obtain ⟨g10, hg10⟩ : ∃ g10, g10 = wr.heap.size := ⟨_, rfl⟩
        obtain ⟨w1, hz0⟩ : ∃ wz, wz = wr.alloc (.cells #[.int .i64 xa, .string xt, .bool xd] 27) := ⟨_, rfl⟩
        rw [← hg10, ← hz0]
        have hb : Below wr.heap.size wr w1 := by rw [hz0]; exact ((Below.refl _ _).alloc (Nat.le_refl _) _)
        have B101 := Lib.hid (show Box w1 g10 27 #[.int .i64 xa, .string xt, .bool xd] from (by rw [hz0]; exact Box.at_ wr _ _ hg10))
        have HGg10 := Lib.hid (show w.heap.size ≤ g10 from by rw [hg10]; exact HBr.out.size)
        have HN_g10_g6 := Lib.hid (show g10 ≠ g6 from by have := B6r.out.lt; omega)
        have HB1 := Lib.hid (HBr.out.trans (hb.mono HBr.out.size))
        have B61 := Lib.hid (B6r.out.on hb)
        have VC1 := Lib.hid (VCr.out.on hb)
        clear hb HBr B6r VCr hg10  hz0
        clear c1 c2 c3
        have hkc : k ≤ cx := by
          obtain ⟨_, _, e, _, h, _⟩ := HVW.out
          injection e with _ _ e3
          have := HL.out
          rw [e3]; omega
        have hkn : (k : Int) ≤ (nx : Int) := by omega
        have hk0 : ¬ ((k : Int) < 0) := by omega
        go_wp2
        go_loopw [11, 41] (fun bv jv wx => ∃ (jj : Nat) (b : Bool), jv = .int .i64 jj ∧ jj ≤ k ∧ bv = .bool b ∧ Hid (b = decide (xa ∈ (xs.map It.a).take jj)) ∧ Below w1.heap.size w1 wx) (fun _ jv _ => (k - intOf jv).toNat)
        case atStart => exact ⟨0, false, rfl, by omega, rfl, (show _ = _ from by simp), Below.refl _ _⟩
        case round =>
          obtain ⟨jj, b, rfl, hjj, rfl, HBJ, hbx⟩ := hrel
          by_cases hjk : jj < k
          · obtain ⟨a2, ha2, haw, hcw⟩ := (show Its wr wr.heap.size (some ad) xs from by obtain ⟨A', c', e, h, _⟩ := HVW.out.on (HB1.out.trans (hbx.mono HB1.out.size)); injection e with e1 _ _; rw [e1]; exact h).seeI (by rw [HL.out]; omega)
            injection ha2 with ha2
            subst ha2
            have hjl : jj < xs.length := by rw [HL.out]; omega
            obtain ⟨d1, d2, d3⟩ := hcw jj hjl
            obtain ⟨z, hz⟩ : ∃ z, z = xs[jj]'hjl := ⟨_, rfl⟩
            rw [← hz] at d1 d2 d3
            have HBN := Lib.hid (show (b || (xa == z.a)) = decide (xa ∈ (xs.map It.a).take (jj + 1)) from by
              rw [HBJ.out]
              exact again_mem z.a xa (xs.map It.a) jj (by rw [List.length_map]; exact hjl) (by rw [List.getElem_map, hz]))
            have HBX := Lib.hid hbx
            clear hz hcw hjl haw
            obtain ⟨za, zt, zd⟩ := z
            simp only at d1 d2 d3 HBN
            go_upto_region 13 with fail
            obtain ⟨gz, hgz⟩ : ∃ gz, gz = wr.heap.size := ⟨_, rfl⟩
            obtain ⟨wz, hwz⟩ : ∃ wz, wz = wr.alloc (.cells #[.int .i64 za, .string zt, .bool zd] 27) := ⟨_, rfl⟩
            rw [← hgz, ← hwz]
            have hb : Below wr.heap.size wr wz := by rw [hwz]; exact (Below.refl _ _).alloc (Nat.le_refl _) _
            have BZ := Box.cell (show Box wz gz 27 #[.int .i64 za, .string zt, .bool zd] from by rw [hwz]; exact Box.at_ wr _ _ hgz) 0 rfl
            have HBX2 := Lib.hid (HBX.out.trans (hb.mono HBX.out.size))
            have kx0 := Box.cell (B101.out.on HBX2.out) 0 rfl
            clear hb hgz hwz hbx d1 d2 d3 HBX
            cases b with
            | true =>
              go_wp2
              go_roundw
              case rel => exact ⟨jj + 1, true, by go_num, by omega, rfl, (show true = _ from by have h := HBN.out; simpa using h), HBX2.out⟩
              case measure => simp [intOf]; omega
            | false =>
              go_wp2
              go_roundw
              case rel => exact ⟨jj + 1, (xa == za), by go_num, by omega, by first | rfl | simp, (show (xa == za) = _ from by have h := HBN.out; simpa using h), HBX2.out⟩
              case measure => simp [intOf]; omega
          · have HMEM := Lib.hid (show b = decide (xa ∈ (xs.take k).map It.a) from by
              rw [HBJ.out, show jj = k from by omega, List.map_take])
            have HBX := Lib.hid hbx
            clear hbx
            obtain ⟨s2, hs2⟩ : ∃ s2, s2 = if b = true then sn else sn + 1 := ⟨_, rfl⟩
            have HS2 := Lib.hid (show s2 = (uniq (xs.take (k + 1)).reverse).length ∧ s2 ≤ k + 1 ∧ np2 = min N s2 from by
              have h1 : s2 = (uniq (xs.take (k + 1)).reverse).length := by
                rw [hs2, HUL.out, HMEM.out]
                simp only [decide_eq_true_eq]
              refine ⟨h1, by rw [hs2]; split <;> omega, ?_⟩
              rw [← HNP2.out, HV2.out, List.length_take, h1])
            have hwn : IntKind.i64.wrap ((sn : Int) + 1) = ((sn + 1 : Nat) : Int) := by rw [IntKind.wrap_i64]; omega
            cases b with
            | true =>
              have HX2 := Lib.hid (show s2 = sn from by rw [hs2]; rfl)
              clear hs2
              have HBx := Lib.hid (HB1.out.trans (HBX.out.mono HB1.out.size))
              have B6x := Lib.hid (B61.out.on HBX.out)
              have VCx := Lib.hid (VC1.out.on HBX.out)
              have B10x := Lib.hid (B101.out.on HBX.out)
              obtain ⟨wx, hwx⟩ : ∃ wx, wx = wr := ⟨_, rfl⟩
              rw [← hwx] at HBx B6x VCx B10x ⊢
              clear hwx HBX
              have kB60 := Box.cell B6x.out 0 rfl
              have kB61 := Box.cell B6x.out 1 rfl
              have kB100 := Box.cell B10x.out 0 rfl
              have kB101 := Box.cell B10x.out 1 rfl
              have kB102 := Box.cell B10x.out 2 rfl
              go_wp2_with fail
              refine (put_s (l := V) (xs := [⟨xa, xt, xd⟩]) (N : Int) _ (VCx.out.push _) (Nat.le_trans HVL.out (by decide)) (IV.lit rfl rfl rfl) (by simp) HPUT.out HNP2.out HNO.out HER.out).mono ?_
              rintro e w1 ⟨A1, c1, B1, d1, rfl, h1, _, hb⟩
              replace hb := ((Below.refl _ wx).alloc (Nat.le_refl _) _).trans (hb.mono (by simp))
              have VD1 := Lib.hid h1
              clear h1
              have HB1 := Lib.hid (HBx.out.trans (hb.mono HBx.out.size))
              have B61 := Lib.hid (B6x.out.on hb)
              have VC1 := Lib.hid (VCx.out.on hb)
              have B101 := Lib.hid (B10x.out.on hb)
              clear hb HBx B6x VCx B10x kB60 kB61 kB100 kB101 kB102
              go_upto_region 18 with fail
              obtain ⟨g14, hg14⟩ : ∃ g14, g14 = w1.heap.size := ⟨_, rfl⟩
              obtain ⟨w2, hz0⟩ : ∃ wz, wz = w1.alloc (.cells #[.int .i64 (N : Int), .slice A1 np2 c1] 24) := ⟨_, rfl⟩
              rw [← hg14, ← hz0]
              have hb : Below w1.heap.size w1 w2 := by rw [hz0]; exact ((Below.refl _ _).alloc (Nat.le_refl _) _)
              have B142 := Lib.hid (show Box w2 g14 24 #[.int .i64 (N : Int), .slice A1 np2 c1] from (by rw [hz0]; exact Box.at_ w1 _ _ hg14))
              have HGg14 := Lib.hid (show w.heap.size ≤ g14 from by rw [hg14]; exact HB1.out.size)
              have HN_g14_g6 := Lib.hid (show g14 ≠ g6 from by have := B61.out.lt; omega)
              have HN_g14_g10 := Lib.hid (show g14 ≠ g10 from by have := B101.out.lt; omega)
              have HB2 := Lib.hid (HB1.out.trans (hb.mono HB1.out.size))
              have B62 := Lib.hid (B61.out.on hb)
              have VC2 := Lib.hid (VC1.out.on hb)
              have B102 := Lib.hid (B101.out.on hb)
              have VD2 := Lib.hid (VD1.out.on hb)
              clear hb HB1 B61 VC1 B101 VD1 hg14  hz0
              have kB140 := Box.cell B142.out 0 rfl
              have kB141 := Box.cell B142.out 1 rfl
              have hno1 : decide ((1 : Int) < (no : Int)) = false := by have := HOL.out; rw [HNO.out] at this; simp; omega
              have hnpn : decide ((N : Int) < (np2 : Int)) = false := by have := HS2.out.2.2; simp; omega
              have hnple : np2 ≤ N := by have := HS2.out.2.2; omega
              have hno2 : no ≤ 1 := by have := HOL.out; rw [HNO.out] at this; exact this
              have hmin : min (N : Int) (s2 : Int) = (np2 : Int) := by have := HS2.out.2.2; omega
              have hmn : ∀ (w : World) (ts : Array TypeId) (t : TypeId), (Builtin.min_ ts t #[.int .i64 (N : Int), .int .i64 (sn : Int)]).run Try.prog w = .ok (.int .i64 (np2 : Int)) w := fun w ts t => by
                have h := min_ints (P := Try.prog) (N : Int) (s2 : Int) w ts t
                rw [hmin, HX2.out] at h
                exact h
              have hnpp : ((np2 : Int) != (np2 : Int)) = false := by simp
              clear hmin
              go_wp2_with fail
              refine (right_s (N : Int) _ VD2.out (by rw [HNP2.out]; have := HS2.out; have := HN.out; omega) HVR2.out).mono ?_
              rintro e w3 ⟨rfl, hb⟩
              have HB3 := Lib.hid (HB2.out.trans (hb.mono HB2.out.size))
              have B63 := Lib.hid (B62.out.on hb)
              have VC3 := Lib.hid (VC2.out.on hb)
              have B103 := Lib.hid (B102.out.on hb)
              have VD3 := Lib.hid (VD2.out.on hb)
              have B143 := Lib.hid (B142.out.on hb)
              clear hb HB2 B62 VC2 B102 VD2 B142 
              have kB140 := Box.cell B143.out 0 rfl
              have kB141 := Box.cell B143.out 1 rfl
              have kk0 := Box.cell B63.out 0 rfl
              have ff0 := Box.free B63.out 0
              have kk1 := Box.cell B63.out 1 rfl
              have ff1 := Box.free B63.out 1
              go_upto_region 21 with fail
              obtain ⟨w4, hw⟩ : ∃ wz, wz = (w3.setCell ⟨g6, 0, none⟩ (.int .i64 (N : Int))).setCell ⟨g6, 1, none⟩ (.slice A1 np2 c1) := ⟨_, rfl⟩
              rw [← hw]
              have HB4 := Lib.hid (show Below w.heap.size w w4 from by rw [hw]; exact below_two HB3.out HGg6.out)
              have B64 := Lib.hid (show Box w4 g6 24 #[.int .i64 (N : Int), .slice A1 np2 c1] from by rw [hw]; exact (Box.set B63.out 0 _).set 1 _)
              have VC4 := Lib.hid (show IV w4 _ _ from by rw [hw]; exact iv_put VC3.out B63.out)
              have B104 := Lib.hid (show Box w4 _ _ _ from by rw [hw]; exact ((Ex.set (g := g6) (i := 0) w3 _).trans (Ex.set (i := 1) _ _)).box B103.out (HN_g10_g6.out))
              have VD4 := Lib.hid (show IV w4 _ _ from by rw [hw]; exact iv_put VD3.out B63.out)
              have B144 := Lib.hid (show Box w4 _ _ _ from by rw [hw]; exact ((Ex.set (g := g6) (i := 0) w3 _).trans (Ex.set (i := 1) _ _)).box B143.out (HN_g14_g6.out))
              clear hw kk0 kk1 ff0 ff1 HB3 B63 VC3 B103 VD3 B143 kB140 kB141 hno1 hnpn hmn hnple hno2
              go_wp2
              go_roundw
              case rel =>
                refine ⟨k + 1, sn, np2, A1, c1, by go_num, by first | rfl | simp, by omega, by omega, ?_, ?_, B64.out, ?_, HB4.out⟩
                · show _ = _
                  rw [← HX2.out]; exact HS2.out.1
                · show _ = _
                  rw [← HV2.out]; exact HNP2.out
                · show IV _ _ _
                  rw [← HV2.out]; exact VD4.out
              case measure => simp [intOf]; omega
            | false =>
              have HX2 := Lib.hid (show s2 = sn + 1 from by rw [hs2]; rfl)
              clear hs2
              have HBx := Lib.hid (HB1.out.trans (HBX.out.mono HB1.out.size))
              have B6x := Lib.hid (B61.out.on HBX.out)
              have VCx := Lib.hid (VC1.out.on HBX.out)
              have B10x := Lib.hid (B101.out.on HBX.out)
              obtain ⟨wx, hwx⟩ : ∃ wx, wx = wr := ⟨_, rfl⟩
              rw [← hwx] at HBx B6x VCx B10x ⊢
              clear hwx HBX
              have kB60 := Box.cell B6x.out 0 rfl
              have kB61 := Box.cell B6x.out 1 rfl
              have kB100 := Box.cell B10x.out 0 rfl
              have kB101 := Box.cell B10x.out 1 rfl
              have kB102 := Box.cell B10x.out 2 rfl
              go_wp2_with fail
              refine (put_s (l := V) (xs := [⟨xa, xt, xd⟩]) (N : Int) _ (VCx.out.push _) (Nat.le_trans HVL.out (by decide)) (IV.lit rfl rfl rfl) (by simp) HPUT.out HNP2.out HNO.out HER.out).mono ?_
              rintro e w1 ⟨A1, c1, B1, d1, rfl, h1, _, hb⟩
              replace hb := ((Below.refl _ wx).alloc (Nat.le_refl _) _).trans (hb.mono (by simp))
              have VD1 := Lib.hid h1
              clear h1
              have HB1 := Lib.hid (HBx.out.trans (hb.mono HBx.out.size))
              have B61 := Lib.hid (B6x.out.on hb)
              have VC1 := Lib.hid (VCx.out.on hb)
              have B101 := Lib.hid (B10x.out.on hb)
              clear hb HBx B6x VCx B10x kB60 kB61 kB100 kB101 kB102
              go_upto_region 18 with fail
              obtain ⟨g14, hg14⟩ : ∃ g14, g14 = w1.heap.size := ⟨_, rfl⟩
              obtain ⟨w2, hz0⟩ : ∃ wz, wz = w1.alloc (.cells #[.int .i64 (N : Int), .slice A1 np2 c1] 24) := ⟨_, rfl⟩
              rw [← hg14, ← hz0]
              have hb : Below w1.heap.size w1 w2 := by rw [hz0]; exact ((Below.refl _ _).alloc (Nat.le_refl _) _)
              have B142 := Lib.hid (show Box w2 g14 24 #[.int .i64 (N : Int), .slice A1 np2 c1] from (by rw [hz0]; exact Box.at_ w1 _ _ hg14))
              have HGg14 := Lib.hid (show w.heap.size ≤ g14 from by rw [hg14]; exact HB1.out.size)
              have HN_g14_g6 := Lib.hid (show g14 ≠ g6 from by have := B61.out.lt; omega)
              have HN_g14_g10 := Lib.hid (show g14 ≠ g10 from by have := B101.out.lt; omega)
              have HB2 := Lib.hid (HB1.out.trans (hb.mono HB1.out.size))
              have B62 := Lib.hid (B61.out.on hb)
              have VC2 := Lib.hid (VC1.out.on hb)
              have B102 := Lib.hid (B101.out.on hb)
              have VD2 := Lib.hid (VD1.out.on hb)
              clear hb HB1 B61 VC1 B101 VD1 hg14  hz0
              have kB140 := Box.cell B142.out 0 rfl
              have kB141 := Box.cell B142.out 1 rfl
              have hno1 : decide ((1 : Int) < (no : Int)) = false := by have := HOL.out; rw [HNO.out] at this; simp; omega
              have hnpn : decide ((N : Int) < (np2 : Int)) = false := by have := HS2.out.2.2; simp; omega
              have hnple : np2 ≤ N := by have := HS2.out.2.2; omega
              have hno2 : no ≤ 1 := by have := HOL.out; rw [HNO.out] at this; exact this
              have hmin : min (N : Int) (s2 : Int) = (np2 : Int) := by have := HS2.out.2.2; omega
              have hmn : ∀ (w : World) (ts : Array TypeId) (t : TypeId), (Builtin.min_ ts t #[.int .i64 (N : Int), .int .i64 (((sn : Int) + 1) : Int)]).run Try.prog w = .ok (.int .i64 (np2 : Int)) w := fun w ts t => by
                have h := min_ints (P := Try.prog) (N : Int) (s2 : Int) w ts t
                rw [hmin, HX2.out] at h
                exact h
              have hnpp : ((np2 : Int) != (np2 : Int)) = false := by simp
              clear hmin
              go_wp2_with fail
              refine (right_s (N : Int) _ VD2.out (by rw [HNP2.out]; have := HS2.out; have := HN.out; omega) HVR2.out).mono ?_
              rintro e w3 ⟨rfl, hb⟩
              have HB3 := Lib.hid (HB2.out.trans (hb.mono HB2.out.size))
              have B63 := Lib.hid (B62.out.on hb)
              have VC3 := Lib.hid (VC2.out.on hb)
              have B103 := Lib.hid (B102.out.on hb)
              have VD3 := Lib.hid (VD2.out.on hb)
              have B143 := Lib.hid (B142.out.on hb)
              clear hb HB2 B62 VC2 B102 VD2 B142 
              have kB140 := Box.cell B143.out 0 rfl
              have kB141 := Box.cell B143.out 1 rfl
              have kk0 := Box.cell B63.out 0 rfl
              have ff0 := Box.free B63.out 0
              have kk1 := Box.cell B63.out 1 rfl
              have ff1 := Box.free B63.out 1
              go_upto_region 21 with fail
              obtain ⟨w4, hw⟩ : ∃ wz, wz = (w3.setCell ⟨g6, 0, none⟩ (.int .i64 (N : Int))).setCell ⟨g6, 1, none⟩ (.slice A1 np2 c1) := ⟨_, rfl⟩
              rw [← hw]
              have HB4 := Lib.hid (show Below w.heap.size w w4 from by rw [hw]; exact below_two HB3.out HGg6.out)
              have B64 := Lib.hid (show Box w4 g6 24 #[.int .i64 (N : Int), .slice A1 np2 c1] from by rw [hw]; exact (Box.set B63.out 0 _).set 1 _)
              have VC4 := Lib.hid (show IV w4 _ _ from by rw [hw]; exact iv_put VC3.out B63.out)
              have B104 := Lib.hid (show Box w4 _ _ _ from by rw [hw]; exact ((Ex.set (g := g6) (i := 0) w3 _).trans (Ex.set (i := 1) _ _)).box B103.out (HN_g10_g6.out))
              have VD4 := Lib.hid (show IV w4 _ _ from by rw [hw]; exact iv_put VD3.out B63.out)
              have B144 := Lib.hid (show Box w4 _ _ _ from by rw [hw]; exact ((Ex.set (g := g6) (i := 0) w3 _).trans (Ex.set (i := 1) _ _)).box B143.out (HN_g14_g6.out))
              clear hw kk0 kk1 ff0 ff1 HB3 B63 VC3 B103 VD3 B143 kB140 kB141 hno1 hnpn hmn hnple hno2
              go_wp2
              go_roundw
              case rel =>
                refine ⟨k + 1, sn + 1, np2, A1, c1, by go_num, by first | rfl | simp, by omega, by omega, ?_, ?_, B64.out, ?_, HB4.out⟩
                · show _ = _
                  rw [← HX2.out]; exact HS2.out.1
                · show _ = _
                  rw [← HV2.out]; exact HNP2.out
                · show IV _ _ _
                  rw [← HV2.out]; exact VD4.out
              case measure => simp [intOf]; omega
      · have HKX := Lib.hid (show k = nx ∧ np = min N sn from by
          refine ⟨by omega, ?_⟩
          rw [← HNP.out, List.length_take, HSN.out])
        have hmin : min (N : Int) (sn : Int) = (np : Int) := by have := HKX.out.2; omega
        have hmn : ∀ (w : World) (ts : Array TypeId) (t : TypeId), (Builtin.min_ ts t #[.int .i64 (N : Int), .int .i64 (sn : Int)]).run Try.prog w = .ok (.int .i64 (np : Int)) w := fun w ts t => by
          have h := min_ints (P := Try.prog) (N : Int) (sn : Int) w ts t
          rw [hmin] at h
          exact h
        have kB60 := Box.cell B6.out 0 rfl
        have kB61 := Box.cell B6.out 1 rfl
        have HBr := Lib.hid hbr
        clear hmin hbr
        go_wp2_with fail
        refine (awake_true _).mono ?_
        rintro e w1 ⟨rfl, hb⟩
        have HB1 := Lib.hid (HBr.out.trans (hb.mono HBr.out.size))
        clear hb HBr 
        go_wp2
        go_ret
        exact ⟨rfl, HB1.out⟩
  · have hd : decide ((60 : Int) < (nx : Int)) = true := by simp; omega
    go_enter Try.func8, Try.ntmps8
    go_wp2_with fail
    refine (awake_true _).mono ?_
    rintro e w1 ⟨rfl, hb⟩
    go_wp2
    go_ret
    exact ⟨rfl, hb⟩

end Go.Proofs.Ythoffknkpogfhaa
