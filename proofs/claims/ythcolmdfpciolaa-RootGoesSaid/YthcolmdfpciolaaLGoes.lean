/- The walk of the law RootGoes. -/
import Derived.Test.YthcolmdfpciolaaLSafe
import Derived.Test.YthcolmdfpciolaaBeside
namespace Go.Proofs.Ythcolmdfpciolaa
open Go.RowKit

/-- The root of the number j; the last one of k, and the one ahead of it. -/
def rk (gen : Nat) (l : List Nat) (j : Nat) : Rt := ⟨(gen + j : Nat), (l.getD j 0 : Nat), j⟩
def lastR (gen : Nat) (l : List Nat) (k : Nat) : Rt := if k = 0 then rt0 else rk gen l (k - 1)
def aheadR (gen : Nat) (l : List Nat) (k : Nat) : Rt := if k ≤ 1 then rt0 else rk gen l (k - 2)

/-- What stands on the disk behind k roots. -/
structure GInv (gen : Nat) (l : List Nat) (k : Nat) (S : List ByteArray) (W : List Wr) : Prop where
  right : rightB S W = true
  len : S.length = 4
  wlen : W.length ≤ k
  b0 : readB S W (((gen + k : Nat) : Int) % 2) = decide (2 ≤ k)
  r0 : readR S W (((gen + k : Nat) : Int) % 2) = aheadR gen l k
  b1 : readB S W (1 - ((gen + k : Nat) : Int) % 2) = decide (1 ≤ k)
  r1 : readR S W (1 - ((gen + k : Nat) : Int) % 2) = lastR gen l k
theorem GInv.new (gen : Nat) (l : List Nat) : GInv gen l 0 (List.replicate 4 zeroS) [] :=
  ⟨zero_right 4 (by omega) (by omega), List.length_replicate, Nat.le_refl _, zero_none 4 _, zero_root 4 _, zero_none 4 _, zero_root 4 _⟩
theorem GInv.flush {gen : Nat} {l : List Nat} {k : Nat} {S : List ByteArray} {W : List Wr} (h : GInv gen l k S W) : GInv gen l k (doneL S W) [] :=
  ⟨done_right h.right (fun _ h => h), by rw [done_len]; exact h.len, Nat.zero_le _, (read_flush h.right _).1.trans h.b0, (read_flush h.right _).2.trans h.r0, (read_flush h.right _).1.trans h.b1, (read_flush h.right _).2.trans h.r1⟩
theorem rk_right {gen : Nat} {l : List Nat} {j : Nat} (hg : gen < 65536) (hj : j < 100) (hx : ∀ x ∈ l, x < 65536) : rtB (rk gen l j) = true := by
  have h1 : l.getD j 0 < 65536 := by
    by_cases h : j < l.length
    · rw [List.getD_eq_getElem?_getD, List.getElem?_eq_getElem h]
      exact hx _ (List.getElem_mem h)
    · rw [List.getD_eq_getElem?_getD, List.getElem?_eq_none (by omega)]
      decide
  unfold rtB rk
  rw [num_of (by simp only; omega) (by simp only; omega), num_of (by simp only; omega) (by simp only; omega), num_of (by simp only; omega) (by simp only; omega)]
  rfl
theorem GInv.step {gen : Nat} {l : List Nat} {k : Nat} {S : List ByteArray} {W : List Wr} (h : GInv gen l k S W) (hg : gen < 65536) (hk : k < 100) (hx : ∀ x ∈ l, x < 65536) :
    rtOk S W (rk gen l k) = true ∧ GInv gen l (k + 1) S (W ++ rtW (rk gen l k)) ∧ bestB S (W ++ rtW (rk gen l k)) = true ∧ bestR S (W ++ rtW (rk gen l k)) = rk gen l k := by
  have hr := rk_right (l := l) (j := k) hg hk hx
  have hok : rtOk S W (rk gen l k) = true := ok_new h.right (by rw [h.len]; omega) hr
  have e : (rk gen l k).g = ((gen + k : Nat) : Int) := rfl
  have hh := read_here hok
  have ho := read_other hok (1 - ((gen + k : Nat) : Int) % 2) (by rw [e]; omega)
  rw [e] at hh
  have e2 : ((gen + (k + 1) : Nat) : Int) % 2 = 1 - ((gen + k : Nat) : Int) % 2 := by omega
  have e3 : 1 - (1 - ((gen + k : Nat) : Int) % 2) = ((gen + k : Nat) : Int) % 2 := by omega
  refine ⟨hok, ⟨rtW_right hok, h.len, by rw [List.length_append, rtW_len]; have := h.wlen; omega, ?_, ?_, ?_, ?_⟩, ?_⟩
  · rw [e2, ho.1, h.b1]
    congr 1
    simp
  · rw [e2, ho.2, h.r1]
    unfold lastR aheadR
    by_cases h0 : k = 0
    · subst h0; rfl
    · rw [if_neg h0, if_neg (by omega)]
      rfl
  · rw [e2, e3, hh.1]
    exact (decide_eq_true (by omega)).symm
  · rw [e2, e3, hh.2]
    unfold lastR
    rw [if_neg (by omega)]
    rfl
  · by_cases h0 : k = 0
    · subst h0
      exact best_alone hok (by rw [e]; exact h.b1)
    · refine best_next (r := lastR gen l k) hok h.r1 ?_
      unfold lastR
      rw [if_neg h0, e]
      show ((gen + (k - 1) : Nat) : Int) < _
      omega

theorem last_next (gen : Nat) (l : List Nat) (k : Nat) : lastR gen l (k + 1) = rk gen l k := by
  unfold lastR
  rw [if_neg (by omega)]
  rfl
theorem ahead_next (gen : Nat) (l : List Nat) (k : Nat) : aheadR gen l (k + 1) = lastR gen l k := by
  unfold lastR aheadR
  by_cases h0 : k = 0
  · subst h0; rfl
  · rw [if_neg h0, if_neg (by omega)]
    rfl

set_option maxHeartbeats 8000000 in
set_option maxRecDepth 100000 in
theorem goes_walk (gen : Nat) (t1 : Value) (l : List Nat) (fl : Nat) (w : World) (hg : gen < 65536) (hf : fl < 4294967296) (hv : UV w t1 l) (hll : l.length ≤ maxLen) (hx : ∀ x ∈ l, x < 65536) :
    Calls Try.prog 6 #[.int .u16 gen, t1, .int .u32 fl] w fun e w' => e = .returned (.bool true) ∧ Below w.heap.size w w' := by
  unfold maxLen at hll
  obtain ⟨T, tc, rfl, hT⟩ := hv
  have HT0 := Lib.hid hT
  have HX := Lib.hid hx
  obtain ⟨n, hn⟩ : ∃ n, n = l.length := ⟨_, rfl⟩
  rw [← hn] at hll ⊢
  have HN := Lib.hid hn
  clear hT hn hx
  by_cases h30 : 30 < n
  · have g1 : decide ((30 : Int) < n) = true := decide_eq_true (by omega)
    go_enter Try.func6, Try.ntmps6
    go_wp2_with fail
    refine (awake_true _).mono ?_
    rintro e w9 ⟨rfl, hb9⟩
    go_wp2
    go_ret
    exact ⟨rfl, hb9⟩
  have g1 : decide ((30 : Int) < n) = false := decide_eq_false (by omega)
  by_cases h00 : n = 0
  · have g2 : ((n : Int) == 0) = true := by rw [beq_iff_eq]; omega
    go_enter Try.func6, Try.ntmps6
    go_wp2_with fail
    refine (awake_true _).mono ?_
    rintro e w9 ⟨rfl, hb9⟩
    go_wp2
    go_ret
    exact ⟨rfl, hb9⟩
  have g2 : ((n : Int) == 0) = false := by rw [beq_eq_false_iff_ne]; omega
  have hnew := new_ok 4 w (by omega) (by omega)
  go_enter Try.func6, Try.ntmps6
  go_wp2_with fail
  refine hnew.mono ?_
  clear hnew
  rintro e w1 ⟨v1, rfl, ⟨A1, c1, B1, d1, rfl, hA1, hB1⟩, hb1⟩
  have hv1 : DV w1 _ (List.replicate 4 zeroS) [] := ⟨A1, c1, B1, d1, rfl, hA1, hB1⟩
  rw [show (List.replicate 4 zeroS).length = 4 from rfl, show ([] : List Wr).length = 0 from rfl] at hv1 ⊢
  have H0 := Lib.hid (Holds.fresh hv1 hb1)
  have hbr : Below (w1.alloc (.cells #[.slice A1 4 c1, .slice B1 0 d1] 25)).heap.size (w1.alloc (.cells #[.slice A1 4 c1, .slice B1 0 d1] 25)) (((w1.alloc (.cells #[.slice A1 4 c1, .slice B1 0 d1] 25)).alloc (.cells #[.int .i64 0, .int .i64 0, .int .i64 0] 27)).alloc (.cells #[.int .i64 0, .int .i64 0, .int .i64 0] 27)) := below_two _ _ _
  have H1 := Lib.hid (H0.out.on hbr)
  have HL1 := Lib.hid (show RBlk (((w1.alloc (.cells #[.slice A1 4 c1, .slice B1 0 d1] 25)).alloc (.cells #[.int .i64 0, .int .i64 0, .int .i64 0] 27)).alloc (.cells #[.int .i64 0, .int .i64 0, .int .i64 0] 27)) (w1.heap.size + 1) rt0 from Box.push (Box.at_ _ _ _ (by simp)) _)
  have HA1 := Lib.hid (show RBlk (((w1.alloc (.cells #[.slice A1 4 c1, .slice B1 0 d1] 25)).alloc (.cells #[.int .i64 0, .int .i64 0, .int .i64 0] 27)).alloc (.cells #[.int .i64 0, .int .i64 0, .int .i64 0] 27)) (w1.heap.size + 1 + 1) rt0 from Box.at_ _ _ _ (by simp))
  have HU := Lib.hid (show Lies u16C 1 w1 w1.heap.size T l from HT0.out.on hb1)
  have HWB := Lib.hid hb1
  clear hv1 hb1 hbr hA1 hB1 H0 HT0
  go_wp2
  go_loopw [35] (fun i wr => ∃ (k : Nat) (A : Option Addr) (c : Nat) (B : Option Addr) (m d : Nat) (S : List ByteArray) (W : List Wr), i = .int .i64 k ∧ k ≤ n ∧ m = W.length ∧ Holds w wr w1.heap.size A 4 c B m d S W ∧ GInv gen l k S W ∧ RBlk wr (w1.heap.size + 1) (lastR gen l k) ∧ RBlk wr (w1.heap.size + 1 + 1) (aheadR gen l k) ∧ Below w1.heap.size w1 wr) (fun i _ => (n - intOf i).toNat)
  case atStart => exact ⟨0, _, _, _, _, _, _, _, rfl, by omega, rfl, H1.out, GInv.new gen l, HL1.out, HA1.out, ((Below.refl _ _).alloc (Nat.le_refl _) _).trans ((below_two _ _ _).mono (by simp))⟩
  case round =>
    obtain ⟨k, A, c, B, m, d, S, W, rfl, hk, hm, hh, hi, hl, ha, hbw⟩ := hrel
    have HM := Lib.hid hm
    have HI := Lib.hid hi
    have H := Lib.hid hh
    have HL := Lib.hid hl
    have HA := Lib.hid ha
    have HBW := Lib.hid hbw
    clear hm hi hh hl ha hbw H1 HL1 HA1
    by_cases hkn : k < n
    · obtain ⟨ad, rfl, hadb, hca⟩ := (HU.out.on HBW.out).seeU (by rw [← HN.out]; omega)
      have hc := hca k (by rw [← HN.out]; exact hkn)
      obtain ⟨x, hx⟩ : ∃ x, x = l[k]'(by rw [← HN.out]; exact hkn) := ⟨_, rfl⟩
      rw [← hx] at hc
      have hx6 : x < 65536 := by rw [hx]; exact HX.out _ (List.getElem_mem _)
      have hrk : rk gen l k = ⟨(gen : Int) + k, x, k⟩ := by
        unfold rk
        rw [List.getD_eq_getElem?_getD, List.getElem?_eq_getElem (by rw [← HN.out]; exact hkn), ← hx]
        simp
      have hst := HI.out.step hg (by omega) HX.out
      have hml : (W ++ rtW (rk gen l k)).length = m + 1 := by rw [List.length_append, rtW_len, HM.out]
      obtain ⟨W1, hW1⟩ : ∃ W1, W1 = W ++ rtW (rk gen l k) := ⟨_, rfl⟩
      have hwr := fun (wx : World) (v : Value) (h : DV wx v S W) => rwrite_ok (rk gen l k) h (by rw [HI.out.len]; omega) (by have := HI.out.wlen; omega) hst.1
      rw [← hW1] at hst hml hwr
      rw [hrk] at hwr
      simp only [Rt.v] at hwr
      have HWR := Lib.hid hwr
      have HST := Lib.hid hst
      have HML := Lib.hid hml
      have HRK := Lib.hid hrk
      clear hx hst hml hwr hrk hW1 hca
      have hlt := Box.lt H.out.blk
      obtain ⟨k0, k1⟩ := DBlk.cells H.out.blk
      go_wp2_with fail
      have y1 : w1.heap.size + 1 + 1 < wr.heap.size := Box.lt HA.out
      have hba : Below wr.heap.size wr (wr.alloc (.cells #[.int .i64 (gen + k), .int .i64 x, .int .i64 k] 27)) := (Below.refl _ _).alloc (Nat.le_refl _) _
      refine (HWR.out _ _ (H.out.dv.on hba)).mono ?_
      clear k0 k1 hlt hc
      rintro e w3 ⟨v3, rfl, ⟨A3, c3, B3, d3, rfl, hA3, hB3⟩, hb3⟩
      have hv3 : DV w3 _ S W1 := ⟨A3, c3, B3, d3, rfl, hA3, hB3⟩
      rw [HI.out.len, HML.out] at hv3 ⊢
      have hb3w := hba.trans (hb3.mono hba.size)
      have hb3a : Below wr.heap.size wr (w3.alloc (.cells #[.slice A3 4 c3, .slice B3 (m + 1) d3] 25)) := hb3w.alloc hb3w.size _
      have H4 := Lib.hid (H.out.on hb3a)
      have HL4 := Lib.hid (show RBlk _ (w1.heap.size + 1) (lastR gen l k) from Box.on HL.out hb3a)
      have HA4 := Lib.hid (show RBlk _ (w1.heap.size + 1 + 1) (aheadR gen l k) from Box.on HA.out hb3a)
      have HR4 := Lib.hid (show RBlk (w3.alloc (.cells #[.slice A3 4 c3, .slice B3 (m + 1) d3] 25)) wr.heap.size ⟨(gen : Int) + k, x, k⟩ from Box.push (Box.on (show RBlk _ wr.heap.size ⟨(gen : Int) + k, x, k⟩ from Box.fresh _ _ _) hb3) _)
      have HE4 := Lib.hid (Holds.fresh hv3 (H.out.below.trans (hb3w.mono H.out.below.size)))
      have HB4 := Lib.hid (HBW.out.trans (hb3a.mono HBW.out.size))
      have y2 : wr.heap.size < w3.heap.size := by have := hb3.size; simp at this; omega
      clear hv3 hA3 hB3 hb3 hb3w hb3a hba H HL HA HBW HWR
      go_wp2
      obtain ⟨L, hL⟩ : ∃ L, L = lastR gen l k := ⟨_, rfl⟩
      obtain ⟨Q, hQ⟩ : ∃ Q, Q = aheadR gen l k := ⟨_, rfl⟩
      rw [← hL] at HL4
      rw [← hQ] at HA4
      clear hQ
      have HLL := Lib.hid hL
      clear hL
      obtain ⟨lx, ly, lz⟩ := L
      obtain ⟨qx, qy, qz⟩ := Q
      have f00 := Box.free H4.out.blk 0
      have f01 := Box.free H4.out.blk 1
      have f10 := Box.free HL4.out 0
      have f11 := Box.free HL4.out 1
      have f12 := Box.free HL4.out 2
      have f20 := Box.free HA4.out 0
      have f21 := Box.free HA4.out 1
      have f22 := Box.free HA4.out 2
      obtain ⟨c00, c01⟩ := DBlk.cells H4.out.blk
      obtain ⟨c10, c11, c12⟩ := RBlk.cells HL4.out
      obtain ⟨c20, c21, c22⟩ := RBlk.cells HA4.out
      obtain ⟨c30, c31, c32⟩ := RBlk.cells HR4.out
      obtain ⟨c40, c41⟩ := DBlk.cells HE4.out.blk
      have z0 := Box.lt H4.out.blk
      have z1 := Box.lt HL4.out
      have z2 := Box.lt HA4.out
      have z3 := Box.lt HR4.out
      have z4 := Box.lt HE4.out.blk
      generalize w3.alloc (.cells #[.slice A3 4 c3, .slice B3 (m + 1) d3] 25) = w4 at *
      go_region
      have HX5 := Lib.hid (H4.out.put HE4.out.dv)
      have HLx := Lib.hid (HL4.out.beside H4.out.blk (.slice A3 4 c3) (.slice B3 (m + 1) d3))
      have HAx := Lib.hid (HA4.out.beside H4.out.blk (.slice A3 4 c3) (.slice B3 (m + 1) d3))
      have HXa := Lib.hid (HX5.out.rbeside HAx.out (by have := HWB.out.size; omega) lx ly lz)
      have HLa := Lib.hid (HLx.out.away3 (by omega) (.int .i64 lx) (.int .i64 ly) (.int .i64 lz) (gr := w1.heap.size + 1 + 1))
      have HAa := Lib.hid (HAx.out.put ⟨lx, ly, lz⟩)
      have HXb := Lib.hid (HXa.out.rbeside HLa.out (by have := HWB.out.size; omega) (gen + k) x k)
      have HLb := Lib.hid (HLa.out.put ⟨gen + k, x, k⟩)
      have HAb := Lib.hid (HAa.out.away3 (by omega) (.int .i64 (gen + k)) (.int .i64 x) (.int .i64 k) (gr := w1.heap.size + 1))
      have HBb := Lib.hid (show Below w1.heap.size w1 _ from below3 (x := .int .i64 (gen + k)) (y := .int .i64 x) (z := .int .i64 k) (below3 (x := .int .i64 lx) (y := .int .i64 ly) (z := .int .i64 lz) ((HB4.out.setCell (p := ⟨w1.heap.size, 0, none⟩) (Nat.le_refl _) (.slice A3 4 c3)).setCell (p := ⟨w1.heap.size, 1, none⟩) (Nat.le_refl _) (.slice B3 (m + 1) d3)) (show w1.heap.size ≤ w1.heap.size + 1 + 1 by omega)) (show w1.heap.size ≤ w1.heap.size + 1 by omega))
      have H5 := Lib.hid (HXb.out.on (Below.refl _ _).drew)
      have HL5 := Lib.hid (show RBlk _ (w1.heap.size + 1) ⟨gen + k, x, k⟩ from Box.on HLb.out (Below.refl _ _).drew)
      have HA5 := Lib.hid (show RBlk _ (w1.heap.size + 1 + 1) ⟨lx, ly, lz⟩ from Box.on HAb.out (Below.refl _ _).drew)
      have HB5 := Lib.hid HBb.out.drew
      clear HX5 HLx HAx HXa HLa HAa HXb HLb HAb HBb H4 HL4 HA4 HR4 HE4 HB4 f00 f01 f10 f11 f12 f20 f21 f22 c00 c01 c10 c11 c12 c20 c21 c22 c30 c31 c32 c40 c41 z0 z1 z2 z3 z4
      generalize ((((((((w4.setCell ⟨w1.heap.size, 0, none⟩ (.slice A3 4 c3)).setCell ⟨w1.heap.size, 1, none⟩ (.slice B3 (m + 1) d3)).setCell ⟨w1.heap.size + 1 + 1, 0, none⟩ (.int .i64 lx)).setCell ⟨w1.heap.size + 1 + 1, 1, none⟩ (.int .i64 ly)).setCell ⟨w1.heap.size + 1 + 1, 2, none⟩ (.int .i64 lz)).setCell ⟨w1.heap.size + 1, 0, none⟩ (.int .i64 (gen + k))).setCell ⟨w1.heap.size + 1, 1, none⟩ (.int .i64 x)).setCell ⟨w1.heap.size + 1, 2, none⟩ (.int .i64 k)).drew = w5 at *
      cases hbit : (bits .and .u32 ((fl : Int) / 2 ^ k) 1 == 1) with
      | true =>
        obtain ⟨k0, k1⟩ := DBlk.cells H5.out.blk
        have z0 := Box.lt H5.out.blk
        go_wp2_with fail
        refine (flush_dv H5.out.dv (by rw [HML.out]; have := HI.out.wlen; have := HM.out; omega) HST.out.2.1.right).mono ?_
        clear k0 k1 z0 hbit
        rintro e w6 ⟨v6, rfl, ⟨A6, c6, B6, d6, rfl, hA6, hB6⟩, hb6⟩
        have hv6 : DV w6 _ (doneL S W1) [] := ⟨A6, c6, B6, d6, rfl, hA6, hB6⟩
        rw [done_len, HI.out.len, show ([] : List Wr).length = 0 from rfl] at hv6 ⊢
        have H5b := Lib.hid (H5.out.on hb6)
        have HL5b := Lib.hid (show RBlk w6 (w1.heap.size + 1) ⟨gen + k, x, k⟩ from Box.on HL5.out hb6)
        have HA5b := Lib.hid (show RBlk w6 (w1.heap.size + 1 + 1) ⟨lx, ly, lz⟩ from Box.on HA5.out hb6)
        have H6 := Lib.hid (H5b.out.put hv6)
        have HL6 := Lib.hid (HL5b.out.beside H5b.out.blk (.slice A6 4 c6) (.slice B6 0 d6))
        have HA6 := Lib.hid (HA5b.out.beside H5b.out.blk (.slice A6 4 c6) (.slice B6 0 d6))
        have HB6 := Lib.hid (((HB5.out.trans (hb6.mono HB5.out.size)).setCell (p := ⟨w1.heap.size, 0, none⟩) (Nat.le_refl _) (.slice A6 4 c6)).setCell (p := ⟨w1.heap.size, 1, none⟩) (Nat.le_refl _) (.slice B6 0 d6))
        have f0 := Box.free H5b.out.blk 0
        have f1 := Box.free H5b.out.blk 1
        obtain ⟨k0, k1⟩ := DBlk.cells H5b.out.blk
        have z0 := Box.lt H5b.out.blk
        clear hv6 hA6 hB6 hb6 H5 HL5 HA5 HB5 HL5b HA5b H5b
        have hbst := rbest_any H6.out.dv (by rw [done_len, HI.out.len]; omega) (by decide)
        unfold bestE at hbst
        rw [(best_flush HST.out.2.1.right).1, (best_flush HST.out.2.1.right).2, HST.out.2.2.1, HST.out.2.2.2, HRK.out] at hbst
        simp only [Rt.v, if_true] at hbst
        go_wp2_with fail
        refine hbst.mono ?_
        clear hbst k0 k1 z0 f0 f1
        rintro e w7 ⟨rfl, hb7⟩
        have hb7a : Below _ _ (w7.alloc (.cells #[.int .i64 (gen + k), .int .i64 x, .int .i64 k] 27)) := hb7.alloc hb7.size _
        have H7 := Lib.hid (H6.out.on hb7a)
        have HL7 := Lib.hid (show RBlk _ (w1.heap.size + 1) ⟨gen + k, x, k⟩ from Box.on HL6.out hb7a)
        have HA7 := Lib.hid (show RBlk _ (w1.heap.size + 1 + 1) ⟨lx, ly, lz⟩ from Box.on HA6.out hb7a)
        have HN7 := Lib.hid (show RBlk (w7.alloc (.cells #[.int .i64 (gen + k), .int .i64 x, .int .i64 k] 27)) w7.heap.size ⟨gen + k, x, k⟩ from Box.fresh _ _ _)
        have HB7 := Lib.hid (HB6.out.trans (hb7a.mono HB6.out.size))
        clear hb7 hb7a H6 HL6 HA6 HB6
        obtain ⟨a0, a1, a2⟩ := RBlk.cells HL7.out
        obtain ⟨b0, b1, b2⟩ := RBlk.cells HN7.out
        have z1 := Box.lt HL7.out
        have z2 := Box.lt HN7.out
        go_wp2
        go_roundw
        case rel => exact ⟨k + 1, _, _, _, 0, _, doneL S W1, [], by go_num, by omega, rfl, H7.out, HST.out.2.1.flush, by rw [last_next, HRK.out]; exact HL7.out, by rw [ahead_next, ← HLL.out]; exact HA7.out, HB7.out⟩
        case measure => simp [intOf]; omega
      | false =>
        obtain ⟨k0, k1⟩ := DBlk.cells H5.out.blk
        have z0 := Box.lt H5.out.blk
        have hbst := rbest_any H5.out.dv (by rw [HI.out.len]; omega) (by rw [HML.out]; have := HI.out.wlen; have := HM.out; omega)
        unfold bestE at hbst
        rw [HST.out.2.2.1, HST.out.2.2.2, HRK.out] at hbst
        simp only [Rt.v, if_true] at hbst
        go_wp2_with fail
        refine hbst.mono ?_
        clear hbst k0 k1 z0 hbit
        rintro e w7 ⟨rfl, hb7⟩
        have hb7a : Below _ _ (w7.alloc (.cells #[.int .i64 (gen + k), .int .i64 x, .int .i64 k] 27)) := hb7.alloc hb7.size _
        have H7 := Lib.hid (H5.out.on hb7a)
        have HL7 := Lib.hid (show RBlk _ (w1.heap.size + 1) ⟨gen + k, x, k⟩ from Box.on HL5.out hb7a)
        have HA7 := Lib.hid (show RBlk _ (w1.heap.size + 1 + 1) ⟨lx, ly, lz⟩ from Box.on HA5.out hb7a)
        have HN7 := Lib.hid (show RBlk (w7.alloc (.cells #[.int .i64 (gen + k), .int .i64 x, .int .i64 k] 27)) w7.heap.size ⟨gen + k, x, k⟩ from Box.fresh _ _ _)
        have HB7 := Lib.hid (HB5.out.trans (hb7a.mono HB5.out.size))
        clear hb7 hb7a H5 HL5 HA5 HB5
        obtain ⟨a0, a1, a2⟩ := RBlk.cells HL7.out
        obtain ⟨b0, b1, b2⟩ := RBlk.cells HN7.out
        have z1 := Box.lt HL7.out
        have z2 := Box.lt HN7.out
        go_wp2
        go_roundw
        case rel => exact ⟨k + 1, _, _, _, m + 1, _, S, W1, by go_num, by omega, HML.out.symm, H7.out, HST.out.2.1, by rw [last_next, HRK.out]; exact HL7.out, by rw [ahead_next, ← HLL.out]; exact HA7.out, HB7.out⟩
        case measure => simp [intOf]; omega
    · obtain rfl : k = n := by omega
      obtain ⟨j, hj⟩ : ∃ j, j = gen + (k - 1) := ⟨_, rfl⟩
      have hlast : ∃ y z : Int, lastR gen l k = ⟨j, y, z⟩ := by
        unfold lastR rk
        rw [if_neg h00, hj]
        exact ⟨_, _, rfl⟩
      obtain ⟨ly, lz, hlr⟩ := hlast
      rw [hlr] at HL
      have hjk : ((j : Int) + 1) % 2 = ((gen + k : Nat) : Int) % 2 := by omega
      have hj6 : j < 100000 := by omega
      have hrd := rread_any (a := ((j : Int) + 1) % 2) H.out.dv (by rw [HI.out.len]; omega) (by have := HI.out.wlen; omega)
      rw [hjk, HI.out.b0, HI.out.r0, ← hjk] at hrd
      obtain ⟨Q, hQ⟩ : ∃ Q, Q = aheadR gen l k := ⟨_, rfl⟩
      rw [← hQ] at HA hrd
      clear hQ hjk hlr hj
      obtain ⟨qx, qy, qz⟩ := Q
      simp only [Rt.v] at hrd
      obtain ⟨k0, k1⟩ := DBlk.cells H.out.blk
      obtain ⟨a0, a1, a2⟩ := RBlk.cells HL.out
      have z0 := Box.lt H.out.blk
      have z1 := Box.lt HL.out
      have hb2 : ∃ bb, decide (2 ≤ k) = bb ∧ decide ((1 : Int) < k) = bb := by
        by_cases h2 : 2 ≤ k
        · exact ⟨true, decide_eq_true h2, decide_eq_true (by omega)⟩
        · exact ⟨false, decide_eq_false h2, decide_eq_false (by omega)⟩
      obtain ⟨bb, hbb, hb2⟩ := hb2
      rw [hbb] at hrd
      have heq : (bb == bb) = true := by cases bb <;> rfl
      go_wp2_with fail
      refine hrd.mono ?_
      clear hrd k0 k1 a0 a1 a2 z0 z1
      rintro e w7 ⟨rfl, hb7⟩
      have hb7a : Below _ _ (w7.alloc (.cells #[.int .i64 qx, .int .i64 qy, .int .i64 qz] 27)) := hb7.alloc hb7.size _
      have H7 := Lib.hid (H.out.on hb7a)
      have HA7 := Lib.hid (show RBlk _ (w1.heap.size + 1 + 1) ⟨qx, qy, qz⟩ from Box.on HA.out hb7a)
      have HN7 := Lib.hid (show RBlk (w7.alloc (.cells #[.int .i64 qx, .int .i64 qy, .int .i64 qz] 27)) w7.heap.size ⟨qx, qy, qz⟩ from Box.fresh _ _ _)
      clear hb7 hb7a H HA HL HBW
      obtain ⟨a0, a1, a2⟩ := RBlk.cells HA7.out
      obtain ⟨b0, b1, b2⟩ := RBlk.cells HN7.out
      have z1 := Box.lt HA7.out
      have z2 := Box.lt HN7.out
      go_wp2_with fail
      refine (awake_true _).mono ?_
      rintro e w9 ⟨rfl, hb9⟩
      go_wp2
      go_ret
      exact ⟨rfl, H7.out.below.trans (hb9.mono H7.out.below.size)⟩

end Go.Proofs.Ythcolmdfpciolaa
