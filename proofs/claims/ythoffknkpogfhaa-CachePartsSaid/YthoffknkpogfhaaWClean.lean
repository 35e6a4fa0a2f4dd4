/- The walk of Clean. -/
import Derived.Test.YthoffknkpogfhaaWPut
set_option linter.unusedVariables false
set_option linter.unusedSimpArgs false
namespace Go.Proofs.Ythoffknkpogfhaa
open Go.RowKit

def cleanC (m : Int) (l : List It) : List It × List It := if rightL m l then (l.map wash, l.filter It.d) else (l, [])
/-- What is washed so far. -/
def washT (l : List It) (k : Nat) : List It := (l.take k).map wash ++ l.drop k
theorem washT_len (l : List It) (k : Nat) : (washT l k).length = l.length := by
  unfold washT
  rw [List.length_append, List.length_map, List.length_take, List.length_drop]
  omega
theorem washT_set {l : List It} {k : Nat} (hk : k < l.length) : washT l (k + 1) = (washT l k).set k (wash l[k]) := by
  have hlen : ((l.take k).map wash).length = k := by rw [List.length_map, List.length_take]; omega
  have e : l.drop k = l[k] :: l.drop (k + 1) := by rw [List.drop_eq_getElem_cons hk]
  have e2 : washT l k = (l.take k).map wash ++ (l[k] :: l.drop (k + 1)) := by unfold washT; rw [e]
  rw [e2]
  unfold washT
  rw [List.take_succ_eq_append_getElem hk, List.map_append, List.set_append_right _ _ (by omega), hlen, Nat.sub_self, List.append_assoc]
  rfl
theorem washT_at {l : List It} {k : Nat} (hk : k < l.length) (h : k < (washT l k).length) : (washT l k)[k]'h = l[k] := by
  have hlen : ((l.take k).map wash).length = k := by rw [List.length_map, List.length_take]; omega
  have h1 : (washT l k)[k]? = some l[k] := by
    unfold washT
    rw [List.getElem?_append_right (by omega), hlen, Nat.sub_self, List.getElem?_drop]
    simp
  rw [List.getElem?_eq_getElem h] at h1
  injection h1
theorem washT_clean {l : List It} {k : Nat} (hk : k < l.length) (h : l[k].d = false) : washT l (k + 1) = washT l k := by
  have e : l.drop k = l[k] :: l.drop (k + 1) := by rw [List.drop_eq_getElem_cons hk]
  have e2 : wash l[k] = l[k] := by
    have h2 : l[k] = ⟨l[k].a, l[k].t, l[k].d⟩ := rfl
    unfold wash
    rw [← h]
  unfold washT
  rw [List.take_succ_eq_append_getElem hk, List.map_append, e]
  simp [e2]
theorem flat_set (l : List It) (k : Nat) (hk : k < l.length) (y : It) (h : y.a = l[k].a) (ht : y.t = l[k].t) : (l.set k y).flatMap It.cells = (l.flatMap It.cells).set (k * 3 + 2) (.bool y.d) := by
  induction l generalizing k with
  | nil => simp at hk
  | cons x l ih =>
    cases k with
    | zero =>
      simp only [List.getElem_cons_zero] at h ht
      simp [It.cells, h, ht]
    | succ k =>
      simp only [List.getElem_cons_succ] at h ht
      rw [List.set_cons_succ, List.flatMap_cons, List.flatMap_cons, ih k (by simpa using hk) h ht]
      rw [List.set_append_right _ _ (by rw [It.cells3]; omega), It.cells3]
      congr 2
      omega
/-- One cell of a row is written. -/
theorem own_setCell {w : World} {base T g c n : Nat} {xs : List Value} (h : w.ownsRow base T 3 (.slice (some ⟨g, 0, none⟩) n c) n xs) (j : Nat) (hj : j < n * 3) (u : Value) : (w.setCell ⟨g, j, none⟩ u).ownsRow base T 3 (.slice (some ⟨g, 0, none⟩) n c) n (xs.set j u) := by
  rcases own_open h with ⟨e, _⟩ | ⟨g', c', C, e, hC⟩
  · cases e
  injection e with e1 e2 e3
  injection e1 with e1
  injection e1 with e1 _ _
  subst e1 e3
  refine OwnR.own (C := C.setIfInBounds j u) ⟨hC.box.set j u, hC.low, hC.fit, hC.max, by simpa using hC.size, by simpa using hC.len, ?_⟩
  rw [Array.toList_setIfInBounds, List.take_set, hC.take]
theorem own_seen {w : World} {base T g c n : Nat} {xs : List Value} (h : w.ownsRow base T 3 (.slice (some ⟨g, 0, none⟩) n c) n xs) (j : Nat) (hj : j < n * 3) : (∃ u, w.cell? ⟨g, j, none⟩ = some u ∧ xs[j]? = some u) ∧ w.frozen? ⟨g, j, none⟩ = false := by
  rcases own_open h with ⟨e, _⟩ | ⟨g', c', C, e, hC⟩
  · cases e
  injection e with e1 e2 e3
  injection e1 with e1
  injection e1 with e1 _ _
  subst e1 e3
  have hl := hC.len
  have h1 : xs[j]? = some (xs[j]'(by omega)) := List.getElem?_eq_getElem _
  exact ⟨⟨_, hC.cell h1, h1⟩, hC.box.free j⟩

set_option maxHeartbeats 4000000 in
set_option maxRecDepth 100000 in
theorem clean_any {s : Value} {l : List It} (m : Int) (w : World) (hv : IV w s l) (hn : l.length ≤ 1000) :
    Calls Try.prog 16 #[.agg #[.int .i64 m, s]] w fun e w' => ∃ s' o', e = .returned (.tuple #[.agg #[.int .i64 m, s'], o']) ∧ IV w' s' (cleanC m l).1 ∧ IV w' o' (cleanC m l).2 ∧ Below w.heap.size w w' := by
  obtain ⟨E, hE⟩ : ∃ E, E = cleanC m l := ⟨_, rfl⟩
  rw [← hE]
  have HE := Lib.hid hE
  obtain ⟨A, c, rfl, hv⟩ := (show ∃ A c, s = .slice A l.length c ∧ IV w (.slice A l.length c) l from by obtain ⟨A, c, e, h⟩ := hv; exact ⟨A, c, e, A, c, rfl, h⟩)
  obtain ⟨n, hl⟩ : ∃ n, l.length = n := ⟨_, rfl⟩
  rw [hl] at hv hn ⊢
  have HL := Lib.hid hl
  obtain ⟨R, hR⟩ : ∃ R, R = rightL m l := ⟨_, rfl⟩
  have HR := Lib.hid hR
  obtain ⟨w1, hw1⟩ : ∃ w1, w1 = w.alloc (.cells #[.int .i64 m, .slice A n c] 24) := ⟨_, rfl⟩
  obtain ⟨w3, hw3⟩ : ∃ w3, w3 = w1.alloc (.cells #[.int .i64 0, .slice none 0 0] 24) := ⟨_, rfl⟩
  obtain ⟨g, hg⟩ : ∃ g, g = w.heap.size := ⟨_, rfl⟩
  obtain ⟨q4, hq4⟩ : ∃ q, q = w1.heap.size := ⟨_, rfl⟩
  have e4 : g + 1 = q4 := by rw [hq4, hw1, hg]; simp
  have BX0 := Lib.hid (show Box w3 g 24 #[.int .i64 m, .slice A n c] from by rw [hw3]; exact Box.push (by rw [hw1]; exact Box.at_ w _ _ hg) _)
  have B40 := Lib.hid (show Box w3 q4 24 #[.int .i64 0, .slice none 0 0] from by rw [hw3]; exact Box.at_ w1 _ _ hq4)
  have hb3 : Below w.heap.size w w3 := by rw [hw3, hw1]; exact ((Below.refl _ _).alloc (Nat.le_refl _) _).alloc (by simp) _
  have HV0 := Lib.hid (hv.on hb3)
  have HVW := Lib.hid hv
  have HB0 := Lib.hid hb3
  have HQ := Lib.hid (show w.heap.size ≤ q4 ∧ q4 < w3.heap.size ∧ g < w3.heap.size from ⟨by omega, Box.lt B40.out, Box.lt BX0.out⟩)
  have hc1 := fun (wx : World) (h : IV wx (.slice A n c) l) => copied_any m wx h (by omega)
  rw [hl] at hc1
  have HC1 := Lib.hid hc1
  have hc2 := fun (wx : World) (h : IV wx (.slice A n c) l) => right_any m wx h (by omega)
  rw [← hR] at hc2
  have HC2 := Lib.hid hc2
  have k0 := Box.cell BX0.out 0 rfl
  have k1 := Box.cell BX0.out 1 rfl
  have HN := Lib.hid hn
  clear hE hR hv hn hc1 hc2 hl hb3
  go_enter Try.func16, Try.ntmps16
  go_upto_region 1 with fail
  rw [← hg, e4, ← hw1, ← hw3]
  clear hg hq4 e4 hw1 hw3
  go_wp2_with fail
  refine (HC1.out _ HV0.out).mono ?_
  rintro e w4 ⟨s4, rfl, ho, hb⟩
  obtain ⟨A4, c4, rfl⟩ := own_shape ho
  go_upto_region 2 with fail
  obtain ⟨g7, hg7⟩ : ∃ g7, g7 = w4.heap.size := ⟨_, rfl⟩
  obtain ⟨w5, hw5⟩ : ∃ w5, w5 = w4.alloc (.cells #[.int .i64 m, .slice A4 n c4] 24) := ⟨_, rfl⟩
  rw [← hg7, ← hw5]
  have h5 : Below w4.heap.size w4 w5 := by rw [hw5]; exact (Below.refl _ _).alloc (Nat.le_refl _) _
  have h35 := hb.trans (h5.mono hb.size)
  have HO5 := Lib.hid (own_on ho h5)
  have HB5 := Lib.hid (HB0.out.trans (h35.mono HB0.out.size))
  have BX5 := Lib.hid (BX0.out.on h35)
  have B45 := Lib.hid (B40.out.on h35)
  have HV5 := Lib.hid (HV0.out.on h35)
  have B75 := Lib.hid (show Box w5 g7 24 #[.int .i64 m, .slice A4 n c4] from by rw [hw5]; exact Box.at_ w4 _ _ hg7)
  have HQ7 := Lib.hid (show w3.heap.size ≤ g7 ∧ w3.heap.size ≤ w5.heap.size from ⟨by rw [hg7]; exact hb.size, h35.size⟩)
  have k0 := Box.cell BX5.out 0 rfl
  have k1 := Box.cell BX5.out 1 rfl
  clear hb ho h5 h35 hg7 hw5 BX0 B40 HV0 HB0 HC1 
  go_wp2_with fail
  refine (HC2.out _ HV5.out).mono ?_
  rintro e w6 ⟨rfl, hb⟩
  have HO6 := Lib.hid (own_on HO5.out hb)
  have HB6 := Lib.hid (HB5.out.trans (hb.mono HB5.out.size))
  have BX6 := Lib.hid (BX5.out.on hb)
  have B46 := Lib.hid (B45.out.on hb)
  have HV6 := Lib.hid (HV5.out.on hb)
  have B76 := Lib.hid (B75.out.on hb)
  have HS6 := Lib.hid (Nat.le_trans HQ7.out.2 hb.size)
  clear hb k0 k1 HO5 HB5 BX5 B45 HV5 B75 HC2 
  cases R with
  | false =>
    have k0 := Box.cell B76.out 0 rfl
    have k1 := Box.cell B76.out 1 rfl
    obtain ⟨W, hW, hcs, hbW, hoW⟩ := ans_cache B46.out HB6.out HQ.out.1 (.int .i64 m) (.slice A4 n c4)
    have HW := Lib.hid hW
    have HCS := Lib.hid hcs
    have HBW := Lib.hid hbW
    have HOW := Lib.hid (hoW _ _ _ _ _ _ HO6.out (own_far HO6.out HQ.out.2.1))
    have m0 := Box.cell B46.out 0 rfl
    have m1 := Box.cell B46.out 1 rfl
    have f0 := Box.free B46.out 0
    have f1 := Box.free B46.out 1
    clear hW hcs hbW hoW
    go_wp2
    rw [← HW.out]
    obtain ⟨p0, p1⟩ := HCS.out
    have hF : E = (l, []) := by rw [HE.out]; unfold cleanC; rw [← HR.out]; rfl
    rw [hF]
    exact bodyPost_ret (v := .tuple #[.agg #[.int .i64 m, .slice A4 n c4], .slice none 0 0]) (by simp [results, Try.results16, go_sem, p0, p1]) rfl ⟨_, _, rfl, IV.own HOW.out HL.out.symm, IV.nil _, HBW.out⟩
  | true =>
    have HP := Lib.hid (show E = (l.map wash, l.filter It.d) from by rw [HE.out]; unfold cleanC; rw [← HR.out]; rfl)
    have k1 := Box.cell BX6.out 1 rfl
    have hn0 : ¬ ((n : Int) < 0) := by omega
    have hn1 := HN.out
    go_wp2
    go_loopw [5, 17] (fun ov iv wr => ∃ (k no : Nat), iv = .int .i64 k ∧ k ≤ n ∧ Hid (Box wr g7 24 #[.int .i64 m, .slice A4 n c4]) ∧ Hid (wr.ownsRow w3.heap.size 27 3 (.slice A4 n c4) n ((washT l k).flatMap It.cells)) ∧ Hid (no = ((l.take k).filter It.d).length ∧ no ≤ k) ∧ Hid (wr.ownsRow w3.heap.size 27 3 ov no (((l.take k).filter It.d).flatMap It.cells)) ∧ Hid (Apart2 (.slice A4 n c4) ov) ∧ Hid (Box wr q4 24 #[.int .i64 0, .slice none 0 0]) ∧ Hid (w3.heap.size ≤ wr.heap.size) ∧ Below w.heap.size w wr) (fun _ iv _ => (n - intOf iv).toNat)
    case atStart =>
      refine ⟨0, 0, rfl, by omega, B76.out, ?_, ⟨by simp, Nat.le_refl _⟩, ?_, .inl rfl, B46.out, HS6.out, HB6.out⟩
      · show World.ownsRow _ _ _ _ _ _ _
        unfold washT
        simpa using HO6.out
      · show World.ownsRow _ _ _ _ _ _ _
        simpa using World.ownsRow_nil w6 w3.heap.size _ 3
    case round =>
      obtain ⟨k, no, rfl, hk, B7, HO, HNN, HOO, HAP, B4, HS, hbr⟩ := hrel
      clear k1
      by_cases hlt : k < n
      · obtain ⟨ad, rfl, hab, hca⟩ := (show Its wr wr.heap.size A l from by obtain ⟨A', c', e, h, _⟩ := HVW.out.on hbr; injection e with e1 _ _; rw [e1]; exact h).seeI (by rw [HL.out]; omega)
        have hkl : k < l.length := by rw [HL.out]; exact hlt
        obtain ⟨c1, c2, c3⟩ := hca k hkl
        obtain ⟨x, hx⟩ : ∃ x, x = l[k]'hkl := ⟨_, rfl⟩
        rw [← hx] at c1 c2 c3
        have HKL := Lib.hid hkl
        have HX := Lib.hid hx
        have HF := Lib.hid (show (l.take (k + 1)).filter It.d = (l.take k).filter It.d ++ (if x.d then [x] else []) from by
          rw [List.take_succ_eq_append_getElem hkl, List.filter_append, ← hx]
          cases h : x.d <;> simp [h])
        have HBR := Lib.hid hbr
        clear hca hx hab hbr
        obtain ⟨xa, xt, xd⟩ := x
        simp only at c1 c2 c3 HF
        go_upto_region 8 with fail
        obtain ⟨g9, hg9⟩ : ∃ g9, g9 = wr.heap.size := ⟨_, rfl⟩
        obtain ⟨w8, hw8⟩ : ∃ w8, w8 = wr.alloc (.cells #[.int .i64 xa, .string xt, .bool xd] 27) := ⟨_, rfl⟩
        rw [← hg9, ← hw8]
        have hb : Below wr.heap.size wr w8 := by rw [hw8]; exact (Below.refl _ _).alloc (Nat.le_refl _) _
        have HO8 := Lib.hid (own_on HO.out hb)
        have HOO8 := Lib.hid (own_on HOO.out hb)
        have HB8 := Lib.hid (HBR.out.trans (hb.mono HBR.out.size))
        have B48 := Lib.hid (B4.out.on hb)
        have B78 := Lib.hid (B7.out.on hb)
        have HS8 := Lib.hid (Nat.le_trans HS.out hb.size)
        have B98 := Lib.hid (show Box w8 g9 27 #[.int .i64 xa, .string xt, .bool xd] from by rw [hw8]; exact Box.at_ wr _ _ hg9)
        have l0 := Box.cell B98.out 0 rfl
        have l1 := Box.cell B98.out 1 rfl
        have l2 := Box.cell B98.out 2 rfl
        clear hb hg9 hw8 c1 c2 c3 HO HOO B4 B7 HS HBR
        cases xd with
        | false =>
          go_wp2
          go_roundw
          case rel =>
            refine ⟨k + 1, no, by go_num, by have := HKL.out; have := HL.out; omega, B78.out, ?_, ?_, ?_, HAP.out, B48.out, HS8.out, HB8.out⟩
            · show World.ownsRow _ _ _ _ _ _ _
              rw [washT_clean HKL.out (by rw [← HX.out])]; exact HO8.out
            · show _ ∧ _
              rw [HF.out]
              have := HNN.out
              exact ⟨by simpa using this.1, by omega⟩
            · show World.ownsRow _ _ _ _ _ _ _
              rw [HF.out]; simpa using HOO8.out
          case measure => have := HKL.out; have := HL.out; simp [intOf]; omega
        | true =>
          go_wp2_with (at_builtin; refine push_it item_info Try.underlying22 _ rfl _ _ rfl w3.heap.size _ no _ rfl (own_on HOO8.out ((Below.refl _ _).alloc (Nat.le_refl _) _)) w8.heap.size ⟨xa, xt, true⟩ rfl (Box.fresh _ _ _) (by have := HNN.out; have := HN.out; omega) (by have := HS8.out; simp; omega) ?_)
          intro ov' w12 hown hgr hat
          have hb1 : Below w8.heap.size w8 (w8.alloc (.cells #[.int .i64 xa, .string xt, .bool true] 27)) := (Below.refl _ _).alloc (Nat.le_refl _) _
          have hoff := own_off HOO8.out B78.out
          have hfar := own_far HOO8.out HQ.out.2.1
          have HB12 := Lib.hid ((HB8.out.trans (hb1.mono HB8.out.size)).grown hgr (by have := HB8.out.size; simp; omega) (fun q hq => by have := (own_lt HOO8.out hq).1; have := HQ.out; omega))
          have B712 := Lib.hid ((B78.out.on hb1).grown hgr (fun e => hoff e.symm))
          have B412 := Lib.hid ((B48.out.on hb1).grown hgr (fun e => hfar e.symm))
          have HO12 := Lib.hid (own_grown (own_on HO8.out hb1) hgr HAP.out.symm)
          have HAP12 := Lib.hid ((Apart2.grow HAP.out.symm (own_on HO8.out hb1) (hat.imp id fun h => ⟨w8.heap.size + 1, by simp, h⟩)).symm)
          have HS12 := Lib.hid (show w3.heap.size ≤ w12.heap.size from Nat.le_trans HS8.out (Nat.le_trans hb1.size hgr.size))
          have HOO12 := Lib.hid hown
          clear hown hgr hat hb1 hoff hfar l0 l1 l2 HO8 HOO8 B78 B48 HB8 HS8 HAP
          rcases own_open HO12.out with ⟨e, h0, _⟩ | ⟨r4, c5, C, e, hC⟩
          · omega
          injection e with e1 e2 e3
          subst e1 e3
          have hj : k * 3 + 2 < n * 3 := by omega
          obtain ⟨⟨u, hu, _⟩, hfz⟩ := own_seen HO12.out (k * 3 + 2) hj
          obtain ⟨j, hjj⟩ : ∃ j, j = k * 3 + 2 := ⟨_, rfl⟩
          have HOS := Lib.hid (show (w12.setCell ⟨r4, k * 3 + 2, none⟩ (.bool false)).ownsRow w3.heap.size 27 3 (.slice (some ⟨r4, 0, none⟩) n c4) n ((washT l (k + 1)).flatMap It.cells) from by
            have h1 := own_setCell HO12.out (k * 3 + 2) hj (.bool false)
            have hwl : k < (washT l k).length := by rw [washT_len]; exact HKL.out
            have hwk := washT_at HKL.out hwl
            rw [washT_set HKL.out, flat_set _ _ hwl _ (by rw [hwk]; rfl) (by rw [hwk]; rfl)]
            exact h1)
          have hexr : Ex r4 w12 (w12.setCell ⟨r4, k * 3 + 2, none⟩ (.bool false)) := Ex.set w12 _
          have hr4 := own_lt HO12.out (show (Value.slice (some ⟨r4, 0, none⟩) n c4).ownBlock = some r4 from rfl)
          have HOOS := Lib.hid (own_grown HOO12.out (show w12.grownBy _ (Value.slice (some ⟨r4, 0, none⟩) n c4).ownBlock from hexr) HAP12.out)
          have B7S := Lib.hid (hexr.box B712.out (fun e => own_off HO12.out B712.out (by rw [e]; rfl)))
          have B4S := Lib.hid (hexr.box B412.out (by have := HQ.out; omega))
          have HBS := Lib.hid (Ex.below HB12.out hexr (by have := HQ.out; omega) HB12.out.size)
          have HSS := Lib.hid (Nat.le_trans HS12.out hexr.size)
          have v0 := Box.cell B712.out 0 rfl
          have v1 := Box.cell B712.out 1 rfl
          clear hC hexr hr4 HO12 HOO12 B712 B412 HB12 hjj
          go_wp2
          go_roundw
          case rel =>
            refine ⟨k + 1, no + 1, by go_num, by have := HKL.out; have := HL.out; omega, B7S.out, HOS.out, ?_, ?_, HAP12.out, B4S.out, HSS.out, HBS.out⟩
            · show _ ∧ _
              rw [HF.out]
              have := HNN.out
              exact ⟨by simpa using this.1, by omega⟩
            · show World.ownsRow _ _ _ _ _ _ _
              rw [HF.out, List.flatMap_append]
              simpa using HOOS.out
          case measure => have := HKL.out; have := HL.out; simp [intOf]; omega
      · have HKX := Lib.hid (show l.take k = l ∧ washT l k = l.map wash from by
          have h1 : l.take k = l := List.take_of_length_le (by rw [HL.out]; omega)
          refine ⟨h1, ?_⟩
          unfold washT
          rw [h1, List.drop_of_length_le (by rw [HL.out]; omega), List.append_nil])
        have k0 := Box.cell B7.out 0 rfl
        have k1 := Box.cell B7.out 1 rfl
        obtain ⟨W, hW, hcs, hbW, hoW⟩ := ans_cache B4.out hbr HQ.out.1 (.int .i64 m) (.slice A4 n c4)
        have HW := Lib.hid hW
        have HCS := Lib.hid hcs
        have HBW := Lib.hid hbW
        have HOW := Lib.hid (hoW _ _ _ _ _ _ HO.out (own_far HO.out HQ.out.2.1))
        have HOOW := Lib.hid (hoW _ _ _ _ _ _ HOO.out (own_far HOO.out HQ.out.2.1))
        have m0 := Box.cell B4.out 0 rfl
        have m1 := Box.cell B4.out 1 rfl
        have f0 := Box.free B4.out 0
        have f1 := Box.free B4.out 1
        clear hW hcs hbW hoW
        go_wp2
        rw [← HW.out]
        obtain ⟨p0, p1⟩ := HCS.out
        rw [HP.out]
        have h1 := HOW.out
        have h2 := HOOW.out
        have h3 := HNN.out
        rw [HKX.out.2] at h1
        rw [HKX.out.1] at h2 h3
        exact bodyPost_ret (v := .tuple #[.agg #[.int .i64 m, .slice A4 n c4], u5]) (by simp [results, Try.results16, go_sem, p0, p1]) rfl ⟨_, _, rfl, IV.own h1 (by rw [List.length_map, HL.out]), IV.own h2 h3.1, HBW.out⟩

end Go.Proofs.Ythoffknkpogfhaa
