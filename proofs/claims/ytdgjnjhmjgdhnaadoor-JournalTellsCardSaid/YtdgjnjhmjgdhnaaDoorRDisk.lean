/- The walks of the document's Right, sector and Read of layer 4, of any disk. -/
import Derived.Test.YtdgjnjhmjgdhnaaDoorWRef
import Derived.Test.YtdgjnjhmjgdhnaaDoorWRead
namespace Go.Proofs.YtdgjnjhmjgdhnaaDoor
open Go.RowKit

theorem right_few {S : List ByteArray} {W : List Wr} (h : ¬ (1 ≤ S.length ∧ S.length ≤ 512)) : rightB S W = false := by
  unfold rightB
  by_cases h1 : 1 ≤ S.length
  · rw [decide_eq_false (show ¬ S.length ≤ 512 from fun h2 => h ⟨h1, h2⟩)]; simp
  · rw [decide_eq_false h1]; simp
theorem right_fill {S : List ByteArray} {W : List Wr} (h : fillB S = false) : rightB S W = false := by unfold rightB; rw [h]; simp
theorem right_wr {S : List ByteArray} {W : List Wr} (h : W.all (wrB S.length) = false) : rightB S W = false := by unfold rightB; rw [h]; simp
theorem right_all {S : List ByteArray} {W : List Wr} (h1 : 1 ≤ S.length ∧ S.length ≤ 512) (h2 : fillB S = true) (h3 : W.all (wrB S.length) = true) : rightB S W = true := by
  unfold rightB
  rw [h2, h3, decide_eq_true h1.1, decide_eq_true h1.2]
  rfl

set_option maxHeartbeats 4000000 in
set_option maxRecDepth 100000 in
theorem dright_any (A : Option Addr) (c : Nat) (S : List ByteArray) (B : Option Addr) (d : Nat) (W : List Wr) (w : World) (hA : Strs w w.heap.size A S) (hB : Wrs w w.heap.size B W) (hn : S.length ≤ 1000000) (hm : W.length ≤ 1000000) :
    Calls Tryd.prog 54 #[.agg #[.slice A S.length c, .slice B W.length d]] w fun e w' => e = .returned (.bool (rightB S W)) ∧ Below w.heap.size w w' := by
  have HA := Lib.hid hA
  have HB := Lib.hid hB
  have HFEW := Lib.hid (right_few (S := S) (W := W))
  have HFILL := Lib.hid (right_fill (S := S) (W := W))
  have HWR := Lib.hid (right_wr (S := S) (W := W))
  have HALL := Lib.hid (right_all (S := S) (W := W))
  generalize rightB S W = rb at *
  generalize hs : S.length = n at *
  generalize hl : W.length = m at *
  have HS := Lib.hid hs
  have HL := Lib.hid hl
  clear hA hB hs hl
  have HX := Lib.hid (show EBlk (w.alloc (.cells #[.slice A n c, .slice B m d] 39)) w.heap.size (.slice A n c) (.slice B m d) from Box.fresh _ _ _)
  have HB0 := Lib.hid ((Below.refl w.heap.size w).alloc (Nat.le_refl _) (.cells #[.slice A n c, .slice B m d] 39))
  by_cases h1 : 1 ≤ n
  · by_cases h2 : n ≤ 512
    · have g1 : decide ((n : Int) < 1) = false := decide_eq_false (by omega)
      have g2 : decide ((512 : Int) < n) = false := decide_eq_false (by omega)
      go_enter Tryd.func54, Tryd.ntmps54
      go_wp2
      go_loopw [4] (fun i wr => ∃ (k : Nat), i = .int .i64 k ∧ k ≤ n ∧ fillB (S.take k) = true ∧ EBlk wr w.heap.size (.slice A n c) (.slice B m d) ∧ Below w.heap.size w wr) (fun i _ => (n - intOf i).toNat)
      case atStart => exact ⟨0, rfl, by omega, rfl, HX.out, HB0.out⟩
      case round =>
        obtain ⟨k, rfl, hk, hf, hx, hbr⟩ := hrel
        have HF := Lib.hid hf
        have HX2 := Lib.hid hx
        obtain ⟨x1, x2⟩ := EBlk.cells hx
        clear hf hx
        by_cases hlt : k < n
        · obtain ⟨ad, rfl, hab, hca⟩ := (HA.out.below hbr) (by rw [HS.out]; omega)
          have c1 := hca k (by rw [HS.out]; omega)
          have HOK := Lib.hid (fill_take S k (by rw [HS.out]; omega) HF.out)
          have hkS : k < S.length := by rw [HS.out]; omega
          have HBAD := Lib.hid (fun hx => HFILL.out (fill_bad S k hkS hx))
          generalize S[k]'(by rw [HS.out]; omega) = x at *
          clear hca
          by_cases hz : x.size = 32
          · have hq : ((x.size : Int) != 32) = false := by simp; omega
            have HZ := Lib.hid hz
            clear hz
            go_wp2
            go_roundw
            case rel => exact ⟨k + 1, by go_num, by omega, HOK.out HZ.out, HX2.out, hbr⟩
            case measure => simp [intOf]; omega
          · have hq : ((x.size : Int) != 32) = true := by simp; omega
            have HZ := Lib.hid (HBAD.out hz)
            clear hz
            go_wp2
            go_ret
            exact ⟨by rw [HZ.out]; rfl, hbr⟩
        · have HFS := Lib.hid (show fillB S = true by have h := HF.out; rwa [List.take_of_length_le (by rw [HS.out]; omega)] at h)
          clear x1 x2
          go_wp2
          go_loopw [5] (fun i wr => ∃ (k : Nat), i = .int .i64 k ∧ k ≤ m ∧ (W.take k).all (wrB n) = true ∧ EBlk wr w.heap.size (.slice A n c) (.slice B m d) ∧ Below w.heap.size w wr) (fun i _ => (m - intOf i).toNat)
          case atStart => exact ⟨0, rfl, by omega, rfl, HX2.out, hbr⟩
          case round =>
            obtain ⟨k2, rfl, hk2, hf, hx, hbr2⟩ := hrel
            have HF2 := Lib.hid hf
            have HX3 := Lib.hid hx
            obtain ⟨x1, x2⟩ := EBlk.cells hx
            clear hf hx
            by_cases hlt2 : k2 < m
            · obtain ⟨ad, rfl, hab, hca⟩ := (HB.out.below hbr2).seeW (by rw [HL.out]; omega)
              obtain ⟨c1, c2⟩ := hca k2 (by rw [HL.out]; omega)
              have HOK := Lib.hid (wr_take n W k2 (by rw [HL.out]; omega) HF2.out)
              have hkW : k2 < W.length := by rw [HL.out]; omega
              have HBAD := Lib.hid (fun hx => HWR.out (wr_bad n W k2 hkW hx))
              generalize W[k2]'(by rw [HL.out]; omega) = x at *
              obtain ⟨xa, xt⟩ := x
              simp only at c1 c2
              clear hca
              by_cases hz : xt.size = 32
              · have hq : ((xt.size : Int) != 32) = false := by simp; omega
                by_cases ha0 : xa < 0
                · have hq1 : decide (xa < 0) = true := decide_eq_true ha0
                  have HZ := Lib.hid (HBAD.out (by unfold wrB; simp only; rw [decide_eq_false (show ¬ 0 ≤ xa by omega)]; simp))
                  clear hz ha0
                  go_wp2
                  go_ret
                  exact ⟨by rw [HZ.out]; rfl, hbr2⟩
                · have hq1 : decide (xa < 0) = false := decide_eq_false ha0
                  by_cases han : (n : Int) ≤ xa
                  · have hq2 : decide ((n : Int) ≤ xa) = true := decide_eq_true han
                    have HZ := Lib.hid (HBAD.out (by unfold wrB; simp only; rw [decide_eq_false (show ¬ xa < n by omega)]; simp))
                    clear hz ha0 han
                    go_wp2
                    go_ret
                    exact ⟨by rw [HZ.out]; rfl, hbr2⟩
                  · have hq2 : decide ((n : Int) ≤ xa) = false := decide_eq_false han
                    have HZ := Lib.hid (HOK.out (by unfold wrB; simp only; rw [decide_eq_true (show 0 ≤ xa by omega), decide_eq_true (show xa < n by omega), hz]; rfl))
                    clear hz ha0 han
                    go_wp2
                    go_roundw
                    case rel => exact ⟨k2 + 1, by go_num, by omega, HZ.out, HX3.out, hbr2⟩
                    case measure => simp [intOf]; omega
              · have hq : ((xt.size : Int) != 32) = true := by simp; omega
                have HZ := Lib.hid (HBAD.out (by unfold wrB; simp only; rw [beq_eq_false_iff_ne.2 hz]; rfl))
                clear hz
                go_wp2
                go_ret
                exact ⟨by rw [HZ.out]; rfl, hbr2⟩
            · have HE := Lib.hid (HALL.out ⟨h1, h2⟩ HFS.out (by have h := HF2.out; rwa [List.take_of_length_le (by rw [HL.out]; omega)] at h))
              go_wp2
              go_ret
              exact ⟨by rw [HE.out]; rfl, hbr2⟩
    · have g1 : decide ((n : Int) < 1) = false := decide_eq_false (by omega)
      have g2 : decide ((512 : Int) < n) = true := decide_eq_true (by omega)
      have HE := Lib.hid (HFEW.out (fun h => h2 h.2))
      go_enter Tryd.func54, Tryd.ntmps54
      go_wp2
      go_ret
      exact ⟨by rw [HE.out]; rfl, HB0.out⟩
  · have g1 : decide ((n : Int) < 1) = true := decide_eq_true (by omega)
    have HE := Lib.hid (HFEW.out (fun h => h1 h.1))
    go_enter Tryd.func54, Tryd.ntmps54
    go_wp2
    go_ret
    exact ⟨by rw [HE.out]; rfl, HB0.out⟩

/-- A sector as it reads. -/
def secAt (S : List ByteArray) (W : List Wr) (i : Nat) : ByteArray := (doneL S W).getD i ⟨#[]⟩
theorem sec_nil {S : List ByteArray} {i : Nat} (h : i < S.length) : secAt S [] i = S[i] := by
  unfold secAt
  rw [done_nil, List.getD_eq_getElem?_getD, List.getElem?_eq_getElem h]
  rfl
theorem sec_take {S : List ByteArray} {W : List Wr} {k i : Nat} (hk : k < W.length) (h0 : 0 ≤ W[k].a) (hi : i < S.length) : secAt S (W.take (k + 1)) i = if W[k].a = (i : Int) then W[k].tx else secAt S (W.take k) i := by
  unfold secAt
  rw [done_take S W k hk, List.getD_eq_getElem?_getD, List.getD_eq_getElem?_getD, List.getElem?_set]
  by_cases h : W[k].a = (i : Int)
  · rw [if_pos h, if_pos (by omega), if_pos (by rw [done_len]; omega)]
    rfl
  · rw [if_neg h, if_neg (by omega)]

set_option maxHeartbeats 4000000 in
set_option maxRecDepth 100000 in
theorem dsector_any (A : Option Addr) (c : Nat) (S : List ByteArray) (B : Option Addr) (d : Nat) (W : List Wr) (i : Nat) (w : World) (hA : Strs w w.heap.size A S) (hB : Wrs w w.heap.size B W) (hn : S.length ≤ 1000000) (hm : W.length ≤ 1000000) (hi : i < S.length) (hW : ∀ x ∈ W, 0 ≤ x.a) :
    Calls Tryd.prog 55 #[.agg #[.slice A S.length c, .slice B W.length d], .int .i64 i] w fun e w' => e = .returned (.string (secAt S W i)) ∧ Below w.heap.size w w' := by
  have HA := Lib.hid hA
  have HB := Lib.hid hB
  have HW := Lib.hid hW
  obtain ⟨s, hs0⟩ : ∃ s, s = secAt S W i := ⟨_, rfl⟩
  rw [← hs0]
  have HSE := Lib.hid hs0
  generalize hs : S.length = n at *
  generalize hl : W.length = m at *
  have HS := Lib.hid hs
  have HL := Lib.hid hl
  clear hA hB hs hl hs0 hW
  have HX := Lib.hid (show EBlk (w.alloc (.cells #[.slice A n c, .slice B m d] 39)) w.heap.size (.slice A n c) (.slice B m d) from Box.fresh _ _ _)
  have HB0 := Lib.hid ((Below.refl w.heap.size w).alloc (Nat.le_refl _) (.cells #[.slice A n c, .slice B m d] 39))
  go_enter Tryd.func55, Tryd.ntmps55
  go_wp2
  go_loopw [5] (fun t wr => ∃ (j : Nat) (q : Int), t = .int .i64 q ∧ q + 1 = j ∧ j ≤ m ∧ secAt S (W.take j) i = s ∧ EBlk wr w.heap.size (.slice A n c) (.slice B m d) ∧ Below w.heap.size w wr) (fun t _ => (intOf t + 1).toNat)
  case atStart => exact ⟨m, _, rfl, by omega, by omega, by rw [List.take_of_length_le (by rw [HL.out]; omega)]; exact HSE.out.symm, HX.out, HB0.out⟩
  case round =>
    obtain ⟨j, q, rfl, hq, hj, hsj, hx, hbr⟩ := hrel
    have HX2 := Lib.hid hx
    obtain ⟨x1, x2⟩ := EBlk.cells hx
    clear hx
    by_cases h0 : 0 ≤ q
    · obtain ⟨k, rfl⟩ := Int.eq_ofNat_of_zero_le h0
      obtain rfl : j = k + 1 := by omega
      have hkm : k < m := by omega
      obtain ⟨ad, rfl, hab, hca⟩ := (HB.out.below hbr).seeW (by rw [HL.out]; omega)
      obtain ⟨c1, c2⟩ := hca k (by rw [HL.out]; omega)
      have hst := sec_take (S := S) (W := W) (k := k) (i := i) (by rw [HL.out]; omega) (HW.out _ (List.getElem_mem _)) (by rw [HS.out]; omega)
      rw [hsj] at hst
      generalize W[k]'(by rw [HL.out]; omega) = x at *
      obtain ⟨xa, xt⟩ := x
      simp only at c1 c2 hst
      have HST := Lib.hid hst
      clear hca hst hsj hq h0
      by_cases he : xa = (i : Int)
      · have hq : (xa == (i : Int)) = true := by rw [beq_iff_eq]; exact he
        have HE := Lib.hid (show s = xt by have h := HST.out; rwa [if_pos he] at h)
        clear he HST
        go_wp2
        go_ret
        exact ⟨by rw [HE.out]; rfl, hbr⟩
      · have hq : (xa == (i : Int)) = false := by rw [beq_eq_false_iff_ne]; exact he
        have HE := Lib.hid (show secAt S (W.take k) i = s by have h := HST.out; rw [if_neg he] at h; exact h.symm)
        clear he HST
        go_wp2
        go_roundw
        case rel => exact ⟨k, _, rfl, by omega, by omega, HE.out, HX2.out, hbr⟩
        case measure => simp [intOf]
    · obtain rfl : q = -1 := by omega
      obtain rfl : j = 0 := by omega
      have hd : decide ((0 : Int) ≤ -1) = false := by decide
      rw [List.take_zero, sec_nil (by rw [HS.out]; exact hi)] at hsj
      obtain ⟨ad, rfl, hab, hca⟩ := (HA.out.below hbr) (by rw [HS.out]; omega)
      have c1 := hca i (by rw [HS.out]; omega)
      rw [hsj] at c1
      clear hca hsj
      go_wp2
      go_ret
      exact ⟨rfl, hbr⟩

theorem flat_next (l : List ByteArray) (j : Nat) (h : j < l.length) : flatS (l.take (j + 1)) = flatS (l.take j) ++ l[j] := by
  unfold flatS
  rw [List.take_succ_eq_append_getElem h, List.map_append, List.flatten_append]
  apply ByteArray.ext
  simp
def cutS (S : List ByteArray) (W : List Wr) (a j : Nat) : ByteArray := flatS (((doneL S W).drop a).take j)
theorem cut_next {S : List ByteArray} {W : List Wr} {a j : Nat} (h : a + j < S.length) : cutS S W a (j + 1) = cutS S W a j ++ secAt S W (a + j) := by
  unfold cutS
  rw [flat_next _ _ (by rw [List.length_drop, done_len]; omega)]
  congr 1
  unfold secAt
  rw [List.getElem_drop, List.getD_eq_getElem?_getD, List.getElem?_eq_getElem (by rw [done_len]; omega)]
  rfl
theorem cut_zero (S : List ByteArray) (W : List Wr) (a : Nat) : cutS S W a 0 = ⟨#[]⟩ := by unfold cutS; rw [List.take_zero]; rfl
theorem cut_size {S : List ByteArray} {W : List Wr} (hR : rightB S W = true) (a j : Nat) : (cutS S W a j).size ≤ 32 * S.length := by
  obtain ⟨r1, r2, r3, r4⟩ := right_parts hR
  have hf := done_fill r3 (fun x hx => ⟨(r4 x hx).1, (r4 x hx).2.1⟩)
  have h := flat_size (l := ((doneL S W).drop a).take j) (fun x hx => fill_mem hf (List.mem_of_mem_drop (List.mem_of_mem_take hx)))
  show (((((doneL S W).drop a).take j).map (·.data.toList)).flatten).toArray.size ≤ _
  rw [List.size_toArray, h, List.length_take, List.length_drop, done_len]
  omega
theorem sec_size32 {S : List ByteArray} {W : List Wr} (hR : rightB S W = true) {i : Nat} (hi : i < S.length) : (secAt S W i).size = 32 := by
  obtain ⟨r1, r2, r3, r4⟩ := right_parts hR
  have hf := done_fill r3 (fun x hx => ⟨(r4 x hx).1, (r4 x hx).2.1⟩)
  unfold secAt
  rw [List.getD_eq_getElem?_getD, List.getElem?_eq_getElem (by rw [done_len]; exact hi)]
  exact fill_mem hf (List.getElem_mem _)

set_option maxHeartbeats 4000000 in
set_option maxRecDepth 100000 in
theorem dread_ok (A : Option Addr) (c : Nat) (S : List ByteArray) (B : Option Addr) (d : Nat) (W : List Wr) (a k : Nat) (w : World) (hA : Strs w w.heap.size A S) (hB : Wrs w w.heap.size B W) (hm : W.length ≤ 1000000) (hR : rightB S W = true) (hak : a + k ≤ S.length) :
    Calls Tryd.prog 38 #[.agg #[.slice A S.length c, .slice B W.length d], .int .i64 a, .int .i64 k] w fun e w' => e = .returned (.tuple #[.string (cutS S W a k), .int .i64 0]) ∧ Below w.heap.size w w' := by
  obtain ⟨r1, r2, r3, r4⟩ := right_parts hR
  have hb0 : Below w.heap.size w (w.alloc (.cells #[.slice A S.length c, .slice B W.length d] 39)) := (Below.refl _ _).alloc (Nat.le_refl _) _
  have hrt := dright_any A c S B d W _ (hA.on hb0) (Lies.on hB hb0) (by omega) hm
  rw [hR] at hrt
  have HSE := Lib.hid (fun (i : Nat) (hi : i < S.length) (w1 : World) (h : Below w.heap.size w w1) => dsector_any A c S B d W i w1 (hA.on h) (Lies.on hB h) (by omega) hm hi (fun x hx => (r4 x hx).2.1))
  have HCN := Lib.hid (fun j (h : a + j < S.length) => cut_next (W := W) h)
  have HCZ := Lib.hid (fun j => cut_size hR a j)
  have HSZ := Lib.hid (fun i (hi : i < S.length) => sec_size32 hR hi)
  have HC0 := Lib.hid (cut_zero S W a)
  have hlen : S.length ≤ 512 := r2
  generalize cutS S W a = cs at *
  generalize secAt S W = sa at *
  generalize S.length = n at *
  generalize W.length = m at *
  have HX := Lib.hid (show EBlk (w.alloc (.cells #[.slice A n c, .slice B m d] 39)) w.heap.size (.slice A n c) (.slice B m d) from Box.fresh _ _ _)
  have HB0 := Lib.hid hb0
  clear hA hB r1 r2 r3 r4 hR hb0
  have g1 : decide ((k : Int) < 0) = false := decide_eq_false (by omega)
  have g2 : decide ((a : Int) < 0) = false := decide_eq_false (by omega)
  have g3 : decide ((n : Int) < k) = false := decide_eq_false (by omega)
  have g3n : decide (n < k) = false := decide_eq_false (by omega)
  have g4 : decide ((n : Int) - k < a) = false := decide_eq_false (by omega)
  go_enter Tryd.func38, Tryd.ntmps38
  go_wp2_with fail
  refine hrt.mono ?_
  clear hrt
  rintro e w1 ⟨rfl, hb1⟩
  have HX1 := Lib.hid (show EBlk w1 w.heap.size (.slice A n c) (.slice B m d) from Box.on HX.out hb1)
  have HB1 := Lib.hid (HB0.out.trans (hb1.mono HB0.out.size))
  have hz1 : w.heap.size < w1.heap.size := Box.lt HX1.out
  obtain ⟨d1, d2⟩ := EBlk.cells HX1.out
  clear HX HB0 hb1
  go_wp2
  clear d1 d2 hz1
  go_loopw [9, 10] (fun t i wr => ∃ (j : Nat), i = .int .i64 j ∧ j ≤ k ∧ t = .string (cs j) ∧ EBlk wr w.heap.size (.slice A n c) (.slice B m d) ∧ Below w.heap.size w wr) (fun _ i _ => (k - intOf i).toNat)
  case atStart => exact ⟨0, rfl, by omega, by rw [HC0.out], HX1.out, HB1.out⟩
  case round =>
    obtain ⟨j, rfl, hj, rfl, hx, hbr⟩ := hrel
    have HX2 := Lib.hid hx
    obtain ⟨x1, x2⟩ := EBlk.cells hx
    have hz := Box.lt hx
    clear hx
    have hcz := HCZ.out j
    by_cases hlt : j < k
    · have hse := HSE.out (a + j) (by omega) wr hbr
      have hsz := HSZ.out (a + j) (by omega)
      have HN := Lib.hid (HCN.out j (by omega))
      generalize sa (a + j) = sx at *
      generalize hcj : cs j = sj at *
      clear hcj
      have hwr : IntKind.i64.wrap ((a : Int) + j) = ((a + j : Nat) : Int) := by rw [IntWalk.i64_in _ (by omega)]; omega
      go_wp2_with fail
      refine hse.mono ?_
      clear hse x1 x2 hz
      rintro e w3 ⟨rfl, hb3⟩
      go_wp2
      go_roundw
      case rel => exact ⟨j + 1, by go_num, by omega, by rw [HN.out], Box.on HX2.out hb3, hbr.trans (hb3.mono hbr.size)⟩
      case measure => simp [intOf]; omega
    · obtain rfl : j = k := by omega
      go_wp2
      go_ret2
      exact ⟨rfl, hbr⟩

set_option maxHeartbeats 4000000 in
set_option maxRecDepth 100000 in
theorem dread_bad (A : Option Addr) (c : Nat) (S : List ByteArray) (B : Option Addr) (d : Nat) (W : List Wr) (a k : Int) (w : World) (hA : Strs w w.heap.size A S) (hB : Wrs w w.heap.size B W) (hn : S.length ≤ 1000000) (hm : W.length ≤ 1000000) (hbad : rightB S W = false ∨ hasB S.length a k = false) :
    Calls Tryd.prog 38 #[.agg #[.slice A S.length c, .slice B W.length d], .int .i64 a, .int .i64 k] w fun e w' => e = .returned (.tuple #[.string ⟨#[]⟩, .int .i64 1]) ∧ Below w.heap.size w w' := by
  have hb0 : Below w.heap.size w (w.alloc (.cells #[.slice A S.length c, .slice B W.length d] 39)) := (Below.refl _ _).alloc (Nat.le_refl _) _
  have hrt := dright_any A c S B d W _ (hA.on hb0) (Lies.on hB hb0) hn hm
  generalize rightB S W = rb at *
  generalize S.length = n at *
  generalize W.length = m at *
  have HX := Lib.hid (show EBlk (w.alloc (.cells #[.slice A n c, .slice B m d] 39)) w.heap.size (.slice A n c) (.slice B m d) from Box.fresh _ _ _)
  have HB0 := Lib.hid hb0
  clear hA hB hb0
  have hcase : rb = false ∨ (rb = true ∧ k < 0) ∨ (rb = true ∧ ¬ k < 0 ∧ a < 0) ∨ (rb = true ∧ ¬ k < 0 ∧ ¬ a < 0 ∧ (n : Int) < k) ∨ (rb = true ∧ ¬ k < 0 ∧ ¬ a < 0 ∧ ¬ (n : Int) < k ∧ (n : Int) - k < a) := by
    cases rb with
    | false => exact .inl rfl
    | true =>
      have h : hasB n a k = false := by
        rcases hbad with h | h
        · cases h
        · exact h
      unfold hasB at h
      simp only [decide_eq_false_iff_not] at h
      refine .inr ?_
      by_cases h1 : k < 0
      · exact .inl ⟨rfl, h1⟩
      · by_cases h2 : a < 0
        · exact .inr (.inl ⟨rfl, h1, h2⟩)
        · by_cases h3 : (n : Int) < k
          · exact .inr (.inr (.inl ⟨rfl, h1, h2, h3⟩))
          · exact .inr (.inr (.inr ⟨rfl, h1, h2, h3, by omega⟩))
  clear hbad
  rcases hcase with rfl | ⟨rfl, h1⟩ | ⟨rfl, h1, h2⟩ | ⟨rfl, h1, h2, h3⟩ | ⟨rfl, h1, h2, h3, h4⟩
  · go_enter Tryd.func38, Tryd.ntmps38
    go_wp2_with fail
    refine hrt.mono ?_
    clear hrt
    rintro e w1 ⟨rfl, hb1⟩
    have HB1 := Lib.hid (HB0.out.trans (hb1.mono HB0.out.size))
    clear hb1
    go_wp2
    go_ret2
    exact ⟨rfl, HB1.out⟩
  · have g1 : decide (k < 0) = true := decide_eq_true h1
    clear h1
    go_enter Tryd.func38, Tryd.ntmps38
    go_wp2_with fail
    refine hrt.mono ?_
    clear hrt
    rintro e w1 ⟨rfl, hb1⟩
    have HB1 := Lib.hid (HB0.out.trans (hb1.mono HB0.out.size))
    clear hb1
    go_wp2
    go_ret2
    exact ⟨rfl, HB1.out⟩
  · have g1 : decide (k < 0) = false := decide_eq_false h1
    have g2 : decide (a < 0) = true := decide_eq_true h2
    clear h1 h2
    go_enter Tryd.func38, Tryd.ntmps38
    go_wp2_with fail
    refine hrt.mono ?_
    clear hrt
    rintro e w1 ⟨rfl, hb1⟩
    have HB1 := Lib.hid (HB0.out.trans (hb1.mono HB0.out.size))
    clear hb1
    go_wp2
    go_ret2
    exact ⟨rfl, HB1.out⟩
  · have g1 : decide (k < 0) = false := decide_eq_false h1
    have g2 : decide (a < 0) = false := decide_eq_false h2
    have g3 : decide ((n : Int) < k) = true := decide_eq_true h3
    clear h1 h2 h3
    go_enter Tryd.func38, Tryd.ntmps38
    go_wp2_with fail
    refine hrt.mono ?_
    clear hrt
    rintro e w1 ⟨rfl, hb1⟩
    have HX1 := Lib.hid (show EBlk w1 w.heap.size (.slice A n c) (.slice B m d) from Box.on HX.out hb1)
    have HB1 := Lib.hid (HB0.out.trans (hb1.mono HB0.out.size))
    have hz1 : w.heap.size < w1.heap.size := Box.lt HX1.out
    obtain ⟨d1, d2⟩ := EBlk.cells HX1.out
    clear hb1
    go_wp2
    go_ret2
    exact ⟨rfl, HB1.out⟩
  · have g1 : decide (k < 0) = false := decide_eq_false h1
    have g2 : decide (a < 0) = false := decide_eq_false h2
    have g3 : decide ((n : Int) < k) = false := decide_eq_false h3
    have g4 : decide ((n : Int) - k < a) = true := decide_eq_true h4
    have gw : IntKind.i64.wrap ((n : Int) - k) = (n : Int) - k := IntWalk.i64_in _ (by omega)
    clear h1 h2 h3 h4
    go_enter Tryd.func38, Tryd.ntmps38
    go_wp2_with fail
    refine hrt.mono ?_
    clear hrt
    rintro e w1 ⟨rfl, hb1⟩
    have HX1 := Lib.hid (show EBlk w1 w.heap.size (.slice A n c) (.slice B m d) from Box.on HX.out hb1)
    have HB1 := Lib.hid (HB0.out.trans (hb1.mono HB0.out.size))
    have hz1 : w.heap.size < w1.heap.size := Box.lt HX1.out
    obtain ⟨d1, d2⟩ := EBlk.cells HX1.out
    clear hb1
    go_wp2
    go_ret2
    exact ⟨rfl, HB1.out⟩

end Go.Proofs.YtdgjnjhmjgdhnaaDoor
