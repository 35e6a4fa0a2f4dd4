/- The walk of Read, of a disk that is right, at sectors that are there. -/
import Derived.Test.YtdgjnjhmjgdhnaaDoorWFlush
import Derived.Test.YtdgjnjhmjgdhnaaDoorShelf
namespace Go.Proofs.YtdgjnjhmjgdhnaaDoor
open Go.RowKit

/-- Strings, one behind the other. -/
def flatS (l : List ByteArray) : ByteArray := ⟨((l.map (·.data.toList)).flatten).toArray⟩
theorem flat_one (x : ByteArray) : flatS [x] = x := by unfold flatS; simp
theorem join_flat (xs : List (List UInt8)) : Lib.join xs [] = xs.flatten := by
  cases xs with
  | nil => rfl
  | cons x r => rw [Lib.join_cons]; unfold Lib.joinTail; simp
theorem flat_size {l : List ByteArray} (h : ∀ x ∈ l, x.size = 32) : ((l.map (·.data.toList)).flatten).length = 32 * l.length := by
  induction l with
  | nil => rfl
  | cons x l ih =>
    have h1 : x.data.toList.length = 32 := by have := h x List.mem_cons_self; simpa using this
    rw [List.map_cons, List.flatten_cons, List.length_append, ih (fun y hy => h y (List.mem_cons_of_mem _ hy)), List.length_cons, h1]
    omega

theorem own_cap {w : World} {base e n g cap k : Nat} {xs : List Value} (h : w.ownsRow base e k (.slice (some ⟨g, 0, none⟩) n cap) n xs) : n ≤ cap ∧ cap ≤ maxLen := by
  rcases h.2 with ⟨h0, _⟩ | ⟨g', cap', cur, hv, hb, hg, hc, hm, hs, ht⟩
  · simp at h0
  · simp only [Value.slice.injEq, Option.some.injEq, Addr.mk.injEq, and_true, true_and] at hv
    obtain ⟨rfl, rfl⟩ := hv
    exact ⟨hc, hm⟩

set_option maxHeartbeats 1000000 in
theorem read_ok (A : Option Addr) (c : Nat) (S : List ByteArray) (B : Option Addr) (d : Nat) (W : List Wr) (a k : Nat) (w : World) (hA : Strs w w.heap.size A S) (hB : Wrs w w.heap.size B W) (hm : W.length ≤ 1000000) (hR : rightB S W = true) (hak : a + k ≤ S.length) :
    Calls Tryd.prog 37 #[.agg #[.slice A S.length c, .slice B W.length d], .int .i64 a, .int .i64 k] w fun e w' => e = .returned (.tuple #[.string (flatS (((doneL S W).drop a).take k)), .int .i64 0]) ∧ Below w.heap.size w w' := by
  obtain ⟨r1, r2, r3, r4⟩ := right_parts hR
  have hb0 : Below w.heap.size w (w.alloc (.cells #[.slice A S.length c, .slice B W.length d] 36)) := (Below.refl _ _).alloc (Nat.le_refl _) _
  have HD := Lib.hid (show DBlk (w.alloc (.cells #[.slice A S.length c, .slice B W.length d] 36)) w.heap.size A S.length c B W.length d from Box.fresh _ _ _)
  have hrt := right_any A c S B d W _ (hA.on hb0) (Lies.on hB hb0) (by omega) hm
  rw [hR] at hrt
  have HWR := Lib.hid (fun (w1 : World) (h : Below w.heap.size w w1) => written_any A c S B d W w1 (hA.on h) (Lies.on hB h) (by omega) hm r1 (fun x hx => (r4 x hx).2))
  have HDL := Lib.hid (done_len S W)
  have HF := Lib.hid (done_fill r3 (fun x hx => ⟨(r4 x hx).1, (r4 x hx).2.1⟩))
  have HB0 := Lib.hid hb0
  have hh : hasB S.length a k = true := by unfold hasB; simp; omega
  have hlen : S.length ≤ 512 := r2
  generalize S.length = n at *
  generalize W.length = m at *
  generalize doneL S W = D at *
  clear hA hB r1 r2 r3 r4 hR hb0
  go_enter Tryd.func37, Tryd.ntmps37
  go_wp2_with fail
  refine hrt.mono ?_
  clear hrt
  rintro e w1 ⟨rfl, hb1⟩
  have HD1 := Lib.hid (show DBlk w1 w.heap.size A n c B m d from Box.on HD.out hb1)
  have HB1 := Lib.hid (HB0.out.trans (hb1.mono HB0.out.size))
  have hz1 : w.heap.size < w1.heap.size := Box.lt HD1.out
  obtain ⟨d1, d2⟩ := DBlk.cells HD1.out
  clear HD HB0 hb1
  have hhas := has_any A c B n m d a k w1 (by omega)
  rw [hh] at hhas
  clear hh
  go_wp2_with fail
  refine hhas.mono ?_
  clear hhas d1 d2
  rintro e w2 ⟨rfl, hb2⟩
  have HD2 := Lib.hid (show DBlk w2 w.heap.size A n c B m d from Box.on HD1.out hb2)
  have HB2 := Lib.hid (HB1.out.trans (hb2.mono HB1.out.size))
  have hz2 : w.heap.size < w2.heap.size := Box.lt HD2.out
  obtain ⟨d1, d2⟩ := DBlk.cells HD2.out
  have hw := HWR.out w2 HB2.out
  clear HD1 HB1 hb2 HWR
  go_wp2_with fail
  refine hw.mono ?_
  clear hw d1 d2
  rintro e w3 ⟨g, cap, rfl, hown, hb3⟩
  have HB3 := Lib.hid (HB2.out.trans (hb3.mono HB2.out.size))
  obtain ⟨hcap, hcm⟩ := own_cap hown
  unfold maxLen at hcm
  have HO := Lib.hid hown
  have hlg := (hown.lt g rfl).2
  clear hown hb3
  have HJ := Lib.hid (fun (o cc : Nat) (xs : List ByteArray) (h1 : ∀ (j : Nat) x, xs[j]? = some x → w3.cell? ⟨g, o + j, none⟩ = some (.string x)) (h2 : xs.length ≤ 512) (h3 : xs.length ≤ cc) (h4 : ∀ x ∈ xs, x.size = 32) => Tryd.strings_Join g o cc xs ⟨#[]⟩ w3 h1 hlg (by omega) h3 (by rw [show (⟨#[]⟩ : ByteArray).data.toList = [] from rfl, join_flat, flat_size h4]; omega))
  have HX := Lib.hid (show ((D.drop a).take k).length = k by rw [List.length_take, List.length_drop, HDL.out]; omega)
  by_cases hac : a = cap
  · have hk0 : k = 0 := by omega
    subst hk0
    have hj := HJ.out 0 0 [] (by simp) (by simp) (by simp) (by simp)
    clear HJ
    go_wp2_with fail
    · refine hj.mono ?_
      rintro e w4 ⟨rfl, hb4⟩
      have HB4 := Lib.hid (HB3.out.trans (hb4.mono HB3.out.size))
      clear hb4
      go_wp2
      exact bodyPost_ret (v := .tuple #[.string ⟨#[]⟩, .int .i64 0]) (by simp [results, Tryd.results37, go_sem]; rfl) rfl ⟨by rw [List.take_zero]; rfl, HB4.out⟩
  · have hj := HJ.out a (cap - a) ((D.drop a).take k) (fun j x hx => by
      have hj : j < k := by rw [← HX.out]; exact (List.getElem?_eq_some_iff.1 hx).1
      rw [HO.out.cellAt (a + j) (by omega), List.getElem?_map]
      rw [List.getElem?_take_of_lt hj, List.getElem?_drop] at hx
      rw [hx]; rfl) (by rw [HX.out]; omega) (by rw [HX.out]; omega) (fun x hx => fill_mem HF.out (List.mem_of_mem_drop (List.mem_of_mem_take hx)))
    rw [HX.out] at hj
    clear HJ
    have HE := Lib.hid (show (⟨(Lib.join (((D.drop a).take k).map (·.data.toList)) (⟨#[]⟩ : ByteArray).data.toList).toArray⟩ : ByteArray) = flatS ((D.drop a).take k) by
      rw [show (⟨#[]⟩ : ByteArray).data.toList = [] from rfl, join_flat]; rfl)
    rw [HE.out] at hj
    obtain ⟨s, hs⟩ : ∃ s, s = flatS ((D.drop a).take k) := ⟨_, rfl⟩
    rw [← hs] at hj
    have HSS := Lib.hid hs
    clear hs
    go_wp2_with fail
    refine hj.mono ?_
    rintro e w4 ⟨rfl, hb4⟩
    have HB4 := Lib.hid (HB3.out.trans (hb4.mono HB3.out.size))
    clear hb4
    go_wp2
    exact bodyPost_ret (v := .tuple #[.string s, .int .i64 0]) (by simp [results, Tryd.results37, go_sem]) rfl ⟨by rw [HSS.out], HB4.out⟩

end Go.Proofs.YtdgjnjhmjgdhnaaDoor
