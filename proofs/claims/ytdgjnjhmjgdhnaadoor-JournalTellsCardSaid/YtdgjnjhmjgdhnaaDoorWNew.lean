/- The walk of New. -/
import Derived.Test.YtdgjnjhmjgdhnaaDoorWRepeat
import Derived.Test.YtdgjnjhmjgdhnaaDoorWFlush
namespace Go.Proofs.YtdgjnjhmjgdhnaaDoor
open Go.RowKit

/-- A sector of bytes 0. -/
def zeroS : ByteArray := ⟨(List.replicate 32 0).toArray⟩
theorem zero_size : zeroS.size = 32 := by decide +kernel
theorem zero_rep : (⟨(Lib.repeatL (⟨#[0]⟩ : ByteArray).data.toList 32).toArray⟩ : ByteArray) = zeroS := by decide +kernel
theorem zero_fill (n : Nat) : fillB (List.replicate n zeroS) = true := by
  unfold fillB
  rw [List.all_eq_true]
  intro x hx
  rw [(List.mem_replicate.1 hx).2, zero_size]
  rfl
theorem zero_right (n : Nat) (h : n ≤ 512) (h0 : 1 ≤ n) : rightB (List.replicate n zeroS) [] = true := right_of (by simpa using h0) (by simpa using h) (zero_fill n) (by simp)

theorem rep_zero (w : World) : Calls Tryd.prog 44 #[.string ⟨#[0]⟩, .int .i64 32] w fun e w' => e = .returned (.string zeroS) ∧ Below w.heap.size w w' := by
  have h := Tryd.strings_Repeat ⟨#[0]⟩ 32 w (by decide) (by decide)
  rw [zero_rep] at h
  exact h

set_option maxHeartbeats 1000000 in
theorem new_bad (n : Int) (w : World) (h : ¬ (1 ≤ n ∧ n ≤ 512)) :
    Calls Tryd.prog 24 #[.int .i64 n] w fun e w' => e = .returned (.tuple #[.agg #[.slice none 0 0, .slice none 0 0], .int .i64 1]) ∧ Below w.heap.size w w' := by
  have HD := Lib.hid (show DBlk (w.alloc (.cells #[.slice none 0 0, .slice none 0 0] 36)) w.heap.size none 0 0 none 0 0 from Box.fresh _ _ _)
  have HB := Lib.hid (show Below w.heap.size w (w.alloc (.cells #[.slice none 0 0, .slice none 0 0] 36)) from (Below.refl _ _).alloc (Nat.le_refl _) _)
  have hb : (decide (1 ≤ n) && decide (n ≤ 512)) = false := by
    rw [Bool.and_eq_false_iff]
    by_cases h1 : 1 ≤ n
    · exact .inr (decide_eq_false fun h2 => h ⟨h1, h2⟩)
    · exact .inl (decide_eq_false h1)
  have hm := may_any n (w.alloc (.cells #[.slice none 0 0, .slice none 0 0] 36))
  rw [hb] at hm
  clear hb h
  go_enter Tryd.func24, Tryd.ntmps24
  go_wp2_with fail
  refine hm.mono ?_
  clear hm
  rintro e w1 ⟨rfl, rfl⟩
  go_wp2
  have hp := ans_cells (.slice none 0 0) (.slice none 0 0) HD.out
  exact bodyPost_ret (v := .tuple #[.agg #[.slice none 0 0, .slice none 0 0], .int .i64 1]) (by simp [results, Tryd.results24, go_sem, hp.1, hp.2]) rfl ⟨rfl, by first | exact HB.out | exact (HB.out.setCell (by simp) _).setCell (by simp) _⟩

set_option maxHeartbeats 1000000 in
theorem new_ok (n : Nat) (w : World) (h0 : 1 ≤ n) (h : n ≤ 512) :
    Calls Tryd.prog 24 #[.int .i64 n] w fun e w' => ∃ v', e = .returned (.tuple #[v', .int .i64 0]) ∧ DV w' v' (List.replicate n zeroS) [] ∧ Below w.heap.size w w' := by
  have HD := Lib.hid (show DBlk (w.alloc (.cells #[.slice none 0 0, .slice none 0 0] 36)) w.heap.size none 0 0 none 0 0 from Box.fresh _ _ _)
  have HB := Lib.hid (show Below w.heap.size w (w.alloc (.cells #[.slice none 0 0, .slice none 0 0] 36)) from (Below.refl _ _).alloc (Nat.le_refl _) _)
  have hm := may_any n (w.alloc (.cells #[.slice none 0 0, .slice none 0 0] 36))
  rw [show (decide (1 ≤ (n : Int)) && decide ((n : Int) ≤ 512)) = true by rw [decide_eq_true (by omega : 1 ≤ (n : Int)), decide_eq_true (by omega : (n : Int) ≤ 512)]; rfl] at hm
  go_enter Tryd.func24, Tryd.ntmps24
  go_wp2_with fail
  refine hm.mono ?_
  clear hm
  rintro e w1 ⟨rfl, rfl⟩
  go_wp2_with fail
  refine (rep_zero _).mono ?_
  rintro e w2 ⟨rfl, hb2⟩
  have HD2 := Lib.hid (show DBlk w2 w.heap.size none 0 0 none 0 0 from Box.on HD.out hb2)
  have HB2 := Lib.hid (HB.out.trans (hb2.mono HB.out.size))
  have hz2 : w.heap.size < w2.heap.size := Box.lt HD2.out
  clear hb2 HD HB
  have hrp := repeat_any zeroS n (some ⟨w2.heap.size, 0, none⟩) 1 (w2.alloc (.cells #[.string zeroS] 9)) (by simpa using strs_one w2 9 zeroS) h h0
  obtain ⟨zs, hzs⟩ : ∃ zs, zs = zeroS := ⟨_, rfl⟩
  rw [← hzs] at hrp ⊢
  have HZ := Lib.hid hzs
  clear hzs
  go_wp2_with fail
  refine hrp.mono ?_
  clear hrp
  rintro e w3 ⟨g, rfl, hgg, hst, hb3⟩
  have HD3 := Lib.hid (show DBlk w3 w.heap.size none 0 0 none 0 0 from Box.on (Box.push HD2.out _) hb3)
  have HB3 := Lib.hid ((HB2.out.alloc HB2.out.size _).trans (hb3.mono (by have := HB2.out.size; simp; omega)))
  have HS := Lib.hid hst
  have f0 := Box.free HD3.out 0
  have f1 := Box.free HD3.out 1
  obtain ⟨k0, k1⟩ := DBlk.cells HD3.out
  clear hst hb3 hgg
  go_wp2
  have hp := ans_cells (.slice (some ⟨g, 0, none⟩) n n) (.slice none 0 0) HD3.out
  have hd2 : DBlk (w3.setCell ⟨w.heap.size, 0, none⟩ (.slice (some ⟨g, 0, none⟩) n n)) w.heap.size (some ⟨g, 0, none⟩) n n none 0 0 := Box.set HD3.out 0 _
  exact bodyPost_ret (v := .tuple #[.agg #[.slice (some ⟨g, 0, none⟩) n n, .slice none 0 0], .int .i64 0]) (by simp [results, Tryd.results24, go_sem, hp.1, hp.2]) rfl
    ⟨_, rfl, ⟨some ⟨g, 0, none⟩, n, none, 0, by rw [List.length_replicate]; rfl, by simpa [HZ.out] using (HS.out.apart HD3.out 0 _).apart hd2 1 _, Lies.nil⟩, (HB3.out.setCell (by simp) _).setCell (by simp) _⟩

end Go.Proofs.YtdgjnjhmjgdhnaaDoor
