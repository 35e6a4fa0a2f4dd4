/- The walk of 'awake', the fixed answer at each statement's end: it is true. -/
import Derived.Test.YtodcngkcaeahhaaWFit
namespace Go.Proofs.Ytodcngkcaeahhaa
open Go.RowKit

theorem lit_one (w : World) (t : TypeId) (x : Ex) : Exs (w.alloc (.cells #[.int .i64 x.a, .int .i64 x.n] t)) (w.heap.size + 1) (some ⟨w.heap.size, 0, none⟩) [x] := Lies.lit Ex.cells2 rfl
theorem lit_two (w : World) (t : TypeId) (x y : Ex) : Exs (w.alloc (.cells #[.int .i64 x.a, .int .i64 x.n, .int .i64 y.a, .int .i64 y.n] t)) (w.heap.size + 1) (some ⟨w.heap.size, 0, none⟩) [x, y] := Lies.lit Ex.cells2 rfl
theorem below1 {w w1 : World} {o : Obj} (h : Below (w.alloc o).heap.size (w.alloc o) w1) : Below w.heap.size w w1 :=
  ((Below.refl _ w).alloc (Nat.le_refl _) o).trans (h.mono (by simp))

theorem aw_ok : Ok 0 10 [⟨2, 2⟩] := by decide
theorem aw_bad : ¬ Ok 0 10 [⟨2, 2⟩, ⟨2, 2⟩] := by decide
theorem aw_free : freeL 0 10 [⟨2, 2⟩] = [⟨0, 2⟩, ⟨4, 6⟩] := by
  rw [← gaps_sorted (s := [⟨2, 2⟩]) (.refl _) (by simp [Rising]) aw_ok]; rfl
theorem aw_fit3 : fitL 3 0 10 [⟨2, 2⟩] = (⟨4, 3⟩, 0) := by rw [fitL, if_pos ⟨aw_ok, by omega, by omega⟩, aw_free]; rfl
theorem aw_fit7 : fitL 7 0 10 [⟨2, 2⟩] = (⟨0, 0⟩, 5) := by rw [fitL, if_pos ⟨aw_ok, by omega, by omega⟩, aw_free]; rfl
theorem aw_fit1 : fitL 1 0 10 [⟨2, 2⟩, ⟨2, 2⟩] = (⟨0, 0⟩, 1) := by rw [fitL, if_neg fun h => aw_bad h.1]
theorem aw_left : leftL 0 10 [⟨2, 2⟩] = 8 := by rw [leftL, aw_free]; rfl

section
variable (w : World) (g : Nat) (hg : g = w.heap.size)
include hg
theorem free_one : Calls Try.prog 11 #[.int .i64 0, .int .i64 10, .slice (some ⟨g, 0, none⟩) 1 1] (w.alloc (.cells #[.int .i64 2, .int .i64 2] 27)) fun e w' =>
    ∃ A c, e = .returned (.slice A 2 c) ∧ Exs w' w'.heap.size A [⟨0, 2⟩, ⟨4, 6⟩] ∧ Below w.heap.size w w' := by
  subst hg
  have h := free_any 0 10 (some ⟨w.heap.size, 0, none⟩) 1 [⟨2, 2⟩] (w.alloc (.cells #[.int .i64 2, .int .i64 2] 27)) (by simpa using lit_one w _ ⟨2, 2⟩) (by simp)
  rw [aw_free] at h
  exact h.mono fun e w' ⟨A, c, he, hA, hb, _⟩ => ⟨A, c, he, hA, below1 hb⟩
theorem fit_one (n : Int) (r : Ex × Int) (hr : fitL n 0 10 [⟨2, 2⟩] = r) : Calls Try.prog 12 #[.int .i64 n, .int .i64 0, .int .i64 10, .slice (some ⟨g, 0, none⟩) 1 1] (w.alloc (.cells #[.int .i64 2, .int .i64 2] 27)) fun e w' =>
    e = .returned (.tuple #[.agg #[.int .i64 r.1.a, .int .i64 r.1.n], .int .i64 r.2]) ∧ Below w.heap.size w w' := by
  subst hg
  have h := fit_any n 0 10 (some ⟨w.heap.size, 0, none⟩) 1 [⟨2, 2⟩] (w.alloc (.cells #[.int .i64 2, .int .i64 2] 27)) (by simpa using lit_one w _ ⟨2, 2⟩) (by simp)
  rw [hr] at h
  exact h.mono fun e w' ⟨he, hb⟩ => ⟨he, below1 hb⟩
theorem fit_two : Calls Try.prog 12 #[.int .i64 1, .int .i64 0, .int .i64 10, .slice (some ⟨g, 0, none⟩) 2 2] (w.alloc (.cells #[.int .i64 2, .int .i64 2, .int .i64 2, .int .i64 2] 27)) fun e w' =>
    e = .returned (.tuple #[.agg #[.int .i64 0, .int .i64 0], .int .i64 1]) ∧ Below w.heap.size w w' := by
  subst hg
  have h := fit_any 1 0 10 (some ⟨w.heap.size, 0, none⟩) 2 [⟨2, 2⟩, ⟨2, 2⟩] (w.alloc (.cells #[.int .i64 2, .int .i64 2, .int .i64 2, .int .i64 2] 27)) (by simpa using lit_two w _ ⟨2, 2⟩ ⟨2, 2⟩) (by simp)
  rw [aw_fit1] at h
  exact h.mono fun e w' ⟨he, hb⟩ => ⟨he, below1 hb⟩
theorem left_one : Calls Try.prog 19 #[.int .i64 0, .int .i64 10, .slice (some ⟨g, 0, none⟩) 1 1] (w.alloc (.cells #[.int .i64 2, .int .i64 2] 27)) fun e w' =>
    e = .returned (.int .i64 8) ∧ Below w.heap.size w w' := by
  subst hg
  have h := left_any 0 10 (some ⟨w.heap.size, 0, none⟩) 1 [⟨2, 2⟩] (w.alloc (.cells #[.int .i64 2, .int .i64 2] 27)) (by simpa using lit_one w _ ⟨2, 2⟩) (by simp)
  rw [aw_left] at h
  exact h.mono fun e w' ⟨he, hb⟩ => ⟨he, below1 hb⟩
theorem right_one : Calls Try.prog 16 #[.int .i64 0, .int .i64 10, .slice (some ⟨g, 0, none⟩) 1 1] (w.alloc (.cells #[.int .i64 2, .int .i64 2] 27)) fun e w' =>
    e = .returned (.bool true) ∧ Below w.heap.size w w' := by
  subst hg
  have h := right_any 0 10 (some ⟨w.heap.size, 0, none⟩) 1 [⟨2, 2⟩] (w.alloc (.cells #[.int .i64 2, .int .i64 2] 27)) (by simpa using lit_one w _ ⟨2, 2⟩) (by simp)
  rw [decide_eq_true aw_ok] at h
  exact h.mono fun e w' ⟨he, hb⟩ => ⟨he, below1 hb⟩
end

theorem EBlk.on {w w' : World} {g : Nat} {x : Ex} (h : EBlk w g x) (hb : Below w.heap.size w w') : EBlk w' g x := Box.on h hb

set_option maxHeartbeats 2000000 in
set_option maxRecDepth 100000 in
theorem awake_true (w : World) :
    Calls Try.prog 10 #[] w fun e w' => e = .returned (.bool true) ∧ Below w.heap.size w w' := by
  go_enter Try.func10, Try.ntmps10
  go_wp2_with fail
  have h0 := free_one (w.alloc (.cells #[.int .i64 2, .int .i64 2] 27)) (w.heap.size + 1) (by simp)
  refine h0.mono ?_
  clear h0
  rintro e w1 ⟨A1, c1, rfl, hF, hb1⟩
  have X1 : EBlk w1 w.heap.size ⟨2, 2⟩ := Box.on (Box.fresh w _ _) hb1
  have hb01 : Below w.heap.size w w1 := below1 hb1
  obtain ⟨ad, rfl, hab, hca⟩ := hF (by simp)
  have HF := Lib.hid hca
  have hl1 := Box.lt X1
  obtain ⟨x1, x2⟩ := EBlk.cells X1
  have HX1 := Lib.hid X1
  simp only at x1 x2
  clear X1 hb1 hF hca
  go_wp2_with fail
  refine (fit_one w1 w1.heap.size rfl 3 _ aw_fit3).mono ?_
  rintro e w2 ⟨rfl, hb2⟩
  have X2 := EBlk.on HX1.out hb2
  have hb02 := hb01.trans (hb2.mono hb01.size)
  have HF2 := Lib.hid (fun i hi j v hv => (hb2.cell (p := (ad.add (i * 2)).add j) (by rw [block_of_add, block_of_add]; exact hab)).trans (HF.out i hi j v hv))
  have hab2 : ad.block < w2.heap.size := Nat.lt_of_lt_of_le hab hb2.size
  clear x1 x2 hb2 hb01 HX1 HF hab
  have hl2 := Box.lt X2
  obtain ⟨x1, x2⟩ := EBlk.cells X2
  have HX2 := Lib.hid X2
  simp only at x1 x2 ⊢
  clear X2
  go_wp2_with fail
  refine (fit_one (w2.alloc (.cells #[.int .i64 4, .int .i64 3] 27)) (w2.heap.size + 1) (by simp) 7 _ aw_fit7).mono ?_
  rintro e w3 ⟨rfl, hb3⟩
  have X3 : EBlk w3 w.heap.size ⟨2, 2⟩ := Box.on (Box.push HX2.out _) hb3
  have Y3 : EBlk w3 w2.heap.size ⟨4, 3⟩ := Box.on (Box.fresh w2 _ _) hb3
  have hb03 := hb02.trans ((below1 hb3).mono hb02.size)
  have HF3 := Lib.hid (fun i hi j v hv => ((below1 hb3).cell (p := (ad.add (i * 2)).add j) (by rw [block_of_add, block_of_add]; exact hab2)).trans (HF2.out i hi j v hv))
  have hab3 : ad.block < w3.heap.size := Nat.lt_of_lt_of_le hab2 (below1 hb3).size
  clear x1 x2 hb3 hb02 HX2 HF2 hab2
  have hl3 := Box.lt X3
  have hm3 := Box.lt Y3
  obtain ⟨x1, x2⟩ := EBlk.cells X3
  have HX3 := Lib.hid X3
  have HY3 := Lib.hid Y3
  simp only at x1 x2 ⊢
  clear X3 Y3
  go_wp2_with fail
  refine (fit_two (w3.alloc (.cells #[.int .i64 0, .int .i64 0] 27)) (w3.heap.size + 1) (by simp)).mono ?_
  rintro e w4 ⟨rfl, hb4⟩
  have X4 : EBlk w4 w.heap.size ⟨2, 2⟩ := Box.on (Box.push HX3.out _) hb4
  have Y4 : EBlk w4 w2.heap.size ⟨4, 3⟩ := Box.on (Box.push HY3.out _) hb4
  have hb04 := hb03.trans ((below1 hb4).mono hb03.size)
  have HF4 := Lib.hid (fun i hi j v hv => ((below1 hb4).cell (p := (ad.add (i * 2)).add j) (by rw [block_of_add, block_of_add]; exact hab3)).trans (HF3.out i hi j v hv))
  have hab4 : ad.block < w4.heap.size := Nat.lt_of_lt_of_le hab3 (below1 hb4).size
  clear x1 x2 hb4 hb03 HX3 HF3 hab3 HY3
  have hl4 := Box.lt X4
  have hm4 := Box.lt Y4
  obtain ⟨x1, x2⟩ := EBlk.cells X4
  obtain ⟨y1, y2⟩ := EBlk.cells Y4
  have HX4 := Lib.hid X4
  have f0 := HF4.out 0 (by simp) 0 _ rfl
  have f1 := HF4.out 0 (by simp) 1 _ rfl
  have f2 := HF4.out 1 (by simp) 0 _ rfl
  have f3 := HF4.out 1 (by simp) 1 _ rfl
  simp only [Addr.add_zero', Nat.zero_mul, Nat.one_mul, Addr.add_succ'] at f0 f1 f2 f3
  simp only [List.getElem_cons_zero, List.getElem_cons_succ] at f0 f1 f2 f3
  simp only at x1 x2 y1 y2 ⊢
  clear X4 Y4
  go_wp2_with fail
  refine (left_one (w4.alloc (.cells #[.int .i64 0, .int .i64 0] 27)) (w4.heap.size + 1) (by simp)).mono ?_
  rintro e w5 ⟨rfl, hb5⟩
  have X5 : EBlk w5 w.heap.size ⟨2, 2⟩ := Box.on (Box.push HX4.out _) hb5
  have hb05 := hb04.trans ((below1 hb5).mono hb04.size)
  clear x1 x2 y1 y2 f0 f1 f2 f3 hb5 hb04
  have hl5 := Box.lt X5
  obtain ⟨x1, x2⟩ := EBlk.cells X5
  simp only at x1 x2
  clear X5
  go_wp2_with fail
  refine (right_one w5 w5.heap.size rfl).mono ?_
  rintro e w6 ⟨rfl, hb6⟩
  go_wp2
  go_ret
  exact ⟨rfl, hb05.trans (hb6.mono hb05.size)⟩

end Go.Proofs.Ytodcngkcaeahhaa
