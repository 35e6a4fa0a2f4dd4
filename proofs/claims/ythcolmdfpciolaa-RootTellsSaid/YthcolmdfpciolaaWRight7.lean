/- The walks of rightNum, Right, place, textOf. -/
import Derived.Test.YthcolmdfpciolaaRt
namespace Go.Proofs.Ythcolmdfpciolaa
open Go.RowKit

/-- A root that lies in a block of its own. -/
def RBlk (w : World) (g : Nat) (r : Rt) : Prop := Box w g 27 #[.int .i64 r.g, .int .i64 r.a, .int .i64 r.n]
theorem RBlk.cells {w : World} {g : Nat} {r : Rt} (h : RBlk w g r) : w.cell? ⟨g, 0, none⟩ = some (.int .i64 r.g) ∧ w.cell? ⟨g, 1, none⟩ = some (.int .i64 r.a) ∧ w.cell? ⟨g, 2, none⟩ = some (.int .i64 r.n) :=
  ⟨Box.cell h 0 rfl, Box.cell h 1 rfl, Box.cell h 2 rfl⟩

theorem RBlk.put {w : World} {g : Nat} {r : Rt} (h : RBlk w g r) (q : Rt) : RBlk (((w.setCell ⟨g, 0, none⟩ (.int .i64 q.g)).setCell ⟨g, 1, none⟩ (.int .i64 q.a)).setCell ⟨g, 2, none⟩ (.int .i64 q.n)) g q := Box.set (Box.set (Box.set h 0 _) 1 _) 2 _
theorem below3 {B : Nat} {w w' : World} {g : Nat} {x y z : Value} (h : Below B w w') (hg : B ≤ g) : Below B w (((w'.setCell ⟨g, 0, none⟩ x).setCell ⟨g, 1, none⟩ y).setCell ⟨g, 2, none⟩ z) := ((h.setCell hg _).setCell hg _).setCell hg _
/-- The world behind a store of a root, by a name. -/
theorem RBlk.put3 {w0 w : World} {B g : Nat} {r : Rt} (h : RBlk w g r) (hb : Below B w0 w) (hg : B ≤ g) (x y z : Int) : ∃ wz, ((w.setCell ⟨g, 0, none⟩ (.int .i64 x)).setCell ⟨g, 1, none⟩ (.int .i64 y)).setCell ⟨g, 2, none⟩ (.int .i64 z) = wz ∧ RBlk wz g ⟨x, y, z⟩ ∧ Below B w0 wz :=
  ⟨_, rfl, h.put ⟨x, y, z⟩, below3 hb hg⟩

set_option maxHeartbeats 400000 in
theorem rnum_any (n : Int) (w : World) :
    Calls Try.prog 32 #[.int .i64 n] w fun e w' => e = .returned (.bool (numR n)) ∧ w' = w := by
  unfold numR
  by_cases h1 : 0 ≤ n
  · by_cases h2 : n ≤ 2147483647
    · rw [decide_eq_true h1, decide_eq_true h2]
      go_enter Try.func32, Try.ntmps32
      go_wp2
      go_ret
      exact ⟨rfl, rfl⟩
    · rw [decide_eq_true h1, decide_eq_false h2]
      go_enter Try.func32, Try.ntmps32
      go_wp2
      go_ret
      exact ⟨rfl, rfl⟩
  · rw [decide_eq_false h1]
    go_enter Try.func32, Try.ntmps32
    go_wp2
    go_ret
    exact ⟨rfl, rfl⟩

set_option maxHeartbeats 1000000 in
theorem rright_any (r : Rt) (w : World) :
    Calls Try.prog 17 #[r.v] w fun e w' => e = .returned (.bool (rtB r)) ∧ Below w.heap.size w w' := by
  obtain ⟨g, a, n⟩ := r
  have HF := Lib.hid (show Below w.heap.size w (w.alloc (.cells #[.int .i64 g, .int .i64 a, .int .i64 n] 27)) from (Below.refl _ _).alloc (Nat.le_refl _) _)
  unfold rtB
  simp only [Rt.v]
  have HG := Lib.hid (fun wx => rnum_any g wx)
  have HA := Lib.hid (fun wx => rnum_any a wx)
  have HN := Lib.hid (fun wx => rnum_any n wx)
  generalize numR g = bg at *
  generalize numR a = ba at *
  generalize numR n = bn at *
  go_enter Try.func17, Try.ntmps17
  go_wp2_with fail
  refine (HG.out _).mono ?_
  rintro e w1 ⟨rfl, rfl⟩
  cases bg with
  | false =>
    go_wp2
    go_ret
    exact ⟨rfl, HF.out⟩
  | true =>
    go_wp2_with fail
    refine (HA.out _).mono ?_
    rintro e w1 ⟨rfl, rfl⟩
    cases ba with
    | false =>
      go_wp2
      go_ret
      exact ⟨rfl, HF.out⟩
    | true =>
      go_wp2_with fail
      refine (HN.out _).mono ?_
      rintro e w1 ⟨rfl, rfl⟩
      go_wp2
      go_ret
      exact ⟨rfl, HF.out⟩

set_option maxHeartbeats 400000 in
theorem place_any (r : Rt) (w : World) (h : rtB r = true) :
    Calls Try.prog 25 #[r.v] w fun e w' => e = .returned (.int .i64 (r.g % 2)) ∧ Below w.heap.size w w' := by
  obtain ⟨⟨h1, h2⟩, _⟩ := rt_parts h
  obtain ⟨g, a, n⟩ := r
  have HF := Lib.hid (show Below w.heap.size w (w.alloc (.cells #[.int .i64 g, .int .i64 a, .int .i64 n] 27)) from (Below.refl _ _).alloc (Nat.le_refl _) _)
  simp only [Rt.v] at h1 h2 ⊢
  obtain ⟨k, rfl⟩ := Int.eq_ofNat_of_zero_le h1
  clear h
  go_enter Try.func25, Try.ntmps25
  go_wp2
  go_ret
  exact ⟨rfl, HF.out⟩

end Go.Proofs.Ythcolmdfpciolaa
