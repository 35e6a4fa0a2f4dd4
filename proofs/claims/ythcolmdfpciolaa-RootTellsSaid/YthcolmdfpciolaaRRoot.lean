/- The walks of the document's Right and text of layer 7; Put of what is no disk, or of places that it does not have. -/
import Derived.Test.YthcolmdfpciolaaRRead
import Derived.Test.YthcolmdfpciolaaRPut
import Derived.Test.YthcolmdfpciolaaWWrite7
namespace Go.Proofs.Ythcolmdfpciolaa
open Go.RowKit

set_option maxHeartbeats 2000000 in
set_option maxRecDepth 100000 in
theorem drright_any (r : Rt) (w : World) :
    Calls Try.prog 18 #[r.v] w fun e w' => e = .returned (.bool (rtB r)) ∧ Below w.heap.size w w' := by
  obtain ⟨g, a, n⟩ := r
  have HF := Lib.hid (show Below w.heap.size w (w.alloc (.cells #[.int .i64 g, .int .i64 a, .int .i64 n] 39)) from (Below.refl _ _).alloc (Nat.le_refl _) _)
  simp only [Rt.v]
  have hcase : (g < 0 ∧ rtB ⟨g, a, n⟩ = false) ∨ (¬ g < 0 ∧ a < 0 ∧ rtB ⟨g, a, n⟩ = false) ∨ (¬ g < 0 ∧ ¬ a < 0 ∧ n < 0 ∧ rtB ⟨g, a, n⟩ = false) ∨
      (¬ g < 0 ∧ ¬ a < 0 ∧ ¬ n < 0 ∧ ((¬ g ≤ 2147483647 ∧ rtB ⟨g, a, n⟩ = false) ∨ (g ≤ 2147483647 ∧ ¬ a ≤ 2147483647 ∧ rtB ⟨g, a, n⟩ = false) ∨ (g ≤ 2147483647 ∧ a ≤ 2147483647 ∧ ¬ n ≤ 2147483647 ∧ rtB ⟨g, a, n⟩ = false) ∨ (g ≤ 2147483647 ∧ a ≤ 2147483647 ∧ n ≤ 2147483647 ∧ rtB ⟨g, a, n⟩ = true))) := by
    have hno : ∀ x : Int, ¬ (0 ≤ x ∧ x ≤ 2147483647) → numR x = false := fun x h => by
      unfold numR
      by_cases h0 : 0 ≤ x
      · rw [decide_eq_false (show ¬ x ≤ 2147483647 from fun h1 => h ⟨h0, h1⟩), Bool.and_false]
      · rw [decide_eq_false h0]; rfl
    have hg : ¬ (0 ≤ g ∧ g ≤ 2147483647) → rtB ⟨g, a, n⟩ = false := fun h => by unfold rtB; rw [hno g h]; rfl
    have ha : ¬ (0 ≤ a ∧ a ≤ 2147483647) → rtB ⟨g, a, n⟩ = false := fun h => by unfold rtB; simp only [hno a h, Bool.false_and, Bool.and_false]
    have hn : ¬ (0 ≤ n ∧ n ≤ 2147483647) → rtB ⟨g, a, n⟩ = false := fun h => by unfold rtB; simp only [hno n h, Bool.and_false]
    by_cases h1 : g < 0
    · exact .inl ⟨h1, hg (by omega)⟩
    by_cases h2 : a < 0
    · exact .inr (.inl ⟨h1, h2, ha (by omega)⟩)
    by_cases h3 : n < 0
    · exact .inr (.inr (.inl ⟨h1, h2, h3, hn (by omega)⟩))
    refine .inr (.inr (.inr ⟨h1, h2, h3, ?_⟩))
    by_cases h4 : g ≤ 2147483647
    · by_cases h5 : a ≤ 2147483647
      · by_cases h6 : n ≤ 2147483647
        · refine .inr (.inr (.inr ⟨h4, h5, h6, ?_⟩))
          unfold rtB
          simp only [num_of (show 0 ≤ g by omega) h4, num_of (show 0 ≤ a by omega) h5, num_of (show 0 ≤ n by omega) h6]
          rfl
        · exact .inr (.inr (.inl ⟨h4, h5, h6, hn (by omega)⟩))
      · exact .inr (.inl ⟨h4, h5, ha (by omega)⟩)
    · exact .inl ⟨h4, hg (by omega)⟩
  generalize rtB ⟨g, a, n⟩ = bb at *
  rcases hcase with ⟨h1, rfl⟩ | ⟨h1, h2, rfl⟩ | ⟨h1, h2, h3, rfl⟩ | ⟨h1, h2, h3, ⟨h4, rfl⟩ | ⟨h4, h5, rfl⟩ | ⟨h4, h5, h6, rfl⟩ | ⟨h4, h5, h6, rfl⟩⟩
  · have g1 : decide (g < 0) = true := decide_eq_true h1
    go_enter Try.func18, Try.ntmps18
    go_wp2
    go_ret
    exact ⟨rfl, HF.out⟩
  · have g1 : decide (g < 0) = false := decide_eq_false h1
    have g2 : decide (a < 0) = true := decide_eq_true h2
    go_enter Try.func18, Try.ntmps18
    go_wp2
    go_ret
    exact ⟨rfl, HF.out⟩
  · have g1 : decide (g < 0) = false := decide_eq_false h1
    have g2 : decide (a < 0) = false := decide_eq_false h2
    have g3 : decide (n < 0) = true := decide_eq_true h3
    go_enter Try.func18, Try.ntmps18
    go_wp2
    go_ret
    exact ⟨rfl, HF.out⟩
  all_goals
    have g1 : decide (g < 0) = false := decide_eq_false h1
    have g2 : decide (a < 0) = false := decide_eq_false h2
    have g3 : decide (n < 0) = false := decide_eq_false h3
  · have g4 : decide (g ≤ 2147483647) = false := decide_eq_false h4
    go_enter Try.func18, Try.ntmps18
    go_wp2
    go_ret
    exact ⟨rfl, HF.out⟩
  · have g4 : decide (g ≤ 2147483647) = true := decide_eq_true h4
    have g5 : decide (a ≤ 2147483647) = false := decide_eq_false h5
    go_enter Try.func18, Try.ntmps18
    go_wp2
    go_ret
    exact ⟨rfl, HF.out⟩
  · have g4 : decide (g ≤ 2147483647) = true := decide_eq_true h4
    have g5 : decide (a ≤ 2147483647) = true := decide_eq_true h5
    have g6 : decide (n ≤ 2147483647) = false := decide_eq_false h6
    go_enter Try.func18, Try.ntmps18
    go_wp2
    go_ret
    exact ⟨rfl, HF.out⟩
  · have g4 : decide (g ≤ 2147483647) = true := decide_eq_true h4
    have g5 : decide (a ≤ 2147483647) = true := decide_eq_true h5
    have g6 : decide (n ≤ 2147483647) = true := decide_eq_true h6
    go_enter Try.func18, Try.ntmps18
    go_wp2
    go_ret
    exact ⟨rfl, HF.out⟩

/-- A document's root in a block of its own. -/
def RBlk2 (w : World) (g : Nat) (r : Rt) : Prop := Box w g 39 #[.int .i64 r.g, .int .i64 r.a, .int .i64 r.n]
theorem RBlk2.cells {w : World} {g : Nat} {r : Rt} (h : RBlk2 w g r) : w.cell? ⟨g, 0, none⟩ = some (.int .i64 r.g) ∧ w.cell? ⟨g, 1, none⟩ = some (.int .i64 r.a) ∧ w.cell? ⟨g, 2, none⟩ = some (.int .i64 r.n) :=
  ⟨Box.cell h 0 rfl, Box.cell h 1 rfl, Box.cell h 2 rfl⟩
theorem RBlk2.put3 {w0 w : World} {B g : Nat} {r : Rt} (h : RBlk2 w g r) (hb : Below B w0 w) (hg : B ≤ g) (x y z : Int) : ∃ wz, ((w.setCell ⟨g, 0, none⟩ (.int .i64 x)).setCell ⟨g, 1, none⟩ (.int .i64 y)).setCell ⟨g, 2, none⟩ (.int .i64 z) = wz ∧ RBlk2 wz g ⟨x, y, z⟩ ∧ Below B w0 wz :=
  ⟨_, rfl, Box.set (Box.set (Box.set h 0 _) 1 _) 2 _, below3 hb hg⟩

set_option maxHeartbeats 1000000 in
set_option maxRecDepth 100000 in
theorem drtext_ok (r : Rt) (w : World) (h : rtB r = true) :
    Calls Try.prog 27 #[r.v] w fun e w' => e = .returned (.string (rtS r)) ∧ Below w.heap.size w w' := by
  obtain ⟨⟨h1, h2⟩, ⟨h3, h4⟩, h5, h6⟩ := rt_parts h
  obtain ⟨g, a, n⟩ := r
  simp only [Rt.v] at h1 h2 h3 h4 h5 h6 ⊢
  obtain ⟨x, rfl⟩ := Int.eq_ofNat_of_zero_le h1
  obtain ⟨y, rfl⟩ := Int.eq_ofNat_of_zero_le h3
  obtain ⟨z, rfl⟩ := Int.eq_ofNat_of_zero_le h5
  have HF := Lib.hid (show Below w.heap.size w (w.alloc (.cells #[.int .i64 x, .int .i64 y, .int .i64 z] 39)) from (Below.refl _ _).alloc (Nat.le_refl _) _)
  have HR := Lib.hid (show RBlk2 (w.alloc (.cells #[.int .i64 x, .int .i64 y, .int .i64 z] 39)) w.heap.size ⟨x, y, z⟩ from Box.fresh _ _ _)
  have hn : ∀ v : Nat, v ≤ 2147483647 → numS v 4 = be 4 v ∧ numE v 4 = 0 := fun v hv => by
    have e : fits v 4 = true := by simp [fits]; omega
    unfold numS numE
    rw [e]
    exact ⟨rfl, rfl⟩
  have hx := fun wx => dnum_any x 4 wx (by omega)
  have hy := fun wx => dnum_any y 4 wx (by omega)
  have hz := fun wx => dnum_any z 4 wx (by omega)
  rw [(hn x (by omega)).1, (hn x (by omega)).2] at hx
  rw [(hn y (by omega)).1, (hn y (by omega)).2] at hy
  rw [(hn z (by omega)).1, (hn z (by omega)).2] at hz
  have sz : ∀ v : Nat, (⟨(be 4 v).toArray⟩ : ByteArray).size = 4 := fun v => by
    show (be 4 v).toArray.size = 4
    rw [List.size_toArray, be_length]
  have HX := Lib.hid hx
  have HY := Lib.hid hy
  have HZ := Lib.hid hz
  have HE := Lib.hid (show (⟨(be 4 x).toArray⟩ : ByteArray) ++ ⟨(be 4 y).toArray⟩ ++ ⟨(be 4 z).toArray⟩ = rtS ⟨x, y, z⟩ by
    rw [ba_append, ba_append, List.append_assoc]
    rfl)
  have zx := sz x
  have zy := sz y
  have zz := sz z
  clear h hn hx hy hz sz
  generalize (⟨(be 4 x).toArray⟩ : ByteArray) = sx at *
  generalize (⟨(be 4 y).toArray⟩ : ByteArray) = sy at *
  generalize (⟨(be 4 z).toArray⟩ : ByteArray) = sv at *
  have zxy : (sx ++ sy).size = 8 := by rw [ByteArray.size_append, zx, zy]
  go_enter Try.func27, Try.ntmps27
  go_wp2_with fail
  refine (HX.out _).mono ?_
  rintro e w1 ⟨rfl, hb1⟩
  have HR1 := Lib.hid (show RBlk2 w1 w.heap.size ⟨x, y, z⟩ from Box.on HR.out hb1)
  have HB1 := Lib.hid (HF.out.trans (hb1.mono HF.out.size))
  obtain ⟨c0, c1, c2⟩ := RBlk2.cells HR1.out
  have hl := Box.lt HR1.out
  clear hb1 HR HF
  go_wp2_with fail
  refine (HY.out _).mono ?_
  clear c0 c1 c2 hl
  rintro e w2 ⟨rfl, hb2⟩
  have HR2 := Lib.hid (show RBlk2 w2 w.heap.size ⟨x, y, z⟩ from Box.on HR1.out hb2)
  have HB2 := Lib.hid (HB1.out.trans (hb2.mono HB1.out.size))
  obtain ⟨c0, c1, c2⟩ := RBlk2.cells HR2.out
  have hl := Box.lt HR2.out
  clear hb2 HR1 HB1
  go_wp2_with fail
  refine (HZ.out _).mono ?_
  clear c0 c1 c2 hl
  rintro e w3 ⟨rfl, hb3⟩
  have HB3 := Lib.hid (HB2.out.trans (hb3.mono HB2.out.size))
  clear hb3 HR2 HB2
  go_wp2
  go_ret
  exact ⟨by rw [HE.out]; rfl, HB3.out⟩

set_option maxHeartbeats 2000000 in
set_option maxRecDepth 100000 in
theorem dput_bad (A : Option Addr) (c : Nat) (S : List ByteArray) (B : Option Addr) (d : Nat) (W : List Wr) (a : Int) (T : Option Addr) (tc q : Nat) (w : World) (hA : Strs w w.heap.size A S) (hB : Wrs w w.heap.size B W) (hn : S.length ≤ 1000000) (hm : W.length ≤ 1000000) (hbad : rightB S W = false ∨ hasB S.length a q = false) :
    Calls Try.prog 41 #[.agg #[.slice A S.length c, .slice B W.length d], .int .i64 a, .slice T q tc] w fun e w' => e = .returned (.tuple #[.agg #[.slice A S.length c, .slice B W.length d], .int .i64 1]) ∧ Below w.heap.size w w' := by
  have hb0 : Below w.heap.size w ((w.alloc (.cells #[.slice A S.length c, .slice B W.length d] 30)).alloc (.cells #[.slice none 0 0, .slice none 0 0] 30)) := below_two w _ _
  have hrd := dread_bad A c S B d W a q _ (hA.on hb0) (Lies.on hB hb0) hn hm hbad
  have HX0 := Lib.hid (show EBlk ((w.alloc (.cells #[.slice A S.length c, .slice B W.length d] 30)).alloc (.cells #[.slice none 0 0, .slice none 0 0] 30)) w.heap.size (.slice A S.length c) (.slice B W.length d) from Box.push (Box.fresh _ _ _) _)
  have HY0 := Lib.hid (show EBlk ((w.alloc (.cells #[.slice A S.length c, .slice B W.length d] 30)).alloc (.cells #[.slice none 0 0, .slice none 0 0] 30)) (w.heap.size + 1) (.slice none 0 0) (.slice none 0 0) from Box.at_ (w.alloc _) _ _ (by simp))
  have HB0 := Lib.hid hb0
  generalize S.length = n at *
  generalize W.length = m at *
  clear hA hB hb0 hbad
  go_enter Try.func41, Try.ntmps41
  go_wp2_with fail
  refine hrd.mono ?_
  clear hrd
  rintro e w1 ⟨rfl, hb1⟩
  have HX1 := Lib.hid (show EBlk w1 w.heap.size (.slice A n c) (.slice B m d) from Box.on HX0.out hb1)
  have HY1 := Lib.hid (show EBlk w1 (w.heap.size + 1) (.slice none 0 0) (.slice none 0 0) from Box.on HY0.out hb1)
  have HB1 := Lib.hid (HB0.out.trans (hb1.mono HB0.out.size))
  have z1 := Box.lt HX1.out
  have z2 := Box.lt HY1.out
  obtain ⟨d1, d2⟩ := EBlk.cells HX1.out
  have f0 := Box.free HY1.out 0
  have f1 := Box.free HY1.out 1
  obtain ⟨y1, y2⟩ := EBlk.cells HY1.out
  clear HX0 HY0 HB0 hb1
  go_wp2
  have hp : EBlk ((w1.setCell ⟨w.heap.size + 1, 0, none⟩ (.slice A n c)).setCell ⟨w.heap.size + 1, 1, none⟩ (.slice B m d)) (w.heap.size + 1) (.slice A n c) (.slice B m d) := Box.set (Box.set HY1.out 0 _) 1 _
  have hp2 := EBlk.cells hp
  have hB9 : Below w.heap.size w ((w1.setCell ⟨w.heap.size + 1, 0, none⟩ (.slice A n c)).setCell ⟨w.heap.size + 1, 1, none⟩ (.slice B m d)) := (HB1.out.setCell (by simp) _).setCell (by simp) _
  exact bodyPost_ret (v := .tuple #[.agg #[.slice A n c, .slice B m d], .int .i64 1]) (by simp [results, Try.results41, go_sem, hp2.1, hp2.2]) rfl ⟨rfl, hB9⟩

end Go.Proofs.Ythcolmdfpciolaa
