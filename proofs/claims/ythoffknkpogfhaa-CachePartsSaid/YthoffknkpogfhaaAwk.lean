/- The laws' fixed answer. -/
import Derived.Test.YthoffknkpogfhaaWClean
import Derived.Test.YthoffknkpogfhaaRSame
set_option linter.unusedVariables false
set_option linter.unusedSimpArgs false
namespace Go.Proofs.Ythoffknkpogfhaa
open Go.RowKit

def i1 : It := ⟨1, ⟨#[97]⟩, true⟩
def i2 : It := ⟨2, ⟨#[]⟩, false⟩
def i3 : It := ⟨3, ⟨#[]⟩, false⟩
def i9 : It := ⟨9, ⟨#[]⟩, true⟩
theorem awk_put : putC 2 [] [i1, i2, i3] = ([i3, i2], [i1]) := by kernel_rfl
theorem awk_get : getL 2 [i3, i2] 2 = [i2, i3] ∧ getI 2 [i3, i2] 2 = i2 ∧ getB 2 [i3, i2] 2 = true := ⟨by kernel_rfl, by kernel_rfl, by kernel_rfl⟩
theorem awk_get1 : getB 2 [i2, i3] 1 = false ∧ getI 2 [i2, i3] 1 = zI ∧ getL 2 [i2, i3] 1 = [i2, i3] := ⟨by kernel_rfl, by kernel_rfl, by kernel_rfl⟩
theorem awk_put9 : putC 2 [i2, i3] [i9] = ([i9, i2], []) := by kernel_rfl
theorem awk_clean : cleanC 2 [i9, i2] = ([wash i9, i2], [i9]) := by kernel_rfl
theorem awk_right : rightL 2 [wash i9, i2] = true ∧ rightL 2 [] = true ∧ rightL 2 [i2, i3] = true := ⟨by kernel_rfl, by kernel_rfl, by kernel_rfl⟩

theorem new_two (w : World) : Calls Try.prog 21 #[.int .i64 2] w fun e w' => e = .returned (.tuple #[.agg #[.int .i64 2, .slice none 0 0], .int .i64 0]) ∧ Below w.heap.size w w' := new_any 2 w
theorem new_zero (w : World) : Calls Try.prog 21 #[.int .i64 0] w fun e w' => e = .returned (.tuple #[.agg #[.int .i64 0, .slice none 0 0], .int .i64 1]) ∧ Below w.heap.size w w' := new_any 0 w
theorem put_three (w : World) {it : Value} (h : IV w it [i1, i2, i3]) : Calls Try.prog 13 #[.agg #[.int .i64 2, .slice none 0 0], it] w fun e w' => ∃ A c B d, e = .returned (.tuple #[.agg #[.int .i64 2, .slice A 2 c], .slice B 1 d, .int .i64 0]) ∧ IV w' (.slice A 2 c) [i3, i2] ∧ IV w' (.slice B 1 d) [i1] ∧ Below w.heap.size w w' := by
  refine (put_any 2 w (IV.nil w) (by decide) h (by decide)).mono ?_
  rintro e w' ⟨s', o', rfl, h1, h2, hb⟩
  rw [awk_put] at h1 h2
  obtain ⟨A, c, rfl, h1⟩ := (show ∃ A c, s' = .slice A 2 c ∧ IV w' (.slice A 2 c) [i3, i2] from by obtain ⟨A, c, e, h⟩ := h1; exact ⟨A, c, e, A, c, rfl, h⟩)
  obtain ⟨B, d, rfl, h2⟩ := (show ∃ A c, o' = .slice A 1 c ∧ IV w' (.slice A 1 c) [i1] from by obtain ⟨A, c, e, h⟩ := h2; exact ⟨A, c, e, A, c, rfl, h⟩)
  exact ⟨A, c, B, d, rfl, h1, h2, hb⟩
theorem put_nine (w : World) {s it : Value} (hs : IV w s [i2, i3]) (h : IV w it [i9]) : Calls Try.prog 13 #[.agg #[.int .i64 2, s], it] w fun e w' => ∃ A c o', e = .returned (.tuple #[.agg #[.int .i64 2, .slice A 2 c], o', .int .i64 0]) ∧ IV w' (.slice A 2 c) [i9, i2] ∧ Below w.heap.size w w' := by
  refine (put_any 2 w hs (by decide) h (by decide)).mono ?_
  rintro e w' ⟨s', o', rfl, h1, h2, hb⟩
  rw [awk_put9] at h1 h2
  obtain ⟨A, c, rfl, h1⟩ := (show ∃ A c, s' = .slice A 2 c ∧ IV w' (.slice A 2 c) [i9, i2] from by obtain ⟨A, c, e, h⟩ := h1; exact ⟨A, c, e, A, c, rfl, h⟩)
  exact ⟨A, c, _, rfl, h1, hb⟩
theorem get_two (w : World) {s : Value} (hs : IV w s [i3, i2]) : Calls Try.prog 10 #[.agg #[.int .i64 2, s], .int .i64 2] w fun e w' => ∃ A c, e = .returned (.tuple #[.agg #[.int .i64 2, .slice A 2 c], .agg #[.int .i64 2, .string ⟨#[]⟩, .bool false], .bool true]) ∧ IV w' (.slice A 2 c) [i2, i3] ∧ Below w.heap.size w w' := by
  refine (get_any 2 2 w hs (by decide)).mono ?_
  rintro e w' ⟨s', rfl, h1, hb⟩
  rw [awk_get.1] at h1
  obtain ⟨A, c, rfl, h1⟩ := (show ∃ A c, s' = .slice A 2 c ∧ IV w' (.slice A 2 c) [i2, i3] from by obtain ⟨A, c, e, h⟩ := h1; exact ⟨A, c, e, A, c, rfl, h⟩)
  rw [awk_get.2.1, awk_get.2.2]
  exact ⟨A, c, rfl, h1, hb⟩
theorem get_one (w : World) {s : Value} (hs : IV w s [i2, i3]) : Calls Try.prog 10 #[.agg #[.int .i64 2, s], .int .i64 1] w fun e w' => ∃ A c, e = .returned (.tuple #[.agg #[.int .i64 2, .slice A 2 c], .agg #[.int .i64 0, .string ⟨#[]⟩, .bool false], .bool false]) ∧ Below w.heap.size w w' := by
  refine (get_any 2 1 w hs (by decide)).mono ?_
  rintro e w' ⟨s', rfl, h1, hb⟩
  rw [awk_get1.2.2] at h1
  obtain ⟨A, c, rfl, h1⟩ := h1
  rw [awk_get1.1, awk_get1.2.1]
  exact ⟨A, c, rfl, hb⟩
theorem clean_two (w : World) {s : Value} (hs : IV w s [i9, i2]) : Calls Try.prog 16 #[.agg #[.int .i64 2, s]] w fun e w' => ∃ A c B d, e = .returned (.tuple #[.agg #[.int .i64 2, .slice A 2 c], .slice B 1 d]) ∧ IV w' (.slice A 2 c) [wash i9, i2] ∧ Below w.heap.size w w' := by
  refine (clean_any 2 w hs (by decide)).mono ?_
  rintro e w' ⟨s', o', rfl, h1, h2, hb⟩
  rw [awk_clean] at h1 h2
  obtain ⟨A, c, rfl, h1⟩ := (show ∃ A c, s' = .slice A 2 c ∧ IV w' (.slice A 2 c) [wash i9, i2] from by obtain ⟨A, c, e, h⟩ := h1; exact ⟨A, c, e, A, c, rfl, h⟩)
  obtain ⟨B, d, rfl, h2⟩ := h2
  exact ⟨A, c, B, d, rfl, h1, hb⟩
theorem right_two (w : World) {s : Value} (hs : IV w s [wash i9, i2]) : Calls Try.prog 19 #[.agg #[.int .i64 2, s]] w fun e w' => e = .returned (.bool true) ∧ Below w.heap.size w w' := by
  have h := right_any 2 w hs (by decide)
  rw [awk_right.1] at h
  exact h
/-- Items that are written beside a cache's block. -/
theorem iv_put {w : World} {v : Value} {l : List It} {q : Nat} {T : TypeId} {m a : Int} {s b : Value} (h : IV w v l) (hb : Box w q T #[.int .i64 m, s]) : IV ((w.setCell ⟨q, 0, none⟩ (.int .i64 a)).setCell ⟨q, 1, none⟩ b) v l := iv_off h hb
theorem below_two {w0 w : World} {q : Nat} {a b : Value} (h : Below w0.heap.size w0 w) (hq : w0.heap.size ≤ q) : Below w0.heap.size w0 ((w.setCell ⟨q, 0, none⟩ a).setCell ⟨q, 1, none⟩ b) := (h.setCell hq _).setCell hq _

set_option maxHeartbeats 4000000 in
set_option maxRecDepth 100000 in
theorem awake_true (w : World) : Calls Try.prog 9 #[] w fun e w' => e = .returned (.bool true) ∧ Below w.heap.size w w' := by
  go_enter Try.func9, Try.ntmps9
  go_wp2_with fail
  refine (new_two _).mono ?_
  rintro e w1 ⟨rfl, hb1⟩
  go_upto_region 2 with fail
  obtain ⟨g1, hg1⟩ : ∃ g1, g1 = w1.heap.size := ⟨_, rfl⟩
  obtain ⟨w2, hw2⟩ : ∃ w2, w2 = w1.alloc (.cells #[.int .i64 2, .slice none 0 0] 24) := ⟨_, rfl⟩
  rw [← hg1, ← hw2]
  have HB2 := Lib.hid (show Below w.heap.size w w2 from by rw [hw2]; exact hb1.alloc hb1.size _)
  have B12 := Lib.hid (show Box w2 g1 24 #[.int .i64 2, .slice none 0 0] from by rw [hw2]; exact Box.at_ w1 _ _ hg1)
  have HG1 := Lib.hid (show w.heap.size ≤ g1 from by rw [hg1]; exact hb1.size)
  have k0 := Box.cell B12.out 0 rfl
  have k1 := Box.cell B12.out 1 rfl
  clear hg1 hw2 hb1
  go_wp2_with fail
  refine (put_three _ (IV.lit rfl rfl rfl)).mono ?_
  rintro e w3 ⟨A3, c3, B3, d3, rfl, h1, h2, hb⟩
  have hb23 := ((Below.refl _ w2).alloc (Nat.le_refl _) _).trans (hb.mono (by simp))
  have B13 := Lib.hid (B12.out.on hb23)
  have HB3 := Lib.hid (HB2.out.trans (hb23.mono HB2.out.size))
  have k0 := Box.cell B13.out 0 rfl
  have k1 := Box.cell B13.out 1 rfl
  have f0 := Box.free B13.out 0
  have f1 := Box.free B13.out 1
  clear hb hb23 HB2 B12
  go_upto_region 3 with fail
  obtain ⟨w4, hw4⟩ : ∃ w4, w4 = (w3.setCell ⟨g1, 0, none⟩ (.int .i64 2)).setCell ⟨g1, 1, none⟩ (.slice A3 2 c3) := ⟨_, rfl⟩
  rw [← hw4]
  have HB4 := Lib.hid (show Below w.heap.size w w4 from by rw [hw4]; exact below_two HB3.out HG1.out)
  have B14 := Lib.hid (show Box w4 g1 24 #[.int .i64 2, .slice A3 2 c3] from by rw [hw4]; exact (B13.out.set 0 _).set 1 _)
  have HC4 := Lib.hid (show IV w4 (.slice A3 2 c3) [i3, i2] from by rw [hw4]; exact iv_put h1 B13.out)
  have HO4 := Lib.hid (show IV w4 (.slice B3 1 d3) [i1] from by rw [hw4]; exact iv_put h2 B13.out)
  have k0 := Box.cell B14.out 0 rfl
  have k1 := Box.cell B14.out 1 rfl
  clear h1 h2 HB3 B13 hw4 f0 f1
  go_wp2_with fail
  refine (get_two _ HC4.out).mono ?_
  rintro e w5 ⟨A5, c5, rfl, h1, hb⟩
  have B15 := Lib.hid (B14.out.on hb)
  have HB5 := Lib.hid (HB4.out.trans (hb.mono HB4.out.size))
  have HO5 := Lib.hid (HO4.out.on hb)
  have k0 := Box.cell B15.out 0 rfl
  have k1 := Box.cell B15.out 1 rfl
  have f0 := Box.free B15.out 0
  have f1 := Box.free B15.out 1
  have hlt := B15.out.lt
  clear hb B14 HB4 HO4 HC4
  go_upto_region 4 with fail
  obtain ⟨w6, hw6⟩ : ∃ w6, w6 = (w5.setCell ⟨g1, 0, none⟩ (.int .i64 2)).setCell ⟨g1, 1, none⟩ (.slice A5 2 c5) := ⟨_, rfl⟩
  obtain ⟨g5, hg5⟩ : ∃ g5, g5 = w5.heap.size := ⟨_, rfl⟩
  have hsz : w6.heap.size = w5.heap.size := by rw [hw6]; simp [World.setCell]
  rw [← hw6, ← hg5]
  have h6 : Below w.heap.size w w6 := by rw [hw6]; exact below_two HB5.out HG1.out
  have b6 : Box w6 g1 24 #[.int .i64 2, .slice A5 2 c5] := by rw [hw6]; exact (B15.out.set 0 _).set 1 _
  have c6 : IV w6 (.slice A5 2 c5) [i2, i3] := by rw [hw6]; exact iv_put h1 B15.out
  have o6 : IV w6 (.slice B3 1 d3) [i1] := by rw [hw6]; exact iv_put HO5.out B15.out
  obtain ⟨w7, hw7⟩ : ∃ w7, w7 = w6.alloc (.cells #[.int .i64 2, .string ⟨#[]⟩, .bool false] 27) := ⟨_, rfl⟩
  rw [← hw7]
  have h67 : Below w6.heap.size w6 w7 := by rw [hw7]; exact (Below.refl _ _).alloc (Nat.le_refl _) _
  have HB7 := Lib.hid (h6.trans (h67.mono h6.size))
  have B17 := Lib.hid (b6.on h67)
  have HC7 := Lib.hid (c6.on h67)
  have HO7 := Lib.hid (o6.on h67)
  have B57 := Lib.hid (show Box w7 g5 27 #[.int .i64 2, .string ⟨#[]⟩, .bool false] from by rw [hw7]; exact Box.at_ w6 _ _ (by rw [hg5, hsz]))
  have k0 := Box.cell B17.out 0 rfl
  have k1 := Box.cell B17.out 1 rfl
  clear hg5 hw6 hw7 hsz h6 b6 c6 o6 h67 h1 HB5 B15 HO5 f0 f1 hlt
  go_wp2_with fail
  refine (get_one _ HC7.out).mono ?_
  rintro e w8 ⟨A8, c8, rfl, hb⟩
  have B18 := Lib.hid (B17.out.on hb)
  have B58 := Lib.hid (B57.out.on hb)
  have HB8 := Lib.hid (HB7.out.trans (hb.mono HB7.out.size))
  have HC8 := Lib.hid (HC7.out.on hb)
  have HO8 := Lib.hid (HO7.out.on hb)
  clear hb B17 B57 HB7 HC7 HO7 k0 k1
  go_upto_region 5 with fail
  obtain ⟨w9, hw9⟩ : ∃ w9, w9 = (w8.alloc (.cells #[.int .i64 2, .slice A8 2 c8] 24)).alloc (.cells #[.int .i64 0, .string ⟨#[]⟩, .bool false] 27) := ⟨_, rfl⟩
  rw [← hw9]
  have hb89 : Below w8.heap.size w8 w9 := by rw [hw9]; exact ((Below.refl _ _).alloc (Nat.le_refl _) _).alloc (by simp) _
  have B19 := Lib.hid (B18.out.on hb89)
  have B59 := Lib.hid (B58.out.on hb89)
  have HB9 := Lib.hid (HB8.out.trans (hb89.mono HB8.out.size))
  have HC9 := Lib.hid (HC8.out.on hb89)
  have HO9 := Lib.hid (HO8.out.on hb89)
  have k0 := Box.cell B19.out 0 rfl
  have k1 := Box.cell B19.out 1 rfl
  clear hw9 hb89 B18 B58 HB8 HC8 HO8
  go_wp2_with fail
  refine (put_nine _ (HC9.out.push _) (IV.lit rfl rfl rfl)).mono ?_
  rintro e w10 ⟨A10, c10, o10, rfl, h1, hb⟩
  have hb910 := ((Below.refl _ w9).alloc (Nat.le_refl _) _).trans (hb.mono (by simp))
  have B50 := Lib.hid (B59.out.on hb910)
  have HB0 := Lib.hid (HB9.out.trans (hb910.mono HB9.out.size))
  have HO0 := Lib.hid (HO9.out.on hb910)
  clear hb hb910 B19 B59 HB9 HC9 HO9 k0 k1
  go_upto_region 6 with fail
  obtain ⟨g10, hg10⟩ : ∃ g10, g10 = w10.heap.size := ⟨_, rfl⟩
  obtain ⟨w11, hw11⟩ : ∃ w11, w11 = w10.alloc (.cells #[.int .i64 2, .slice A10 2 c10] 24) := ⟨_, rfl⟩
  rw [← hg10, ← hw11]
  have hb : Below w10.heap.size w10 w11 := by rw [hw11]; exact (Below.refl _ _).alloc (Nat.le_refl _) _
  have B51 := Lib.hid (B50.out.on hb)
  have HB1 := Lib.hid (HB0.out.trans (hb.mono HB0.out.size))
  have HO1 := Lib.hid (HO0.out.on hb)
  have HD1 := Lib.hid (h1.on hb)
  have B101 := Lib.hid (show Box w11 g10 24 #[.int .i64 2, .slice A10 2 c10] from by rw [hw11]; exact Box.at_ w10 _ _ hg10)
  have k0 := Box.cell B101.out 0 rfl
  have k1 := Box.cell B101.out 1 rfl
  clear hb hg10 hw11 B50 HB0 HO0 h1
  go_wp2_with fail
  refine (clean_two _ HD1.out).mono ?_
  rintro e w12 ⟨A12, c12, D12, d12, rfl, h1, hb⟩
  have B52 := Lib.hid (B51.out.on hb)
  have HB2 := Lib.hid (HB1.out.trans (hb.mono HB1.out.size))
  have HO2 := Lib.hid (HO1.out.on hb)
  have HD2 := Lib.hid (HD1.out.on hb)
  have B102 := Lib.hid (B101.out.on hb)
  clear hb B51 HB1 HO1 HD1 B101 k0 k1
  go_upto_region 7 with fail
  obtain ⟨g13, hg13⟩ : ∃ g13, g13 = w12.heap.size := ⟨_, rfl⟩
  obtain ⟨w13, hw13⟩ : ∃ w13, w13 = w12.alloc (.cells #[.int .i64 2, .slice A12 2 c12] 24) := ⟨_, rfl⟩
  rw [← hg13, ← hw13]
  have hb : Below w12.heap.size w12 w13 := by rw [hw13]; exact (Below.refl _ _).alloc (Nat.le_refl _) _
  have B53 := Lib.hid (B52.out.on hb)
  have HB3 := Lib.hid (HB2.out.trans (hb.mono HB2.out.size))
  have HO3 := Lib.hid (HO2.out.on hb)
  have HD3 := Lib.hid (HD2.out.on hb)
  have B103 := Lib.hid (B102.out.on hb)
  have HG3 := Lib.hid (h1.on hb)
  have B133 := Lib.hid (show Box w13 g13 24 #[.int .i64 2, .slice A12 2 c12] from by rw [hw13]; exact Box.at_ w12 _ _ hg13)
  clear hb hg13 hw13 B52 HB2 HO2 HD2 B102 h1
  go_wp2_with fail
  refine (new_zero _).mono ?_
  rintro e w14 ⟨rfl, hb⟩
  go_upto_region 8 with fail
  obtain ⟨w15, hw15⟩ : ∃ w15, w15 = w14.alloc (.cells #[.int .i64 0, .slice none 0 0] 24) := ⟨_, rfl⟩
  rw [← hw15]
  have hb : Below w13.heap.size w13 w15 := by rw [hw15]; exact hb.alloc hb.size _
  have B54 := B53.out.on hb
  have HB4 := Lib.hid (HB3.out.trans (hb.mono HB3.out.size))
  have HO4 := HO3.out.on hb
  have HD4 := HD3.out.on hb
  have B104 := B103.out.on hb
  have HG4 := Lib.hid (HG3.out.on hb)
  have B134 := B133.out.on hb
  obtain ⟨ob, rfl, hob, hoc⟩ := (show ∃ ad, B3 = some ad ∧ ad.block < w15.heap.size ∧ w15.cell? ⟨ad.block, ad.off + 1, none⟩ = some (.string ⟨#[97]⟩) from by
    obtain ⟨A', c', e, h, _⟩ := HO4
    injection e with e1 _ _
    subst e1
    obtain ⟨ad, e, hB, hc⟩ := h.seeI (by simp)
    have := (hc 0 (by simp)).2.1
    rw [Nat.zero_mul, Addr.add_zero'] at this
    exact ⟨ad, e, hB, this⟩)
  obtain ⟨db, rfl, hdb, hdc⟩ := (show ∃ ad, A10 = some ad ∧ ad.block < w15.heap.size ∧ w15.cell? ⟨ad.block, ad.off + 3, none⟩ = some (.int .i64 2) from by
    obtain ⟨A', c', e, h, _⟩ := HD4
    injection e with e1 _ _
    subst e1
    obtain ⟨ad, e, hB, hc⟩ := h.seeI (by simp)
    have := (hc 1 (by simp)).1
    exact ⟨ad, e, hB, by rw [Nat.one_mul] at this; rwa [Addr.add_succ'] at this⟩)
  have k0 := Box.cell B54 0 rfl
  have k1 := Box.cell B104 1 rfl
  have k2 := Box.cell B134 0 rfl
  have k3 := Box.cell B134 1 rfl
  clear hb hw15 B53 HB3 HO3 HD3 B103 HG3 B133 B54 HO4 HD4 B104 B134 hob hdb
  go_wp2_with fail
  refine (right_two _ HG4.out).mono ?_
  rintro e w16 ⟨rfl, hb⟩
  have HB5 := Lib.hid (HB4.out.trans (hb.mono HB4.out.size))
  clear hb
  go_wp2
  go_ret
  exact ⟨rfl, HB5.out⟩

end Go.Proofs.Ythoffknkpogfhaa
