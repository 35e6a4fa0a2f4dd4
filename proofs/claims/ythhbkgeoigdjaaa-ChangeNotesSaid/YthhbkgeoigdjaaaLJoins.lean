/- The walk of ChangeJoins: three changes of one key are joined in either grouping; what is joined does what both do. -/
import Derived.Test.YthhbkgeoigdjaaaAwk
import Derived.Test.YthhbkgeoigdjaaaSf
set_option linter.unusedVariables false
set_option linter.unusedSimpArgs false
namespace Go.Proofs.Ythhbkgeoigdjaaa
open Go.RowKit

theorem join_three (x y : Ch) : joinE x y = 0 ∨ joinE x y = 1 ∨ joinE x y = 3 := by
  unfold joinE
  split
  · split <;> simp
  · simp
theorem join_ok {x y : Ch} (h : joinE x y = 0) : joinA x y = joinC x y ∧ mayC x = true ∧ mayC y = true ∧ x.key = y.key ∧ x.seq < y.seq ∧ x.has = y.had ∧ x.after = y.before ∧ (x.had || y.has) = true := by
  have h1 : joinA x y = joinC x y := by unfold joinA; rw [if_pos h]
  unfold joinE at h
  by_cases e : joinOk x y = true
  · rw [if_pos e] at h
    unfold joinOk at e
    simp only [Bool.and_eq_true, decide_eq_true_eq] at e
    obtain ⟨⟨⟨⟨e1, e2⟩, e3⟩, e4⟩, e5, e6⟩ := e
    refine ⟨h1, e1, e2, e3, e4, e5, e6, ?_⟩
    cases hm : x.had <;> cases hn : y.has <;> rw [hm, hn] at h <;> first | rfl | (exfalso; revert h; decide)
  · rw [if_neg e] at h; cases h
theorem join_may {x y : Ch} (h : joinE x y = 0) : mayC (joinC x y) = true := by
  obtain ⟨_, h1, h2, h3, _, _, _, h7⟩ := join_ok h
  unfold mayC at h1 h2 ⊢
  simp only [Bool.and_eq_true, decide_eq_true_eq] at h1 h2 ⊢
  obtain ⟨⟨⟨⟨⟨_, _⟩, a3⟩, _⟩, a5⟩, _⟩ := h1
  obtain ⟨⟨⟨⟨⟨b1, b2⟩, _⟩, _⟩, _⟩, b6⟩ := h2
  exact ⟨⟨⟨⟨⟨b1, b2⟩, a3⟩, h7⟩, a5⟩, b6⟩
theorem join_do {l : List Pr} (hw : wellL l = true) {x y : Ch} (h : joinE x y = 0) (hd : walkE l [x, y] = 0) : walkE l [joinC x y] = 0 ∧ walkA l [joinC x y] = walkA l [x, y] := by
  obtain ⟨_, h1, h2, h3, _, h5, h6, _⟩ := join_ok h
  obtain ⟨_, hq⟩ := walk_ok hd
  unfold doL at hq
  by_cases e1 : okC l x = true
  · rw [if_pos e1] at hq
    unfold doL at hq
    by_cases e2 : okC (doC l x) y = true
    · rw [if_pos e2] at hq
      obtain ⟨_, g1⟩ := okC_iff.1 e1
      have hk : okC l (joinC x y) = true := okC_iff.2 ⟨join_may h, g1⟩
      have hs : doC l (joinC x y) = doC (doC l x) y := by
        show setL l x.key (behindO y) = setL (setL l x.key (behindO x)) y.key (behindO y)
        rw [← h3, set_set (well_sorted hw)]
      have hdd : doL l [joinC x y] = some (doC (doC l x) y) := by unfold doL; rw [if_pos hk, hs]; rfl
      obtain ⟨z1, z2⟩ := walk_yes hw hdd
      exact ⟨z1, by rw [z2]; exact Option.some.inj hq⟩
    · rw [if_neg e2] at hq; cases hq
  · rw [if_neg e1] at hq; cases hq
theorem join_assoc {x y z : Ch} (h : joinE x y = 0) (g : joinE y z = 0) : joinE (joinC x y) z = joinE x (joinC y z) ∧ joinA (joinC x y) z = joinA x (joinC y z) := by
  obtain ⟨_, h1, h2, h3, h4, h5, h6, _⟩ := join_ok h
  obtain ⟨_, g1, g2, g3, g4, g5, g6, _⟩ := join_ok g
  have o1 : joinOk (joinC x y) z = true := by
    unfold joinOk
    rw [join_may h, g2]
    simp only [Bool.and_eq_true, decide_eq_true_eq]
    exact ⟨⟨⟨⟨trivial, trivial⟩, h3.trans g3⟩, g4⟩, g5, g6⟩
  have o2 : joinOk x (joinC y z) = true := by
    unfold joinOk
    rw [join_may g, h1]
    simp only [Bool.and_eq_true, decide_eq_true_eq]
    exact ⟨⟨⟨⟨trivial, trivial⟩, h3⟩, by show x.seq < z.seq; omega⟩, h5, h6⟩
  have e : joinE (joinC x y) z = joinE x (joinC y z) := by unfold joinE; rw [o1, o2]; rfl
  refine ⟨e, ?_⟩
  unfold joinA
  rw [e]
  split <;> rfl
theorem cv_lit3 (w : World) (x y z : Ch) : CV (w.alloc (.cells (chCells x ++ chCells y ++ chCells z) 27)) (.slice (some ⟨w.heap.size, 0, none⟩) 3 3) [x, y, z] := CV.lit rfl (by simp [chCells, Ch.cells]) rfl
theorem cv_lit2 (w : World) (x y : Ch) : CV (w.alloc (.cells (chCells x ++ chCells y) 27)) (.slice (some ⟨w.heap.size, 0, none⟩) 2 2) [x, y] := CV.lit rfl (by simp [chCells, Ch.cells]) rfl

set_option maxRecDepth 100000 in
set_option maxHeartbeats 8000000 in
theorem joins_walk (v : Value) (l : List Pr) (x1 x2 x3 : Ch) (w : World) (hv : PV w v l) (hn : l.length ≤ maxLen) :
    Calls Try.prog 7 #[v, x1.v, x2.v, x3.v] w fun e w' => e = .returned (.bool true) ∧ Below w.heap.size w w' := by
  have hj12 := fun w => join_any x1 x2 w
  have hj23 := fun w => join_any x2 x3 w
  obtain ⟨E, hE⟩ : ∃ E, joinE x1 x2 = E := ⟨_, rfl⟩
  obtain ⟨F, hF⟩ : ∃ F, joinE x2 x3 = F := ⟨_, rfl⟩
  obtain ⟨X, hX⟩ : ∃ X, joinA x1 x2 = X := ⟨_, rfl⟩
  obtain ⟨Y, hY⟩ : ∃ Y, joinA x2 x3 = Y := ⟨_, rfl⟩
  rw [hE, hX] at hj12
  rw [hF, hY] at hj23
  have HE := Lib.hid hE
  have HF := Lib.hid hF
  have HX := Lib.hid hX
  have HY := Lib.hid hY
  clear hE hF hX hY
  obtain ⟨s1, k1, m1, b1, n1, a1⟩ := x1
  obtain ⟨s2, k2, m2, b2, n2, a2⟩ := x2
  obtain ⟨s3, k3, m3, b3, n3, a3⟩ := x3
  obtain ⟨sx, kx, mx, bx, nx, ax⟩ := X
  obtain ⟨sv, kv, mv, bv, nv, av⟩ := Y
  unfold Ch.v chV at *
  have HJ1 := Lib.hid hj12
  have HJ2 := Lib.hid hj23
  obtain ⟨wa, hwa⟩ : ∃ q, q = w.alloc (.cells #[.int .i64 s1, .string k1, .bool m1, .string b1, .bool n1, .string a1] 27) := ⟨_, rfl⟩
  obtain ⟨wb, hwb⟩ : ∃ q, q = wa.alloc (.cells #[.int .i64 s2, .string k2, .bool m2, .string b2, .bool n2, .string a2] 27) := ⟨_, rfl⟩
  obtain ⟨w0, hw0⟩ : ∃ q, q = wb.alloc (.cells #[.int .i64 s3, .string k3, .bool m3, .string b3, .bool n3, .string a3] 27) := ⟨_, rfl⟩
  obtain ⟨g1, hg1⟩ : ∃ q, q = w.heap.size := ⟨_, rfl⟩
  have ea : wa.heap.size = g1 + 1 := by rw [hwa, hg1]; simp
  have eb : wb.heap.size = g1 + 1 + 1 := by rw [hwb]; simp [ea]
  have hb0 : Below w.heap.size w w0 := by rw [hw0, hwb, hwa]; exact (((Below.refl _ _).alloc (Nat.le_refl _) _).alloc (by simp) _).alloc (by simp; omega) _
  have HB0 := Lib.hid hb0
  have B10 := Lib.hid (show Box w0 g1 27 #[.int .i64 s1, .string k1, .bool m1, .string b1, .bool n1, .string a1] from by rw [hw0, hwb]; exact Box.push (Box.push (by rw [hwa]; exact Box.at_ w _ _ hg1) _) _)
  have B20 := Lib.hid (show Box w0 (g1 + 1) 27 #[.int .i64 s2, .string k2, .bool m2, .string b2, .bool n2, .string a2] from by rw [hw0]; exact Box.push (by rw [hwb]; exact Box.at_ wa _ _ ea.symm) _)
  have B30 := Lib.hid (show Box w0 (g1 + 1 + 1) 27 #[.int .i64 s3, .string k3, .bool m3, .string b3, .bool n3, .string a3] from by rw [hw0]; exact Box.at_ wb _ _ eb.symm)
  have VP0 := Lib.hid (hv.on hb0)
  clear hb0 hv hn hj12 hj23
  go_enter Try.func7, Try.ntmps7
  go_wp2_with fail
  rw [← hg1, ← hwa, ← hwb, ← hw0]
  clear hw0 hwa hwb hg1 ea eb
  go_wp2_with fail
  refine (small_v VP0.out).mono ?_
  rintro e w1 ⟨R1, rfl, h1, hb⟩
  have HB1 := Lib.hid (HB0.out.trans (hb.mono HB0.out.size))
  have B11 := Lib.hid (B10.out.on hb)
  have B21 := Lib.hid (B20.out.on hb)
  have B31 := Lib.hid (B30.out.on hb)
  have VP1 := Lib.hid (VP0.out.on hb)
  clear hb HB0 B10 B20 B30 VP0 
  have H1 := Lib.hid h1
  clear h1
  cases R1 with
  | false =>
    go_wp2_with fail
    refine (awake_true _).mono ?_
    rintro e w2 ⟨rfl, hb⟩
    have HB2 := Lib.hid (HB1.out.trans (hb.mono HB1.out.size))
    clear hb HB1 
    go_wp2
    go_ret
    exact ⟨rfl, HB2.out⟩
  | true =>
    have kB10 := Box.cell B11.out 0 rfl
    have kB11 := Box.cell B11.out 1 rfl
    have kB12 := Box.cell B11.out 2 rfl
    have kB13 := Box.cell B11.out 3 rfl
    have kB14 := Box.cell B11.out 4 rfl
    have kB15 := Box.cell B11.out 5 rfl
    have kB20 := Box.cell B21.out 0 rfl
    have kB21 := Box.cell B21.out 1 rfl
    have kB22 := Box.cell B21.out 2 rfl
    have kB23 := Box.cell B21.out 3 rfl
    have kB24 := Box.cell B21.out 4 rfl
    have kB25 := Box.cell B21.out 5 rfl
    have kB30 := Box.cell B31.out 0 rfl
    have kB31 := Box.cell B31.out 1 rfl
    have kB32 := Box.cell B31.out 2 rfl
    have kB33 := Box.cell B31.out 3 rfl
    have kB34 := Box.cell B31.out 4 rfl
    have kB35 := Box.cell B31.out 5 rfl
    go_wp2_with fail
    refine (few_v (cv_lit3 _ ⟨s1, k1, m1, b1, n1, a1⟩ ⟨s2, k2, m2, b2, n2, a2⟩ ⟨s3, k3, m3, b3, n3, a3⟩)).mono ?_
    rintro e w3 ⟨R2, rfl, h2, hb⟩
    replace hb := ((Below.refl _ w1).alloc (Nat.le_refl _) _).trans (hb.mono (by simp))
    have HB3 := Lib.hid (HB1.out.trans (hb.mono HB1.out.size))
    have B13 := Lib.hid (B11.out.on hb)
    have B23 := Lib.hid (B21.out.on hb)
    have B33 := Lib.hid (B31.out.on hb)
    have VP3 := Lib.hid (VP1.out.on hb)
    clear hb HB1 B11 B21 B31 VP1 kB10 kB11 kB12 kB13 kB14 kB15 kB20 kB21 kB22 kB23 kB24 kB25 kB30 kB31 kB32 kB33 kB34 kB35
    have H2 := Lib.hid h2
    clear h2
    cases R2 with
    | false =>
      go_wp2_with fail
      refine (awake_true _).mono ?_
      rintro e w4 ⟨rfl, hb⟩
      have HB4 := Lib.hid (HB3.out.trans (hb.mono HB3.out.size))
      clear hb HB3 
      go_wp2
      go_ret
      exact ⟨rfl, HB4.out⟩
    | true =>
      have HL := Lib.hid (H1.out (by simp))
      have hkk := (H2.out (by simp)).2
      have HK1 := Lib.hid (hkk ⟨s1, k1, m1, b1, n1, a1⟩ (by simp))
      have HK2 := Lib.hid (hkk ⟨s2, k2, m2, b2, n2, a2⟩ (by simp))
      clear H1 H2 hkk
      have kB10 := Box.cell B13.out 0 rfl
      have kB11 := Box.cell B13.out 1 rfl
      have kB12 := Box.cell B13.out 2 rfl
      have kB13 := Box.cell B13.out 3 rfl
      have kB14 := Box.cell B13.out 4 rfl
      have kB15 := Box.cell B13.out 5 rfl
      have kB20 := Box.cell B23.out 0 rfl
      have kB21 := Box.cell B23.out 1 rfl
      have kB22 := Box.cell B23.out 2 rfl
      have kB23 := Box.cell B23.out 3 rfl
      have kB24 := Box.cell B23.out 4 rfl
      have kB25 := Box.cell B23.out 5 rfl
      go_wp2_with fail
      refine (HJ1.out _).mono ?_
      rintro e w5 ⟨rfl, hb⟩
      have HB5 := Lib.hid (HB3.out.trans (hb.mono HB3.out.size))
      have B15 := Lib.hid (B13.out.on hb)
      have B25 := Lib.hid (B23.out.on hb)
      have B35 := Lib.hid (B33.out.on hb)
      have VP5 := Lib.hid (VP3.out.on hb)
      clear hb HB3 B13 B23 B33 VP3 kB10 kB11 kB12 kB13 kB14 kB15 kB20 kB21 kB22 kB23 kB24 kB25
      go_upto_region 4 with fail
      obtain ⟨gx, hgx⟩ : ∃ gx, gx = w5.heap.size := ⟨_, rfl⟩
      obtain ⟨w6, hz0⟩ : ∃ wz, wz = w5.alloc (.cells #[.int .i64 sx, .string kx, .bool mx, .string bx, .bool nx, .string ax] 27) := ⟨_, rfl⟩
      rw [← hgx, ← hz0]
      have hb : Below w5.heap.size w5 w6 := by rw [hz0]; exact ((Below.refl _ _).alloc (Nat.le_refl _) _)
      have BX6 := Lib.hid (show Box w6 gx 27 #[.int .i64 sx, .string kx, .bool mx, .string bx, .bool nx, .string ax] from (by rw [hz0]; exact Box.at_ w5 _ _ hgx))
      have HGgx := Lib.hid (show w.heap.size ≤ gx from by rw [hgx]; exact HB5.out.size)
      have HB6 := Lib.hid (HB5.out.trans (hb.mono HB5.out.size))
      have B16 := Lib.hid (B15.out.on hb)
      have B26 := Lib.hid (B25.out.on hb)
      have B36 := Lib.hid (B35.out.on hb)
      have VP6 := Lib.hid (VP5.out.on hb)
      clear hb HB5 B15 B25 B35 VP5 hgx  hz0
      have kB20 := Box.cell B26.out 0 rfl
      have kB21 := Box.cell B26.out 1 rfl
      have kB22 := Box.cell B26.out 2 rfl
      have kB23 := Box.cell B26.out 3 rfl
      have kB24 := Box.cell B26.out 4 rfl
      have kB25 := Box.cell B26.out 5 rfl
      have kB30 := Box.cell B36.out 0 rfl
      have kB31 := Box.cell B36.out 1 rfl
      have kB32 := Box.cell B36.out 2 rfl
      have kB33 := Box.cell B36.out 3 rfl
      have kB34 := Box.cell B36.out 4 rfl
      have kB35 := Box.cell B36.out 5 rfl
      go_wp2_with fail
      refine (HJ2.out _).mono ?_
      rintro e w7 ⟨rfl, hb⟩
      have HB7 := Lib.hid (HB6.out.trans (hb.mono HB6.out.size))
      have B17 := Lib.hid (B16.out.on hb)
      have B27 := Lib.hid (B26.out.on hb)
      have B37 := Lib.hid (B36.out.on hb)
      have VP7 := Lib.hid (VP6.out.on hb)
      have BX7 := Lib.hid (BX6.out.on hb)
      clear hb HB6 B16 B26 B36 VP6 BX6 kB20 kB21 kB22 kB23 kB24 kB25 kB30 kB31 kB32 kB33 kB34 kB35
      go_upto_region 5 with fail
      obtain ⟨gy, hgy⟩ : ∃ gy, gy = w7.heap.size := ⟨_, rfl⟩
      obtain ⟨w8, hz0⟩ : ∃ wz, wz = w7.alloc (.cells #[.int .i64 sv, .string kv, .bool mv, .string bv, .bool nv, .string av] 27) := ⟨_, rfl⟩
      rw [← hgy, ← hz0]
      have hb : Below w7.heap.size w7 w8 := by rw [hz0]; exact ((Below.refl _ _).alloc (Nat.le_refl _) _)
      have BY8 := Lib.hid (show Box w8 gy 27 #[.int .i64 sv, .string kv, .bool mv, .string bv, .bool nv, .string av] from (by rw [hz0]; exact Box.at_ w7 _ _ hgy))
      have HGgy := Lib.hid (show w.heap.size ≤ gy from by rw [hgy]; exact HB7.out.size)
      have HN_gy_gx := Lib.hid (show gy ≠ gx from by have := BX7.out.lt; omega)
      have HB8 := Lib.hid (HB7.out.trans (hb.mono HB7.out.size))
      have B18 := Lib.hid (B17.out.on hb)
      have B28 := Lib.hid (B27.out.on hb)
      have B38 := Lib.hid (B37.out.on hb)
      have VP8 := Lib.hid (VP7.out.on hb)
      have BX8 := Lib.hid (BX7.out.on hb)
      clear hb HB7 B17 B27 B37 VP7 BX7 hgy  hz0
      by_cases hE0 : E = 0
      case neg =>
        have hE3 : E = 1 ∨ E = 3 := by have h3 := join_three ⟨s1, k1, m1, b1, n1, a1⟩ ⟨s2, k2, m2, b2, n2, a2⟩; rw [HE.out] at h3; rcases h3 with h3 | h3 | h3; exact absurd h3 hE0; exact .inl h3; exact .inr h3
        clear hE0
        rcases hE3 with rfl | rfl
        · skip
          go_wp2_with fail
          refine (awake_true _).mono ?_
          rintro e w9 ⟨rfl, hb⟩
          have HB9 := Lib.hid (HB8.out.trans (hb.mono HB8.out.size))
          clear hb HB8 
          go_wp2
          go_ret
          exact ⟨rfl, HB9.out⟩
        · skip
          go_wp2_with fail
          refine (awake_true _).mono ?_
          rintro e w10 ⟨rfl, hb⟩
          have HB10 := Lib.hid (HB8.out.trans (hb.mono HB8.out.size))
          clear hb HB8 
          go_wp2
          go_ret
          exact ⟨rfl, HB10.out⟩
      subst hE0
      have hxe : (⟨sx, kx, mx, bx, nx, ax⟩ : Ch) = joinC ⟨s1, k1, m1, b1, n1, a1⟩ ⟨s2, k2, m2, b2, n2, a2⟩ := by rw [← HX.out]; exact (join_ok HE.out).1
      have hsx : sx = s2 := congrArg Ch.seq hxe
      have hkx : kx = k1 := congrArg Ch.key hxe
      subst hsx hkx
      have HXE := Lib.hid hxe
      clear hxe
      obtain ⟨G, hG⟩ : ∃ G, walkE l [⟨s1, kx, m1, b1, n1, a1⟩, ⟨sx, k2, m2, b2, n2, a2⟩] = G := ⟨_, rfl⟩
      obtain ⟨H, hH⟩ : ∃ H, walkE l [⟨sx, kx, mx, bx, nx, ax⟩] = H := ⟨_, rfl⟩
      have HG := Lib.hid hG
      have HH := Lib.hid hH
      have kB10 := Box.cell B18.out 0 rfl
      have kB11 := Box.cell B18.out 1 rfl
      have kB12 := Box.cell B18.out 2 rfl
      have kB13 := Box.cell B18.out 3 rfl
      have kB14 := Box.cell B18.out 4 rfl
      have kB15 := Box.cell B18.out 5 rfl
      have kB20 := Box.cell B28.out 0 rfl
      have kB21 := Box.cell B28.out 1 rfl
      have kB22 := Box.cell B28.out 2 rfl
      have kB23 := Box.cell B28.out 3 rfl
      have kB24 := Box.cell B28.out 4 rfl
      have kB25 := Box.cell B28.out 5 rfl
      have hbl : Below w8.heap.size w8 (w8.alloc (.cells (chCells ⟨s1, kx, m1, b1, n1, a1⟩ ++ chCells ⟨sx, k2, m2, b2, n2, a2⟩) 27)) := (Below.refl _ _).alloc (Nat.le_refl _) _
      have hdo := do_v (VP8.out.on hbl) (cv_lit2 w8 ⟨s1, kx, m1, b1, n1, a1⟩ ⟨sx, k2, m2, b2, n2, a2⟩) (by have := HL.out; omega) (by simp) (by intro d hd; simp at hd; rcases hd with rfl | rfl; exact HK1.out; exact HK2.out)
      rw [hG] at hdo
      have HDO := Lib.hid hdo
      clear hdo hbl hG
      go_wp2_with fail
      refine (HDO.out).mono ?_
      rintro e w11 ⟨p, rfl, hp, hb⟩
      replace hb := ((Below.refl _ w8).alloc (Nat.le_refl _) _).trans (hb.mono (by simp))
      have VQ11 := Lib.hid hp
      clear hp
      have HB11 := Lib.hid (HB8.out.trans (hb.mono HB8.out.size))
      have B111 := Lib.hid (B18.out.on hb)
      have B211 := Lib.hid (B28.out.on hb)
      have B311 := Lib.hid (B38.out.on hb)
      have VP11 := Lib.hid (VP8.out.on hb)
      have BX11 := Lib.hid (BX8.out.on hb)
      have BY11 := Lib.hid (BY8.out.on hb)
      clear hb HB8 B18 B28 B38 VP8 BX8 BY8 kB10 kB11 kB12 kB13 kB14 kB15 kB20 kB21 kB22 kB23 kB24 kB25
      have kBX0 := Box.cell BX11.out 0 rfl
      have kBX1 := Box.cell BX11.out 1 rfl
      have kBX2 := Box.cell BX11.out 2 rfl
      have kBX3 := Box.cell BX11.out 3 rfl
      have kBX4 := Box.cell BX11.out 4 rfl
      have kBX5 := Box.cell BX11.out 5 rfl
      have hbl : Below w11.heap.size w11 (w11.alloc (.cells (chCells ⟨sx, kx, mx, bx, nx, ax⟩) 27)) := (Below.refl _ _).alloc (Nat.le_refl _) _
      have hdo := do_v (VP11.out.on hbl) (cv_lit w11 ⟨sx, kx, mx, bx, nx, ax⟩) (by have := HL.out; omega) (by simp) (by intro d hd; simp at hd; subst hd; exact HK1.out)
      rw [hH] at hdo
      have HDO := Lib.hid hdo
      clear hdo hbl hH
      go_wp2_with fail
      refine (HDO.out).mono ?_
      rintro e w12 ⟨q, rfl, hp, hb⟩
      replace hb := ((Below.refl _ w11).alloc (Nat.le_refl _) _).trans (hb.mono (by simp))
      have VR12 := Lib.hid hp
      clear hp
      have HB12 := Lib.hid (HB11.out.trans (hb.mono HB11.out.size))
      have B112 := Lib.hid (B111.out.on hb)
      have B212 := Lib.hid (B211.out.on hb)
      have B312 := Lib.hid (B311.out.on hb)
      have VP12 := Lib.hid (VP11.out.on hb)
      have BX12 := Lib.hid (BX11.out.on hb)
      have BY12 := Lib.hid (BY11.out.on hb)
      have VQ12 := Lib.hid (VQ11.out.on hb)
      clear hb HB11 B111 B211 B311 VP11 BX11 BY11 VQ11 kBX0 kBX1 kBX2 kBX3 kBX4 kBX5
      rcases (show G = 0 ∨ G = 1 from by rw [← HG.out]; exact walk_two _ _) with rfl | rfl
      · skip
        have hj := join_do (walk_ok HG.out).1 HE.out HG.out
        rw [← HXE.out] at hj
        obtain rfl : H = 0 := by rw [← HH.out]; exact hj.1
        have hsm := same_v VQ12.out VR12.out (by have := walk_len l [⟨s1, kx, m1, b1, n1, a1⟩, ⟨sx, k2, m2, b2, n2, a2⟩]; have := HL.out; unfold maxLen; simp at *; omega)
        rw [hj.2, decide_eq_true rfl] at hsm
        have HSM := Lib.hid hsm
        clear hj hsm
        go_wp2_with fail
        refine (HSM.out).mono ?_
        rintro e w13 ⟨rfl, hb⟩
        have HB13 := Lib.hid (HB12.out.trans (hb.mono HB12.out.size))
        have B113 := Lib.hid (B112.out.on hb)
        have B213 := Lib.hid (B212.out.on hb)
        have B313 := Lib.hid (B312.out.on hb)
        have VP13 := Lib.hid (VP12.out.on hb)
        have BX13 := Lib.hid (BX12.out.on hb)
        have BY13 := Lib.hid (BY12.out.on hb)
        have VQ13 := Lib.hid (VQ12.out.on hb)
        have VR13 := Lib.hid (VR12.out.on hb)
        clear hb HB12 B112 B212 B312 VP12 BX12 BY12 VQ12 VR12 
        have kBX0 := Box.cell BX13.out 0 rfl
        have kBX1 := Box.cell BX13.out 1 rfl
        have kBX2 := Box.cell BX13.out 2 rfl
        have kBX3 := Box.cell BX13.out 3 rfl
        have kBX4 := Box.cell BX13.out 4 rfl
        have kBX5 := Box.cell BX13.out 5 rfl
        have kB20 := Box.cell B213.out 0 rfl
        have kB21 := Box.cell B213.out 1 rfl
        have kB22 := Box.cell B213.out 2 rfl
        have kB23 := Box.cell B213.out 3 rfl
        have kB24 := Box.cell B213.out 4 rfl
        have kB25 := Box.cell B213.out 5 rfl
        have kB10 := Box.cell B113.out 0 rfl
        have kB11 := Box.cell B113.out 1 rfl
        have kB12 := Box.cell B113.out 2 rfl
        have kB13 := Box.cell B113.out 3 rfl
        have kB14 := Box.cell B113.out 4 rfl
        have kB15 := Box.cell B113.out 5 rfl
        go_upto_region 10 with fail
        clear kBX0 kBX1 kBX2 kBX3 kBX4 kBX5 kB20 kB21 kB22 kB23 kB24 kB25 kB10 kB11 kB12 kB13 kB14 kB15 HSM
        by_cases hF0 : F = 0
        case neg =>
          have hF3 : F = 1 ∨ F = 3 := by have h3 := join_three ⟨sx, k2, m2, b2, n2, a2⟩ ⟨s3, k3, m3, b3, n3, a3⟩; rw [HF.out] at h3; rcases h3 with h3 | h3 | h3; exact absurd h3 hF0; exact .inl h3; exact .inr h3
          clear hF0
          rcases hF3 with rfl | rfl
          · skip
            go_wp2_with fail
            refine (awake_true _).mono ?_
            rintro e w14 ⟨rfl, hb⟩
            have HB14 := Lib.hid (HB13.out.trans (hb.mono HB13.out.size))
            clear hb HB13 
            go_wp2
            go_ret
            exact ⟨rfl, HB14.out⟩
          · skip
            go_wp2_with fail
            refine (awake_true _).mono ?_
            rintro e w15 ⟨rfl, hb⟩
            have HB15 := Lib.hid (HB13.out.trans (hb.mono HB13.out.size))
            clear hb HB13 
            go_wp2
            go_ret
            exact ⟨rfl, HB15.out⟩
        subst hF0
        have hj1 := fun w => join_any ⟨sx, kx, mx, bx, nx, ax⟩ ⟨s3, k3, m3, b3, n3, a3⟩ w
        have hj2 := fun w => join_any ⟨s1, kx, m1, b1, n1, a1⟩ ⟨sv, kv, mv, bv, nv, av⟩ w
        have has : joinE ⟨sx, kx, mx, bx, nx, ax⟩ ⟨s3, k3, m3, b3, n3, a3⟩ = joinE ⟨s1, kx, m1, b1, n1, a1⟩ ⟨sv, kv, mv, bv, nv, av⟩ ∧ joinA ⟨sx, kx, mx, bx, nx, ax⟩ ⟨s3, k3, m3, b3, n3, a3⟩ = joinA ⟨s1, kx, m1, b1, n1, a1⟩ ⟨sv, kv, mv, bv, nv, av⟩ := by
          have h1 := join_assoc HE.out HF.out
          rw [← (join_ok HE.out).1, ← (join_ok HF.out).1, HX.out, HY.out] at h1
          exact h1
        rw [has.1, has.2] at hj1
        clear has
        generalize joinE ⟨s1, kx, m1, b1, n1, a1⟩ ⟨sv, kv, mv, bv, nv, av⟩ = EE at hj1 hj2
        generalize joinA ⟨s1, kx, m1, b1, n1, a1⟩ ⟨sv, kv, mv, bv, nv, av⟩ = AA at hj1 hj2
        obtain ⟨sz, kz, mz, bz, nz, az⟩ := AA
        unfold Ch.v chV at hj1 hj2
        have HJ3 := Lib.hid hj1
        have HJ4 := Lib.hid hj2
        clear hj1 hj2
        have kBX0 := Box.cell BX13.out 0 rfl
        have kBX1 := Box.cell BX13.out 1 rfl
        have kBX2 := Box.cell BX13.out 2 rfl
        have kBX3 := Box.cell BX13.out 3 rfl
        have kBX4 := Box.cell BX13.out 4 rfl
        have kBX5 := Box.cell BX13.out 5 rfl
        have kB30 := Box.cell B313.out 0 rfl
        have kB31 := Box.cell B313.out 1 rfl
        have kB32 := Box.cell B313.out 2 rfl
        have kB33 := Box.cell B313.out 3 rfl
        have kB34 := Box.cell B313.out 4 rfl
        have kB35 := Box.cell B313.out 5 rfl
        go_wp2_with fail
        refine (HJ3.out _).mono ?_
        rintro e w16 ⟨rfl, hb⟩
        have HB16 := Lib.hid (HB13.out.trans (hb.mono HB13.out.size))
        have B116 := Lib.hid (B113.out.on hb)
        have B216 := Lib.hid (B213.out.on hb)
        have B316 := Lib.hid (B313.out.on hb)
        have VP16 := Lib.hid (VP13.out.on hb)
        have BX16 := Lib.hid (BX13.out.on hb)
        have BY16 := Lib.hid (BY13.out.on hb)
        have VQ16 := Lib.hid (VQ13.out.on hb)
        have VR16 := Lib.hid (VR13.out.on hb)
        clear hb HB13 B113 B213 B313 VP13 BX13 BY13 VQ13 VR13 kBX0 kBX1 kBX2 kBX3 kBX4 kBX5 kB30 kB31 kB32 kB33 kB34 kB35
        go_upto_region 13 with fail
        obtain ⟨gu, hgu⟩ : ∃ gu, gu = w16.heap.size := ⟨_, rfl⟩
        obtain ⟨w17, hz0⟩ : ∃ wz, wz = w16.alloc (.cells #[.int .i64 sz, .string kz, .bool mz, .string bz, .bool nz, .string az] 27) := ⟨_, rfl⟩
        rw [← hgu, ← hz0]
        have hb : Below w16.heap.size w16 w17 := by rw [hz0]; exact ((Below.refl _ _).alloc (Nat.le_refl _) _)
        have BU17 := Lib.hid (show Box w17 gu 27 #[.int .i64 sz, .string kz, .bool mz, .string bz, .bool nz, .string az] from (by rw [hz0]; exact Box.at_ w16 _ _ hgu))
        have HGgu := Lib.hid (show w.heap.size ≤ gu from by rw [hgu]; exact HB16.out.size)
        have HN_gu_gx := Lib.hid (show gu ≠ gx from by have := BX16.out.lt; omega)
        have HN_gu_gy := Lib.hid (show gu ≠ gy from by have := BY16.out.lt; omega)
        have HB17 := Lib.hid (HB16.out.trans (hb.mono HB16.out.size))
        have B117 := Lib.hid (B116.out.on hb)
        have B217 := Lib.hid (B216.out.on hb)
        have B317 := Lib.hid (B316.out.on hb)
        have VP17 := Lib.hid (VP16.out.on hb)
        have BX17 := Lib.hid (BX16.out.on hb)
        have BY17 := Lib.hid (BY16.out.on hb)
        have VQ17 := Lib.hid (VQ16.out.on hb)
        have VR17 := Lib.hid (VR16.out.on hb)
        clear hb HB16 B116 B216 B316 VP16 BX16 BY16 VQ16 VR16 hgu  hz0
        have kB10 := Box.cell B117.out 0 rfl
        have kB11 := Box.cell B117.out 1 rfl
        have kB12 := Box.cell B117.out 2 rfl
        have kB13 := Box.cell B117.out 3 rfl
        have kB14 := Box.cell B117.out 4 rfl
        have kB15 := Box.cell B117.out 5 rfl
        have kBY0 := Box.cell BY17.out 0 rfl
        have kBY1 := Box.cell BY17.out 1 rfl
        have kBY2 := Box.cell BY17.out 2 rfl
        have kBY3 := Box.cell BY17.out 3 rfl
        have kBY4 := Box.cell BY17.out 4 rfl
        have kBY5 := Box.cell BY17.out 5 rfl
        go_wp2_with fail
        refine (HJ4.out _).mono ?_
        rintro e w18 ⟨rfl, hb⟩
        have HB18 := Lib.hid (HB17.out.trans (hb.mono HB17.out.size))
        have B118 := Lib.hid (B117.out.on hb)
        have B218 := Lib.hid (B217.out.on hb)
        have B318 := Lib.hid (B317.out.on hb)
        have VP18 := Lib.hid (VP17.out.on hb)
        have BX18 := Lib.hid (BX17.out.on hb)
        have BY18 := Lib.hid (BY17.out.on hb)
        have VQ18 := Lib.hid (VQ17.out.on hb)
        have VR18 := Lib.hid (VR17.out.on hb)
        have BU18 := Lib.hid (BU17.out.on hb)
        clear hb HB17 B117 B217 B317 VP17 BX17 BY17 VQ17 VR17 BU17 kB10 kB11 kB12 kB13 kB14 kB15 kBY0 kBY1 kBY2 kBY3 kBY4 kBY5
        go_upto_region 14 with fail
        obtain ⟨gv, hgv⟩ : ∃ gv, gv = w18.heap.size := ⟨_, rfl⟩
        obtain ⟨w19, hz0⟩ : ∃ wz, wz = w18.alloc (.cells #[.int .i64 sz, .string kz, .bool mz, .string bz, .bool nz, .string az] 27) := ⟨_, rfl⟩
        rw [← hgv, ← hz0]
        have hb : Below w18.heap.size w18 w19 := by rw [hz0]; exact ((Below.refl _ _).alloc (Nat.le_refl _) _)
        have BV19 := Lib.hid (show Box w19 gv 27 #[.int .i64 sz, .string kz, .bool mz, .string bz, .bool nz, .string az] from (by rw [hz0]; exact Box.at_ w18 _ _ hgv))
        have HGgv := Lib.hid (show w.heap.size ≤ gv from by rw [hgv]; exact HB18.out.size)
        have HN_gv_gx := Lib.hid (show gv ≠ gx from by have := BX18.out.lt; omega)
        have HN_gv_gy := Lib.hid (show gv ≠ gy from by have := BY18.out.lt; omega)
        have HN_gv_gu := Lib.hid (show gv ≠ gu from by have := BU18.out.lt; omega)
        have HB19 := Lib.hid (HB18.out.trans (hb.mono HB18.out.size))
        have B119 := Lib.hid (B118.out.on hb)
        have B219 := Lib.hid (B218.out.on hb)
        have B319 := Lib.hid (B318.out.on hb)
        have VP19 := Lib.hid (VP18.out.on hb)
        have BX19 := Lib.hid (BX18.out.on hb)
        have BY19 := Lib.hid (BY18.out.on hb)
        have VQ19 := Lib.hid (VQ18.out.on hb)
        have VR19 := Lib.hid (VR18.out.on hb)
        have BU19 := Lib.hid (BU18.out.on hb)
        clear hb HB18 B118 B218 B318 VP18 BX18 BY18 VQ18 VR18 BU18 hgv  hz0
        have kBU0 := Box.cell BU19.out 0 rfl
        have kBU1 := Box.cell BU19.out 1 rfl
        have kBU2 := Box.cell BU19.out 2 rfl
        have kBU3 := Box.cell BU19.out 3 rfl
        have kBU4 := Box.cell BU19.out 4 rfl
        have kBU5 := Box.cell BU19.out 5 rfl
        have kBV0 := Box.cell BV19.out 0 rfl
        have kBV1 := Box.cell BV19.out 1 rfl
        have kBV2 := Box.cell BV19.out 2 rfl
        have kBV3 := Box.cell BV19.out 3 rfl
        have kBV4 := Box.cell BV19.out 4 rfl
        have kBV5 := Box.cell BV19.out 5 rfl
        go_wp2_with fail
        refine (awake_true _).mono ?_
        rintro e w20 ⟨rfl, hb⟩
        have HB20 := Lib.hid (HB19.out.trans (hb.mono HB19.out.size))
        clear hb HB19 kBU0 kBU1 kBU2 kBU3 kBU4 kBU5 kBV0 kBV1 kBV2 kBV3 kBV4 kBV5
        go_wp2
        go_ret
        exact ⟨by simp, HB20.out⟩
      · skip
        have kBX0 := Box.cell BX12.out 0 rfl
        have kBX1 := Box.cell BX12.out 1 rfl
        have kBX2 := Box.cell BX12.out 2 rfl
        have kBX3 := Box.cell BX12.out 3 rfl
        have kBX4 := Box.cell BX12.out 4 rfl
        have kBX5 := Box.cell BX12.out 5 rfl
        have kB20 := Box.cell B212.out 0 rfl
        have kB21 := Box.cell B212.out 1 rfl
        have kB22 := Box.cell B212.out 2 rfl
        have kB23 := Box.cell B212.out 3 rfl
        have kB24 := Box.cell B212.out 4 rfl
        have kB25 := Box.cell B212.out 5 rfl
        have kB10 := Box.cell B112.out 0 rfl
        have kB11 := Box.cell B112.out 1 rfl
        have kB12 := Box.cell B112.out 2 rfl
        have kB13 := Box.cell B112.out 3 rfl
        have kB14 := Box.cell B112.out 4 rfl
        have kB15 := Box.cell B112.out 5 rfl
        go_upto_region 10 with fail
        clear kBX0 kBX1 kBX2 kBX3 kBX4 kBX5 kB20 kB21 kB22 kB23 kB24 kB25 kB10 kB11 kB12 kB13 kB14 kB15
        by_cases hF0 : F = 0
        case neg =>
          have hF3 : F = 1 ∨ F = 3 := by have h3 := join_three ⟨sx, k2, m2, b2, n2, a2⟩ ⟨s3, k3, m3, b3, n3, a3⟩; rw [HF.out] at h3; rcases h3 with h3 | h3 | h3; exact absurd h3 hF0; exact .inl h3; exact .inr h3
          clear hF0
          rcases hF3 with rfl | rfl
          · skip
            go_wp2_with fail
            refine (awake_true _).mono ?_
            rintro e w21 ⟨rfl, hb⟩
            have HB21 := Lib.hid (HB12.out.trans (hb.mono HB12.out.size))
            clear hb HB12 
            go_wp2
            go_ret
            exact ⟨rfl, HB21.out⟩
          · skip
            go_wp2_with fail
            refine (awake_true _).mono ?_
            rintro e w22 ⟨rfl, hb⟩
            have HB22 := Lib.hid (HB12.out.trans (hb.mono HB12.out.size))
            clear hb HB12 
            go_wp2
            go_ret
            exact ⟨rfl, HB22.out⟩
        subst hF0
        have hj1 := fun w => join_any ⟨sx, kx, mx, bx, nx, ax⟩ ⟨s3, k3, m3, b3, n3, a3⟩ w
        have hj2 := fun w => join_any ⟨s1, kx, m1, b1, n1, a1⟩ ⟨sv, kv, mv, bv, nv, av⟩ w
        have has : joinE ⟨sx, kx, mx, bx, nx, ax⟩ ⟨s3, k3, m3, b3, n3, a3⟩ = joinE ⟨s1, kx, m1, b1, n1, a1⟩ ⟨sv, kv, mv, bv, nv, av⟩ ∧ joinA ⟨sx, kx, mx, bx, nx, ax⟩ ⟨s3, k3, m3, b3, n3, a3⟩ = joinA ⟨s1, kx, m1, b1, n1, a1⟩ ⟨sv, kv, mv, bv, nv, av⟩ := by
          have h1 := join_assoc HE.out HF.out
          rw [← (join_ok HE.out).1, ← (join_ok HF.out).1, HX.out, HY.out] at h1
          exact h1
        rw [has.1, has.2] at hj1
        clear has
        generalize joinE ⟨s1, kx, m1, b1, n1, a1⟩ ⟨sv, kv, mv, bv, nv, av⟩ = EE at hj1 hj2
        generalize joinA ⟨s1, kx, m1, b1, n1, a1⟩ ⟨sv, kv, mv, bv, nv, av⟩ = AA at hj1 hj2
        obtain ⟨sz, kz, mz, bz, nz, az⟩ := AA
        unfold Ch.v chV at hj1 hj2
        have HJ3 := Lib.hid hj1
        have HJ4 := Lib.hid hj2
        clear hj1 hj2
        have kBX0 := Box.cell BX12.out 0 rfl
        have kBX1 := Box.cell BX12.out 1 rfl
        have kBX2 := Box.cell BX12.out 2 rfl
        have kBX3 := Box.cell BX12.out 3 rfl
        have kBX4 := Box.cell BX12.out 4 rfl
        have kBX5 := Box.cell BX12.out 5 rfl
        have kB30 := Box.cell B312.out 0 rfl
        have kB31 := Box.cell B312.out 1 rfl
        have kB32 := Box.cell B312.out 2 rfl
        have kB33 := Box.cell B312.out 3 rfl
        have kB34 := Box.cell B312.out 4 rfl
        have kB35 := Box.cell B312.out 5 rfl
        go_wp2_with fail
        refine (HJ3.out _).mono ?_
        rintro e w23 ⟨rfl, hb⟩
        have HB23 := Lib.hid (HB12.out.trans (hb.mono HB12.out.size))
        have B123 := Lib.hid (B112.out.on hb)
        have B223 := Lib.hid (B212.out.on hb)
        have B323 := Lib.hid (B312.out.on hb)
        have VP23 := Lib.hid (VP12.out.on hb)
        have BX23 := Lib.hid (BX12.out.on hb)
        have BY23 := Lib.hid (BY12.out.on hb)
        have VQ23 := Lib.hid (VQ12.out.on hb)
        have VR23 := Lib.hid (VR12.out.on hb)
        clear hb HB12 B112 B212 B312 VP12 BX12 BY12 VQ12 VR12 kBX0 kBX1 kBX2 kBX3 kBX4 kBX5 kB30 kB31 kB32 kB33 kB34 kB35
        go_upto_region 13 with fail
        obtain ⟨gu, hgu⟩ : ∃ gu, gu = w23.heap.size := ⟨_, rfl⟩
        obtain ⟨w24, hz0⟩ : ∃ wz, wz = w23.alloc (.cells #[.int .i64 sz, .string kz, .bool mz, .string bz, .bool nz, .string az] 27) := ⟨_, rfl⟩
        rw [← hgu, ← hz0]
        have hb : Below w23.heap.size w23 w24 := by rw [hz0]; exact ((Below.refl _ _).alloc (Nat.le_refl _) _)
        have BU24 := Lib.hid (show Box w24 gu 27 #[.int .i64 sz, .string kz, .bool mz, .string bz, .bool nz, .string az] from (by rw [hz0]; exact Box.at_ w23 _ _ hgu))
        have HGgu := Lib.hid (show w.heap.size ≤ gu from by rw [hgu]; exact HB23.out.size)
        have HN_gu_gx := Lib.hid (show gu ≠ gx from by have := BX23.out.lt; omega)
        have HN_gu_gy := Lib.hid (show gu ≠ gy from by have := BY23.out.lt; omega)
        have HB24 := Lib.hid (HB23.out.trans (hb.mono HB23.out.size))
        have B124 := Lib.hid (B123.out.on hb)
        have B224 := Lib.hid (B223.out.on hb)
        have B324 := Lib.hid (B323.out.on hb)
        have VP24 := Lib.hid (VP23.out.on hb)
        have BX24 := Lib.hid (BX23.out.on hb)
        have BY24 := Lib.hid (BY23.out.on hb)
        have VQ24 := Lib.hid (VQ23.out.on hb)
        have VR24 := Lib.hid (VR23.out.on hb)
        clear hb HB23 B123 B223 B323 VP23 BX23 BY23 VQ23 VR23 hgu  hz0
        have kB10 := Box.cell B124.out 0 rfl
        have kB11 := Box.cell B124.out 1 rfl
        have kB12 := Box.cell B124.out 2 rfl
        have kB13 := Box.cell B124.out 3 rfl
        have kB14 := Box.cell B124.out 4 rfl
        have kB15 := Box.cell B124.out 5 rfl
        have kBY0 := Box.cell BY24.out 0 rfl
        have kBY1 := Box.cell BY24.out 1 rfl
        have kBY2 := Box.cell BY24.out 2 rfl
        have kBY3 := Box.cell BY24.out 3 rfl
        have kBY4 := Box.cell BY24.out 4 rfl
        have kBY5 := Box.cell BY24.out 5 rfl
        go_wp2_with fail
        refine (HJ4.out _).mono ?_
        rintro e w25 ⟨rfl, hb⟩
        have HB25 := Lib.hid (HB24.out.trans (hb.mono HB24.out.size))
        have B125 := Lib.hid (B124.out.on hb)
        have B225 := Lib.hid (B224.out.on hb)
        have B325 := Lib.hid (B324.out.on hb)
        have VP25 := Lib.hid (VP24.out.on hb)
        have BX25 := Lib.hid (BX24.out.on hb)
        have BY25 := Lib.hid (BY24.out.on hb)
        have VQ25 := Lib.hid (VQ24.out.on hb)
        have VR25 := Lib.hid (VR24.out.on hb)
        have BU25 := Lib.hid (BU24.out.on hb)
        clear hb HB24 B124 B224 B324 VP24 BX24 BY24 VQ24 VR24 BU24 kB10 kB11 kB12 kB13 kB14 kB15 kBY0 kBY1 kBY2 kBY3 kBY4 kBY5
        go_upto_region 14 with fail
        obtain ⟨gv, hgv⟩ : ∃ gv, gv = w25.heap.size := ⟨_, rfl⟩
        obtain ⟨w26, hz0⟩ : ∃ wz, wz = w25.alloc (.cells #[.int .i64 sz, .string kz, .bool mz, .string bz, .bool nz, .string az] 27) := ⟨_, rfl⟩
        rw [← hgv, ← hz0]
        have hb : Below w25.heap.size w25 w26 := by rw [hz0]; exact ((Below.refl _ _).alloc (Nat.le_refl _) _)
        have BV26 := Lib.hid (show Box w26 gv 27 #[.int .i64 sz, .string kz, .bool mz, .string bz, .bool nz, .string az] from (by rw [hz0]; exact Box.at_ w25 _ _ hgv))
        have HGgv := Lib.hid (show w.heap.size ≤ gv from by rw [hgv]; exact HB25.out.size)
        have HN_gv_gx := Lib.hid (show gv ≠ gx from by have := BX25.out.lt; omega)
        have HN_gv_gy := Lib.hid (show gv ≠ gy from by have := BY25.out.lt; omega)
        have HN_gv_gu := Lib.hid (show gv ≠ gu from by have := BU25.out.lt; omega)
        have HB26 := Lib.hid (HB25.out.trans (hb.mono HB25.out.size))
        have B126 := Lib.hid (B125.out.on hb)
        have B226 := Lib.hid (B225.out.on hb)
        have B326 := Lib.hid (B325.out.on hb)
        have VP26 := Lib.hid (VP25.out.on hb)
        have BX26 := Lib.hid (BX25.out.on hb)
        have BY26 := Lib.hid (BY25.out.on hb)
        have VQ26 := Lib.hid (VQ25.out.on hb)
        have VR26 := Lib.hid (VR25.out.on hb)
        have BU26 := Lib.hid (BU25.out.on hb)
        clear hb HB25 B125 B225 B325 VP25 BX25 BY25 VQ25 VR25 BU25 hgv  hz0
        have kBU0 := Box.cell BU26.out 0 rfl
        have kBU1 := Box.cell BU26.out 1 rfl
        have kBU2 := Box.cell BU26.out 2 rfl
        have kBU3 := Box.cell BU26.out 3 rfl
        have kBU4 := Box.cell BU26.out 4 rfl
        have kBU5 := Box.cell BU26.out 5 rfl
        have kBV0 := Box.cell BV26.out 0 rfl
        have kBV1 := Box.cell BV26.out 1 rfl
        have kBV2 := Box.cell BV26.out 2 rfl
        have kBV3 := Box.cell BV26.out 3 rfl
        have kBV4 := Box.cell BV26.out 4 rfl
        have kBV5 := Box.cell BV26.out 5 rfl
        go_wp2_with fail
        refine (awake_true _).mono ?_
        rintro e w27 ⟨rfl, hb⟩
        have HB27 := Lib.hid (HB26.out.trans (hb.mono HB26.out.size))
        clear hb HB26 kBU0 kBU1 kBU2 kBU3 kBU4 kBU5 kBV0 kBV1 kBV2 kBV3 kBV4 kBV5
        go_wp2
        go_ret
        exact ⟨by simp, HB27.out⟩

end Go.Proofs.Ythhbkgeoigdjaaa
