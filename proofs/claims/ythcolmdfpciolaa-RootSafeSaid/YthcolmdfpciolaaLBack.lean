/- The walk of the law RootBack. -/
import Derived.Test.YthcolmdfpciolaaAwake
import Derived.Test.YthcolmdfpciolaaOpenR
import Derived.Test.YthcolmdfpciolaaInv
namespace Go.Proofs.Ythcolmdfpciolaa
open Go.RowKit

/-- What each slot of the line holds that tells whether a disk that could not be written to is the same. -/
def BackV (E D : Value) (S : List ByteArray) (V : List Wr) (t : Nat) (v : Value) (w : World) : Prop :=
  match t with
  | 28 => v = E
  | 29 => DV w v S V
  | 30 => v = D
  | 31 => DV w v S V
  | 32 => v = .bool true
  | 33 => v = .bool true
  | 34 => v = .bool true
  | 35 => v = .bool true
  | 4 => v = .bool true
  | _ => True
theorem BackV.on {E D : Value} {S : List ByteArray} {V : List Wr} {t : Nat} {v : Value} {w w' : World} (h : BackV E D S V t v w) (hb : Below w.heap.size w w') : BackV E D S V t v w' := by
  unfold BackV at *
  split at h <;> first | exact h | exact DV.on h hb

/-- The best one behind a write: it, or a greater one that stays. -/
theorem best_write {S : List ByteArray} {V : List Wr} {r : Rt} (h : rtOk S V r = true) : bestB S (V ++ rtW r) = true ∧ (bestR S (V ++ rtW r) = r ∨ (bestR S (V ++ rtW r) = readR S V (1 - r.g % 2) ∧ r.g < (readR S V (1 - r.g % 2)).g)) := by
  obtain ⟨h1, h2⟩ := read_here h
  obtain ⟨o1, o2⟩ := read_other h (1 - r.g % 2) (by omega)
  have hp : r.g % 2 = 0 ∨ r.g % 2 = 1 := by omega
  unfold bestB bestR
  rcases hp with hp | hp
  · rw [hp] at h1 h2 o1 o2 ⊢
    rw [show (1 : Int) - 0 = 1 from rfl] at o1 o2 ⊢
    rw [h1, h2, o1, o2]
    refine ⟨rfl, ?_⟩
    cases hb : readB S V 1 with
    | false => exact .inl rfl
    | true =>
      by_cases hg : r.g < (readR S V 1).g
      · exact .inr ⟨by rw [decide_eq_true hg]; rfl, hg⟩
      · exact .inl (by rw [decide_eq_false hg]; rfl)
  · rw [hp] at h1 h2 o1 o2 ⊢
    rw [show (1 : Int) - 1 = 0 from rfl] at o1 o2 ⊢
    rw [h1, h2, o1, o2]
    refine ⟨by cases readB S V 0 <;> rfl, ?_⟩
    cases hb : readB S V 0 with
    | false => exact .inl rfl
    | true =>
      have hq := (readR_right hb).2
      by_cases hg : (readR S V 0).g < r.g
      · exact .inl (by rw [decide_eq_true hg]; rfl)
      · exact .inr ⟨by rw [decide_eq_false hg]; rfl, by omega⟩

set_option maxHeartbeats 8000000 in
set_option maxRecDepth 100000 in
theorem back_walk (v0 : Value) (S : List ByteArray) (V : List Wr) (r : Rt) (w : World) (hv : DV w v0 S V) (hn : S.length ≤ maxLen) (hm : V.length ≤ maxLen) (h24 : V.length * 24 ≤ 140737488355328) :
    Calls Try.prog 5 #[v0, r.v] w fun e w' => e = .returned (.bool true) ∧ Below w.heap.size w w' := by
  unfold maxLen at hn hm
  obtain ⟨A, c, B, d, rfl, hA, hB⟩ := hv
  obtain ⟨x, y, z⟩ := r
  have H00 := Lib.hid (Holds.fresh (show DV w (.agg #[.slice A S.length c, .slice B V.length d]) S V from ⟨A, c, B, d, rfl, hA, hB⟩) (Below.refl w.heap.size w))
  have H0 := Lib.hid (H00.out.on ((Below.refl _ _).alloc (Nat.le_refl _) (.cells #[.int .i64 x, .int .i64 y, .int .i64 z] 27)))
  have HR0 := Lib.hid (show RBlk ((w.alloc (.cells #[.slice A S.length c, .slice B V.length d] 25)).alloc (.cells #[.int .i64 x, .int .i64 y, .int .i64 z] 27)) (w.heap.size + 1) ⟨x, y, z⟩ from Box.at_ (w.alloc _) _ _ (by simp))
  have H24 := Lib.hid h24
  simp only [Rt.v]
  generalize hsl : S.length = n at *
  generalize hvl : V.length = m at *
  have HSL := Lib.hid hsl
  have HVL := Lib.hid hvl
  clear hA hB hsl hvl h24 H00
  go_enter Try.func5, Try.ntmps5
  go_wp2_with fail
  refine (ref_dv H0.out.dv (by rw [HVL.out]; exact H24.out)).mono ?_
  rintro e w1 ⟨v1, rfl, hv1, hb1⟩
  have HR1 := Lib.hid (show RBlk w1 (w.heap.size + 1) ⟨x, y, z⟩ from Box.on HR0.out hb1)
  have H1 := Lib.hid (H0.out.on hb1)
  have hsm := small_dv hv1
  rw [HSL.out, HVL.out] at hsm
  clear hb1 hv1 H0 HR0
  go_wp2_with fail
  refine hsm.mono ?_
  clear hsm
  rintro e w2 ⟨rfl, hb2⟩
  have HR2 := Lib.hid (show RBlk w2 (w.heap.size + 1) ⟨x, y, z⟩ from Box.on HR1.out hb2)
  have H2 := Lib.hid (H1.out.on hb2)
  clear hb2 H1 HR1
  cases hsb : smallB n m with
  | false =>
    clear hsb
    go_wp2_with fail
    refine (awake_true _).mono ?_
    rintro e w9 ⟨rfl, hb9⟩
    go_wp2
    go_ret
    exact ⟨rfl, H2.out.below.trans (hb9.mono H2.out.below.size)⟩
  | true =>
  have hsm : n ≤ 100 ∧ m ≤ 60 := by unfold smallB at hsb; simpa using hsb
  obtain ⟨hn1, hm1⟩ := hsm
  clear hsb
  obtain ⟨k0, k1⟩ := DBlk.cells H2.out.blk
  have hz := Box.lt H2.out.blk
  obtain ⟨r0, r1, r2⟩ := RBlk.cells HR2.out
  have hzr := Box.lt HR2.out
  have hwr := rwrite_any ⟨x, y, z⟩ H2.out.dv (by rw [HSL.out]; omega) (by rw [HVL.out]; omega)
  simp only [Rt.v] at hwr
  cases hok : rtOk S V ⟨x, y, z⟩ with
  | false =>
    unfold wrE wrW at hwr
    rw [hok] at hwr
    clear hok
    go_wp2_with fail
    refine hwr.mono ?_
    clear hwr k0 k1 hz r0 r1 r2 hzr HR2
    rintro e w3 ⟨v3, rfl, ⟨A3, c3, B3, d3, rfl, hA3, hB3⟩, hb3⟩
    have hv3 : DV w3 _ S V := ⟨A3, c3, B3, d3, rfl, hA3, hB3⟩
    simp only [Bool.false_eq_true, if_false] at hv3 ⊢
    rw [HSL.out, HVL.out] at hv3 ⊢
    have H3 := Lib.hid (H2.out.on hb3)
    have hba : Below w3.heap.size w3 (w3.alloc (.cells #[.slice A3 n c3, .slice B3 m d3] 25)) := (Below.refl _ _).alloc (Nat.le_refl _) _
    have H4 := Lib.hid (H3.out.on hba)
    have HE4 := Lib.hid (Holds.fresh hv3 (Below.refl _ _))
    clear hb3 hba H2 hv3 hA3 hB3
    go_wp2
    generalize hw4 : w3.alloc (.cells #[.slice A3 n c3, .slice B3 m d3] 25) = w4 at *
    clear hw4
    have HC1 := Lib.hid (fun (wx : World) (h : Below w4.heap.size w4 wx) => DBlk.cells (Box.on H4.out.blk h))
    have HC2 := Lib.hid (fun (wx : World) (h : Below w4.heap.size w4 wx) => DBlk.cells (Box.on HE4.out.blk h))
    have HREF := Lib.hid (fun (wx : World) (h : Below w4.heap.size w4 wx) => ref_dv (H4.out.dv.on h) (by rw [HVL.out]; exact H24.out))
    have HREF2 := Lib.hid (fun (wx : World) (h : Below w4.heap.size w4 wx) => ref_dv (HE4.out.dv.on h) (by rw [HVL.out]; exact H24.out))
    have HSAME := Lib.hid (fun (wx : World) (x y : Value) (hx : DV wx x S V) (hy : DV wx y S V) => same2_eq x y S V wx hx hy (by rw [HSL.out]; omega) (by rw [HVL.out]; omega))
    refine wp_region_inv [28, 29, 30, 31, 32, 33, 34, 35, 4] (by kernel_rfl) (by kernel_rfl) (fun w' => Below w4.heap.size w4 w') (fun w1 w2 => Below w1.heap.size w1 w2) (BackV (.agg #[.slice A3 n c3, .slice B3 m d3]) (.agg #[.slice A n c, .slice B m d]) S V) (by kernel_rfl) (fun w1 w2 h1 h2 => h2.trans (h1.mono h2.size)) (fun t v w1 w2 h1 h2 => h2.on h1) (Below.refl _ _).drew (steps_of ?_) ?_
    · skip
      refine Steps1.cons (fun ax wx hS hG => ?_) (Steps1.cons (fun ax wx hS hG => ?_) (Steps1.cons (fun ax wx hS hG => ?_) (Steps1.cons (fun ax wx hS hG => ?_) (Steps1.cons (fun ax wx hS hG => ?_) (Steps1.cons (fun ax wx hS hG => ?_) (Steps1.cons (fun ax wx hS hG => ?_) (Steps1.cons (fun ax wx hS hG => ?_) (Steps1.cons (fun ax wx hS hG => ?_) Steps1.nil))))))))
      · have qo5 := hG.old 5 (by kernel_rfl) (by kernel_rfl)
        obtain ⟨z0, z1⟩ := HC2.out wx hS
        refine step_value (v := .agg #[.slice A3 n c3, .slice B3 m d3]) (w' := wx) rfl rfl ?_ (Below.refl _ _) (fun d hd => by cases hd; exact rfl)
        go_simp
      · obtain ⟨_, q28, rfl⟩ := hG.new 28 (by kernel_rfl) (by kernel_rfl)
        refine step_call (w1 := wx) (f := 8) (args := #[.agg #[.slice A3 n c3, .slice B3 m d3]]) rfl rfl ?_ ((HREF2.out wx hS).mono ?_)
        · skip
          go_simp
        · rintro e w' ⟨v', rfl, hv, hq⟩
          exact ⟨_, rfl, hq, fun d hd => by cases hd; exact hv⟩
      · have qo2 := hG.old 2 (by kernel_rfl) (by kernel_rfl)
        obtain ⟨z0, z1⟩ := HC1.out wx hS
        refine step_value (v := .agg #[.slice A n c, .slice B m d]) (w' := wx) rfl rfl ?_ (Below.refl _ _) (fun d hd => by cases hd; exact rfl)
        go_simp
      · obtain ⟨_, q30, rfl⟩ := hG.new 30 (by kernel_rfl) (by kernel_rfl)
        refine step_call (w1 := wx) (f := 8) (args := #[.agg #[.slice A n c, .slice B m d]]) rfl rfl ?_ ((HREF.out wx hS).mono ?_)
        · skip
          go_simp
        · rintro e w' ⟨v', rfl, hv, hq⟩
          exact ⟨_, rfl, hq, fun d hd => by cases hd; exact hv⟩
      · obtain ⟨v29, q29, h29⟩ := hG.new 29 (by kernel_rfl) (by kernel_rfl)
        have p29 : DV wx v29 S V := h29
        obtain ⟨v31, q31, h31⟩ := hG.new 31 (by kernel_rfl) (by kernel_rfl)
        have p31 : DV wx v31 S V := h31
        refine step_call (w1 := wx) (f := 19) (args := #[v29, v31]) rfl rfl ?_ ((HSAME.out wx v29 v31 p29 p31).mono ?_)
        · clear h29 p29 h31 p31
          go_simp
        · rintro e w' ⟨rfl, hq⟩
          exact ⟨_, rfl, hq, fun d hd => by cases hd; exact rfl⟩
      · obtain ⟨_, q32, rfl⟩ := hG.new 32 (by kernel_rfl) (by kernel_rfl)
        refine step_value (v := .bool true) (w' := wx) rfl rfl ?_ (Below.refl _ _) (fun d hd => by cases hd; exact rfl)
        go_simp
      · obtain ⟨_, q33, rfl⟩ := hG.new 33 (by kernel_rfl) (by kernel_rfl)
        refine step_call (w1 := wx) (f := 10) (args := #[]) rfl (by simp [Region.wanted, yielded, q33]) ?_ ((awake_true wx).mono ?_)
        · skip
          go_simp
        · rintro e w' ⟨rfl, hq⟩
          exact ⟨_, rfl, hq, fun d hd => by cases hd; exact rfl⟩
      · obtain ⟨_, q33, rfl⟩ := hG.new 33 (by kernel_rfl) (by kernel_rfl)
        obtain ⟨_, q34, rfl⟩ := hG.new 34 (by kernel_rfl) (by kernel_rfl)
        refine step_value (v := .bool true) (w' := wx) rfl rfl ?_ (Below.refl _ _) (fun d hd => by cases hd; exact rfl)
        go_simp
      · obtain ⟨_, q35, rfl⟩ := hG.new 35 (by kernel_rfl) (by kernel_rfl)
        refine step_value (v := .bool true) (w' := wx) rfl rfl ?_ (Below.refl _ _) (fun d hd => by cases hd; exact rfl)
        go_simp
    intro f w5 hS5 hV5
    have e4 : f 4 = .bool true := hV5 4 (by decide)
    simp only [puts, Act.put, List.setIfInBounds_toArray, List.set_cons_succ, List.set_cons_zero]
    clear hV5
    rw [e4]
    go_wp2
    go_ret
    exact ⟨rfl, H4.out.below.trans (hS5.mono H4.out.below.size)⟩
  | true =>
  unfold wrE wrW at hwr
  rw [hok] at hwr
  simp only [if_true] at hwr
  have hR : rtB ⟨x, y, z⟩ = true := by unfold rtOk at hok; rw [Bool.and_eq_true] at hok; exact hok.1
  obtain ⟨⟨hx0, hx1⟩, _⟩ := rt_parts hR
  simp only at hx0 hx1
  obtain ⟨k, rfl⟩ := Int.eq_ofNat_of_zero_le hx0
  have hrd := read_here hok
  have hro := read_other hok (1 - (k : Int) % 2) (by simp only; omega)
  have hbw := best_write hok
  simp only at hrd hro hbw
  have hml : (V ++ rtW ⟨k, y, z⟩).length = m + 1 := by rw [List.length_append, rtW_len, HVL.out]
  generalize V ++ rtW ⟨(k : Int), y, z⟩ = W1 at *
  have HML := Lib.hid hml
  have HRD := Lib.hid hrd
  have HRO := Lib.hid hro
  clear hok hR hrd hml hro
  go_wp2_with fail
  refine hwr.mono ?_
  clear hwr k0 k1 hz r0 r1 r2 hzr
  rintro e w3 ⟨v3, rfl, ⟨A3, c3, B3, d3, rfl, hA3, hB3⟩, hb3⟩
  have hv3 : DV w3 _ S W1 := ⟨A3, c3, B3, d3, rfl, hA3, hB3⟩
  rw [HSL.out, HML.out] at hv3 ⊢
  have hba : Below w2.heap.size w2 (w3.alloc (.cells #[.slice A3 n c3, .slice B3 (m + 1) d3] 25)) := hb3.alloc hb3.size _
  have H4 := Lib.hid (H2.out.on hba)
  have HR4 := Lib.hid (show RBlk _ (w.heap.size + 1) ⟨k, y, z⟩ from Box.on HR2.out hba)
  have HE4 := Lib.hid (Holds.fresh hv3 (H2.out.below.trans (hb3.mono H2.out.below.size)))
  clear hb3 hba hv3 hA3 hB3 H2 HR2
  -- the sector of it
  have hr := rread_any (a := (k : Int) % 2) HE4.out.dv (by rw [HSL.out]; omega) (by rw [HML.out]; omega)
  rw [HRD.out.1, HRD.out.2] at hr
  simp only [Rt.v] at hr
  obtain ⟨r0, r1, r2⟩ := RBlk.cells HR4.out
  have hzr := Box.lt HR4.out
  go_wp2_with fail
  refine hr.mono ?_
  clear hr r0 r1 r2 hzr
  rintro e w5 ⟨rfl, hb5⟩
  have hba : Below _ _ (w5.alloc (.cells #[.int .i64 k, .int .i64 y, .int .i64 z] 27)) := hb5.alloc hb5.size _
  have H5 := Lib.hid (H4.out.on hba)
  have HR5 := Lib.hid (show RBlk _ (w.heap.size + 1) ⟨k, y, z⟩ from Box.on HR4.out hba)
  have HE5 := Lib.hid (HE4.out.on hba)
  have HX5 := Lib.hid (show RBlk (w5.alloc (.cells #[.int .i64 k, .int .i64 y, .int .i64 z] 27)) w5.heap.size ⟨k, y, z⟩ from Box.fresh _ _ _)
  clear hb5 hba H4 HR4 HE4
  -- the other sector, behind it and ahead of it
  obtain ⟨q, hq⟩ : ∃ q, q = readR S V (1 - (k : Int) % 2) := ⟨_, rfl⟩
  obtain ⟨bq, hbq⟩ : ∃ bq, bq = readB S V (1 - (k : Int) % 2) := ⟨_, rfl⟩
  have hr := rread_any (a := 1 - (k : Int) % 2) HE5.out.dv (by rw [HSL.out]; omega) (by rw [HML.out]; omega)
  rw [HRO.out.1, HRO.out.2, ← hq, ← hbq] at hr
  rw [← hq] at hbw
  have HQ := Lib.hid (fun (wx : World) (v : Value) (h : DV wx v S V) => show Calls Try.prog 13 #[v, .int .i64 (1 - (k : Int) % 2)] wx fun e w' => e = .returned (.tuple #[q.v, .bool bq]) ∧ Below wx.heap.size wx w' by
    rw [hq, hbq]
    exact rread_any h (by rw [HSL.out]; omega) (by rw [HVL.out]; omega))
  have HBW := Lib.hid hbw
  clear hq hbq hbw
  obtain ⟨qx, qy, qz⟩ := q
  simp only [Rt.v] at hr HQ
  obtain ⟨r0, r1, r2⟩ := RBlk.cells HR5.out
  have hzr := Box.lt HR5.out
  obtain ⟨k0, k1⟩ := DBlk.cells HE5.out.blk
  have hz := Box.lt HE5.out.blk
  go_wp2_with fail
  refine hr.mono ?_
  clear hr r0 r1 r2 hzr k0 k1 hz
  rintro e w6 ⟨rfl, hb6⟩
  have hba : Below _ _ (w6.alloc (.cells #[.int .i64 qx, .int .i64 qy, .int .i64 qz] 27)) := hb6.alloc hb6.size _
  have H6 := Lib.hid (H5.out.on hba)
  have HR6 := Lib.hid (show RBlk _ (w.heap.size + 1) ⟨k, y, z⟩ from Box.on HR5.out hba)
  have HE6 := Lib.hid (HE5.out.on hba)
  have HX6 := Lib.hid (show RBlk _ w5.heap.size ⟨k, y, z⟩ from Box.on HX5.out hba)
  have HY6 := Lib.hid (show RBlk (w6.alloc (.cells #[.int .i64 qx, .int .i64 qy, .int .i64 qz] 27)) w6.heap.size ⟨qx, qy, qz⟩ from Box.fresh _ _ _)
  clear hb6 hba H5 HR5 HE5 HX5
  have hr := HQ.out _ _ H6.out.dv
  obtain ⟨r0, r1, r2⟩ := RBlk.cells HR6.out
  have hzr := Box.lt HR6.out
  obtain ⟨k0, k1⟩ := DBlk.cells H6.out.blk
  have hz := Box.lt H6.out.blk
  go_wp2_with fail
  refine hr.mono ?_
  clear hr r0 r1 r2 hzr k0 k1 hz
  rintro e w7 ⟨rfl, hb7⟩
  have hba : Below _ _ (w7.alloc (.cells #[.int .i64 qx, .int .i64 qy, .int .i64 qz] 27)) := hb7.alloc hb7.size _
  have HR7 := Lib.hid (show RBlk _ (w.heap.size + 1) ⟨k, y, z⟩ from Box.on HR6.out hba)
  have HE7 := Lib.hid (HE6.out.on hba)
  have HX7 := Lib.hid (show RBlk _ w5.heap.size ⟨k, y, z⟩ from Box.on HX6.out hba)
  have HY7 := Lib.hid (show RBlk _ w6.heap.size ⟨qx, qy, qz⟩ from Box.on HY6.out hba)
  have HZ7 := Lib.hid (show RBlk (w7.alloc (.cells #[.int .i64 qx, .int .i64 qy, .int .i64 qz] 27)) w7.heap.size ⟨qx, qy, qz⟩ from Box.fresh _ _ _)
  clear hb7 hba H6 HR6 HE6 HX6 HY6 HQ
  -- the best one
  have hr := rbest_any HE7.out.dv (by rw [HSL.out]; omega) (by rw [HML.out]; omega)
  unfold bestE at hr
  rw [HBW.out.1] at hr
  simp only [if_true] at hr
  obtain ⟨b, hb⟩ : ∃ b, b = bestR S W1 := ⟨_, rfl⟩
  have hbc := HBW.out.2
  rw [← hb] at hr hbc
  clear hb HBW HRD HRO
  have hbb : (bq == bq) = true := by cases bq <;> rfl
  obtain ⟨k0, k1⟩ := DBlk.cells HE7.out.blk
  have hz := Box.lt HE7.out.blk
  rcases hbc with rfl | ⟨rfl, hlt⟩
  · simp only [Rt.v] at hr
    go_wp2_with fail
    refine hr.mono ?_
    clear hr k0 k1 hz
    rintro e w8 ⟨rfl, hb8⟩
    have hba : Below _ _ (w8.alloc (.cells #[.int .i64 k, .int .i64 y, .int .i64 z] 27)) := hb8.alloc hb8.size _
    have HR8 := Lib.hid (show RBlk _ (w.heap.size + 1) ⟨k, y, z⟩ from Box.on HR7.out hba)
    have HE8 := Lib.hid (HE7.out.on hba)
    have HX8 := Lib.hid (show RBlk _ w5.heap.size ⟨k, y, z⟩ from Box.on HX7.out hba)
    have HY8 := Lib.hid (show RBlk _ w6.heap.size ⟨qx, qy, qz⟩ from Box.on HY7.out hba)
    have HZ8 := Lib.hid (show RBlk _ w7.heap.size ⟨qx, qy, qz⟩ from Box.on HZ7.out hba)
    have HW8 := Lib.hid (show RBlk (w8.alloc (.cells #[.int .i64 k, .int .i64 y, .int .i64 z] 27)) w8.heap.size ⟨k, y, z⟩ from Box.fresh _ _ _)
    clear hb8 hba HR7 HE7 HX7 HY7 HZ7
    obtain ⟨a0, a1, a2⟩ := RBlk.cells HR8.out
    have hza := Box.lt HR8.out
    obtain ⟨b0, b1, b2⟩ := RBlk.cells HX8.out
    have hzb := Box.lt HX8.out
    obtain ⟨g0, g1, g2⟩ := RBlk.cells HY8.out
    have hzg := Box.lt HY8.out
    obtain ⟨h0, h1, h2⟩ := RBlk.cells HZ8.out
    have hzh := Box.lt HZ8.out
    obtain ⟨j0, j1, j2⟩ := RBlk.cells HW8.out
    have hzj := Box.lt HW8.out
    go_wp2_with fail
    refine (awake_true _).mono ?_
    rintro e w9 ⟨rfl, hb9⟩
    go_wp2
    go_ret
    exact ⟨rfl, HE8.out.below.trans (hb9.mono HE8.out.below.size)⟩
  · simp only [Rt.v] at hr
    go_wp2_with fail
    refine hr.mono ?_
    clear hr k0 k1 hz
    rintro e w8 ⟨rfl, hb8⟩
    have hba : Below _ _ (w8.alloc (.cells #[.int .i64 qx, .int .i64 qy, .int .i64 qz] 27)) := hb8.alloc hb8.size _
    have HR8 := Lib.hid (show RBlk _ (w.heap.size + 1) ⟨k, y, z⟩ from Box.on HR7.out hba)
    have HE8 := Lib.hid (HE7.out.on hba)
    have HX8 := Lib.hid (show RBlk _ w5.heap.size ⟨k, y, z⟩ from Box.on HX7.out hba)
    have HY8 := Lib.hid (show RBlk _ w6.heap.size ⟨qx, qy, qz⟩ from Box.on HY7.out hba)
    have HZ8 := Lib.hid (show RBlk _ w7.heap.size ⟨qx, qy, qz⟩ from Box.on HZ7.out hba)
    have HW8 := Lib.hid (show RBlk (w8.alloc (.cells #[.int .i64 qx, .int .i64 qy, .int .i64 qz] 27)) w8.heap.size ⟨qx, qy, qz⟩ from Box.fresh _ _ _)
    clear hb8 hba HR7 HE7 HX7 HY7 HZ7
    obtain ⟨a0, a1, a2⟩ := RBlk.cells HR8.out
    have hza := Box.lt HR8.out
    obtain ⟨b0, b1, b2⟩ := RBlk.cells HX8.out
    have hzb := Box.lt HX8.out
    obtain ⟨g0, g1, g2⟩ := RBlk.cells HY8.out
    have hzg := Box.lt HY8.out
    obtain ⟨h0, h1, h2⟩ := RBlk.cells HZ8.out
    have hzh := Box.lt HZ8.out
    obtain ⟨j0, j1, j2⟩ := RBlk.cells HW8.out
    have hzj := Box.lt HW8.out
    have hne : (qx == (k : Int)) = false := by rw [beq_eq_false_iff_ne]; omega
    have hge : decide ((k : Int) ≤ qx) = true := decide_eq_true (by omega)
    go_wp2_with fail
    refine (awake_true _).mono ?_
    rintro e w9 ⟨rfl, hb9⟩
    go_wp2
    go_ret
    exact ⟨rfl, HE8.out.below.trans (hb9.mono HE8.out.below.size)⟩

end Go.Proofs.Ythcolmdfpciolaa
