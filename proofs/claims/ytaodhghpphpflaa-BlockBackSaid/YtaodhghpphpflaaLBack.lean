/- The walk of the law BlockBack. -/
import Derived.Test.YtaodhghpphpflaaFill
import Derived.Test.YtaodhghpphpflaaInv
namespace Go.Proofs.Ytaodhghpphpflaa
open Go.RowKit

/-- Put, whatever comes of it. -/
def putsB (n : Nat) (a : Int) (l : List ByteArray) : Bool := fillB l && hasB n a l.length
def putW (n : Nat) (W : List Wr) (a : Int) (l : List ByteArray) : List Wr := if putsB n a l then W ++ putL a l else W
def putE (n : Nat) (a : Int) (l : List ByteArray) : Int := if putsB n a l then 0 else 1
theorem put_dv {v t : Value} {S : List ByteArray} {W : List Wr} {a : Int} {l : List ByteArray} {w : World} (h : DV w v S W) (ht : SV w t l) (hm : W.length ≤ 100000) (hl : l.length ≤ 100000) (hR : rightB S W = true) :
    Calls Try.prog 16 #[v, .int .i64 a, t] w fun e w' => ∃ v', e = .returned (.tuple #[v', .int .i64 (putE S.length a l)]) ∧ DV w' v' S (putW S.length W a l) ∧ Below w.heap.size w w' := by
  unfold putE putW putsB
  cases hok : (fillB l && hasB S.length a l.length) with
  | true =>
    rw [Bool.and_eq_true] at hok
    exact put_dv_ok h ht hm hl hR hok.1 hok.2
  | false =>
    rw [Bool.and_eq_false_iff] at hok
    refine (put_dv_bad h ht (by omega) (by omega) hR hok).mono ?_
    rintro e w' ⟨he, hb⟩
    exact ⟨v, he, h.on hb, hb⟩
theorem putW_right {S : List ByteArray} {W : List Wr} {a : Int} {l : List ByteArray} (hR : rightB S W = true) : rightB S (putW S.length W a l) = true := by
  unfold putW putsB
  split
  · rename_i h
    rw [Bool.and_eq_true] at h
    exact put_right hR h.1 h.2
  · exact hR
theorem putW_len (n : Nat) (W : List Wr) (a : Int) (l : List ByteArray) : (putW n W a l).length ≤ W.length + l.length := by
  unfold putW
  split
  · rw [List.length_append, put_len]; omega
  · omega

theorem Lays.putW {S : List ByteArray} {W : List Wr} {a : Nat} {t : ByteArray} (hl : Lays S W a t) (b : Nat) (l : List ByteArray) (hd : b + l.length ≤ a ∨ a + needN t.size ≤ b) : Lays S (putW S.length W b l) a t := by
  unfold Go.Proofs.Ytaodhghpphpflaa.putW
  split
  · rename_i h
    unfold putsB hasB at h
    simp only [Bool.and_eq_true, decide_eq_true_eq] at h
    exact hl.apart b l (by omega) hd
  · exact hl
theorem has_parts {n : Nat} {a : Int} {k : Nat} (h : hasB n a k = true) : ∃ b : Nat, a = b ∧ b + k ≤ n := by
  unfold hasB at h
  simp only [decide_eq_true_eq] at h
  exact ⟨a.toNat, by omega, by omega⟩

/-- What each slot of the line holds that tells whether a disk that could not be written to is the same. -/
def BackV (D : Value) (S : List ByteArray) (V : List Wr) (t : Nat) (v : Value) (w : World) : Prop :=
  match t with
  | 46 => v = D
  | 47 => DV w v S V
  | 48 => v = D
  | 49 => DV w v S V
  | 50 => v = .bool true
  | 51 => v = .bool true
  | 52 => v = .bool true
  | 53 => v = .bool true
  | 10 => v = .bool true
  | _ => True
theorem BackV.on {D : Value} {S : List ByteArray} {V : List Wr} {t : Nat} {v : Value} {w w' : World} (h : BackV D S V t v w) (hb : Below w.heap.size w w') : BackV D S V t v w' := by
  unfold BackV at *
  split at h <;> first | exact h | exact DV.on h hb

set_option maxHeartbeats 8000000 in
set_option maxRecDepth 100000 in
theorem back_walk (v0 : Value) (S : List ByteArray) (V : List Wr) (a : Int) (t : ByteArray) (o : Int) (t0 : Value) (l : List ByteArray) (w : World) (hv : DV w v0 S V) (hsv : SV w t0 l) (hn : S.length ≤ maxLen) (hm : V.length ≤ maxLen) (h24 : V.length * 24 ≤ 140737488355328) (ht : t.size ≤ maxLen) (hq : l.length ≤ maxLen) :
    Calls Try.prog 3 #[v0, .int .i64 a, .string t, .int .i64 o, t0] w fun e w' => e = .returned (.bool true) ∧ Below w.heap.size w w' := by
  unfold maxLen at hn hm hq ht
  obtain ⟨A, c, B, d, rfl, hA, hB⟩ := hv
  obtain ⟨T, tc, rfl, hT⟩ := hsv
  have hb0 : Below w.heap.size w (w.alloc (.cells #[.slice A S.length c, .slice B V.length d] 25)) := (Below.refl _ _).alloc (Nat.le_refl _) _
  have HT := Lib.hid ((show SV w (.slice T l.length tc) l from ⟨T, tc, rfl, hT⟩).on hb0)
  have H0 := Lib.hid (Holds.fresh (show DV w (.agg #[.slice A S.length c, .slice B V.length d]) S V from ⟨A, c, B, d, rfl, hA, hB⟩) (Below.refl w.heap.size w))
  have H24 := Lib.hid h24
  generalize hsl : S.length = n at *
  generalize hvl : V.length = m at *
  generalize hll : l.length = q at *
  have HSL := Lib.hid hsl
  have HVL := Lib.hid hvl
  have HLL := Lib.hid hll
  clear hA hB hT hb0 hsl hvl hll h24
  go_enter Try.func3, Try.ntmps3
  go_wp2_with fail
  refine (ref_dv H0.out.dv (by rw [HVL.out]; exact H24.out)).mono ?_
  rintro e w1 ⟨v1, rfl, hv1, hb1⟩
  have HT := Lib.hid (HT.out.on hb1)
  have H1 := Lib.hid (H0.out.on hb1)
  have hsm := small_dv hv1
  rw [HSL.out, HVL.out] at hsm
  clear hb1 hv1 H0
  go_wp2_with fail
  refine hsm.mono ?_
  clear hsm
  rintro e w2 ⟨rfl, hb2⟩
  have HT := Lib.hid (HT.out.on hb2)
  have H2 := Lib.hid (H1.out.on hb2)
  clear hb2 H1
  cases hsb : smallB n m with
  | false =>
    clear hsb
    go_wp2_with fail
    refine (awake_true _).mono ?_
    rintro e w9 ⟨rfl, hb9⟩
    go_wp2
    go_ret
    exact ⟨rfl, H2.out.below.trans (hb9.mono H2.out.below.size)⟩
  | true =>
  have hsm : n ≤ 100 ∧ m ≤ 60 := by unfold smallB at hsb; simpa using hsb
  obtain ⟨hn1, hm1⟩ := hsm
  clear hsb
  by_cases ht1 : 2000 < t.size
  · have ht2 : decide ((2000 : Int) < t.size) = true := decide_eq_true (by omega)
    go_wp2_with fail
    refine (awake_true _).mono ?_
    rintro e w9 ⟨rfl, hb9⟩
    go_wp2
    go_ret
    exact ⟨rfl, H2.out.below.trans (hb9.mono H2.out.below.size)⟩
  have ht2 : decide ((2000 : Int) < t.size) = false := decide_eq_false (by omega)
  by_cases hq1 : 30 < q
  · have hq2 : decide ((30 : Int) < q) = true := decide_eq_true (by omega)
    go_wp2_with fail
    refine (awake_true _).mono ?_
    rintro e w9 ⟨rfl, hb9⟩
    go_wp2
    go_ret
    exact ⟨rfl, H2.out.below.trans (hb9.mono H2.out.below.size)⟩
  have hq2 : decide ((30 : Int) < q) = false := decide_eq_false (by omega)
  obtain ⟨k0, k1⟩ := DBlk.cells H2.out.blk
  have hz := Box.lt H2.out.blk
  have HZt := Lib.hid (show t.size ≤ 65535 by omega)
  cases hok : (rightB S V && hasB n a (needN t.size)) with
  | false =>
    have hbad : rightB S V = false ∨ hasB S.length a (needN t.size) = false := by
      rw [HSL.out]
      rwa [Bool.and_eq_false_iff] at hok
    have hwr := write_bad H2.out.dv (by rw [HSL.out]; omega) (by rw [HVL.out]; omega) HZt.out hbad
    clear hok hbad
    go_wp2_with fail
    refine hwr.mono ?_
    clear hwr k0 k1 hz
    rintro e w3 ⟨rfl, hb3⟩
    have H3 := Lib.hid (H2.out.on hb3)
    have hba : Below w3.heap.size w3 (w3.alloc (.cells #[.slice A n c, .slice B m d] 25)) := (Below.refl _ _).alloc (Nat.le_refl _) _
    have H4 := Lib.hid (H3.out.on hba)
    have HE4 := Lib.hid (show DBlk (w3.alloc (.cells #[.slice A n c, .slice B m d] 25)) w3.heap.size A n c B m d from Box.fresh _ _ _)
    clear hb3 hba H2
    go_wp2
    generalize hw4 : w3.alloc (.cells #[.slice A n c, .slice B m d] 25) = w4 at *
    clear hw4
    have HC1 := Lib.hid (fun (wx : World) (h : Below w4.heap.size w4 wx) => DBlk.cells (Box.on H4.out.blk h))
    have HC2 := Lib.hid (fun (wx : World) (h : Below w4.heap.size w4 wx) => DBlk.cells (Box.on HE4.out h))
    have HREF := Lib.hid (fun (wx : World) (h : Below w4.heap.size w4 wx) => ref_dv (H4.out.dv.on h) (by rw [HVL.out]; exact H24.out))
    have HSAME := Lib.hid (fun (wx : World) (x y : Value) (hx : DV wx x S V) (hy : DV wx y S V) => same2_eq x y S V wx hx hy (by rw [HSL.out]; omega) (by rw [HVL.out]; omega))
    refine wp_region_inv [46, 47, 48, 49, 50, 51, 52, 53, 10] (by kernel_rfl) (by kernel_rfl) (fun w' => Below w4.heap.size w4 w') (fun w1 w2 => Below w1.heap.size w1 w2) (BackV (.agg #[.slice A n c, .slice B m d]) S V) (by kernel_rfl) (fun w1 w2 h1 h2 => h2.trans (h1.mono h2.size)) (fun t v w1 w2 h1 h2 => h2.on h1) (Below.refl _ _).drew (steps_of ?_) ?_
    · skip
      refine Steps1.cons (fun ax wx hS hG => ?_) (Steps1.cons (fun ax wx hS hG => ?_) (Steps1.cons (fun ax wx hS hG => ?_) (Steps1.cons (fun ax wx hS hG => ?_) (Steps1.cons (fun ax wx hS hG => ?_) (Steps1.cons (fun ax wx hS hG => ?_) (Steps1.cons (fun ax wx hS hG => ?_) (Steps1.cons (fun ax wx hS hG => ?_) (Steps1.cons (fun ax wx hS hG => ?_) Steps1.nil))))))))
      · have q11 := hG.old 11 (by kernel_rfl) (by kernel_rfl)
        obtain ⟨z0, z1⟩ := HC2.out wx hS
        refine step_value (v := .agg #[.slice A n c, .slice B m d]) (w' := wx) rfl rfl ?_ (Below.refl _ _) (fun d hd => by cases hd; exact rfl)
        go_simp
      · obtain ⟨_, q46, rfl⟩ := hG.new 46 (by kernel_rfl) (by kernel_rfl)
        refine step_call (w1 := wx) (f := 9) (args := #[.agg #[.slice A n c, .slice B m d]]) rfl rfl ?_ ((HREF.out wx hS).mono ?_)
        · skip
          go_simp
        · rintro e w' ⟨v', rfl, hv, hq⟩
          exact ⟨_, rfl, hq, fun d hd => by cases hd; exact hv⟩
      · have q5 := hG.old 5 (by kernel_rfl) (by kernel_rfl)
        obtain ⟨z0, z1⟩ := HC1.out wx hS
        refine step_value (v := .agg #[.slice A n c, .slice B m d]) (w' := wx) rfl rfl ?_ (Below.refl _ _) (fun d hd => by cases hd; exact rfl)
        go_simp
      · obtain ⟨_, q48, rfl⟩ := hG.new 48 (by kernel_rfl) (by kernel_rfl)
        refine step_call (w1 := wx) (f := 9) (args := #[.agg #[.slice A n c, .slice B m d]]) rfl rfl ?_ ((HREF.out wx hS).mono ?_)
        · skip
          go_simp
        · rintro e w' ⟨v', rfl, hv, hq⟩
          exact ⟨_, rfl, hq, fun d hd => by cases hd; exact hv⟩
      · obtain ⟨v47, q47, h47⟩ := hG.new 47 (by kernel_rfl) (by kernel_rfl)
        have p47 : DV wx v47 S V := h47
        obtain ⟨v49, q49, h49⟩ := hG.new 49 (by kernel_rfl) (by kernel_rfl)
        have p49 : DV wx v49 S V := h49
        refine step_call (w1 := wx) (f := 12) (args := #[v47, v49]) rfl rfl ?_ ((HSAME.out wx v47 v49 p47 p49).mono ?_)
        · clear h47 p47 h49 p49
          go_simp
        · rintro e w' ⟨rfl, hq⟩
          exact ⟨_, rfl, hq, fun d hd => by cases hd; exact rfl⟩
      · obtain ⟨_, q50, rfl⟩ := hG.new 50 (by kernel_rfl) (by kernel_rfl)
        refine step_value (v := .bool true) (w' := wx) rfl rfl ?_ (Below.refl _ _) (fun d hd => by cases hd; exact rfl)
        go_simp
      · obtain ⟨_, q51, rfl⟩ := hG.new 51 (by kernel_rfl) (by kernel_rfl)
        refine step_call (w1 := wx) (f := 10) (args := #[]) rfl (by simp [Region.wanted, yielded, q51]) ?_ ((awake_true wx).mono ?_)
        · skip
          go_simp
        · rintro e w' ⟨rfl, hq⟩
          exact ⟨_, rfl, hq, fun d hd => by cases hd; exact rfl⟩
      · obtain ⟨_, q51, rfl⟩ := hG.new 51 (by kernel_rfl) (by kernel_rfl)
        obtain ⟨_, q52, rfl⟩ := hG.new 52 (by kernel_rfl) (by kernel_rfl)
        refine step_value (v := .bool true) (w' := wx) rfl rfl ?_ (Below.refl _ _) (fun d hd => by cases hd; exact rfl)
        go_simp
      · obtain ⟨_, q53, rfl⟩ := hG.new 53 (by kernel_rfl) (by kernel_rfl)
        refine step_value (v := .bool true) (w' := wx) rfl rfl ?_ (Below.refl _ _) (fun d hd => by cases hd; exact rfl)
        go_simp
    intro f w5 hS5 hV5
    have e10 : f 10 = .bool true := hV5 10 (by decide)
    simp only [puts, Act.put, List.setIfInBounds_toArray, List.set_cons_succ, List.set_cons_zero]
    clear hV5
    rw [e10]
    go_wp2
    go_ret
    exact ⟨rfl, H4.out.below.trans (hS5.mono H4.out.below.size)⟩
  | true =>
  rw [Bool.and_eq_true] at hok
  obtain ⟨hR, hh⟩ := hok
  have HR := Lib.hid hR
  obtain ⟨b, rfl, hbn⟩ := has_parts hh
  clear hR hh
  have hwr := write_nat (a := b) (ai := b) (t := t) rfl H2.out.dv (by rw [HVL.out]; omega) HZt.out HR.out (by rw [HSL.out]; exact hbn)
  obtain ⟨W1, hW1⟩ : ∃ W1, W1 = V ++ putL (b : Int) (secsL t.data.toList) := ⟨_, rfl⟩
  have HR1 := Lib.hid (show rightB S W1 = true by rw [hW1]; exact right_write HR.out (by rw [HSL.out]; exact hbn))
  have HL1 := Lib.hid (show Lays S W1 b t by rw [hW1]; exact Lays.put S V b t (by rw [HSL.out]; exact hbn))
  have hl1 : W1.length = m + needN t.size := by rw [hW1, len_write, HVL.out]
  rw [← hW1] at hwr
  have hroom := need_room t.size
  have HND := Lib.hid (fun wx => need_in t.size wx HZt.out)
  obtain ⟨k, hk⟩ : ∃ k, k = needN t.size := ⟨_, rfl⟩
  rw [← hk] at hl1 hroom hbn HND
  have HK := Lib.hid hk
  have HWL := Lib.hid hl1
  have hk63 : k ≤ 63 := by omega
  clear hW1 hk hl1
  go_wp2_with fail
  refine hwr.mono ?_
  clear hwr k0 k1 hz
  rintro e w3 ⟨v3, rfl, hv3, hb3⟩
  obtain ⟨A3, c3, B3, d3, rfl, hA3, hB3⟩ := hv3
  have hv3 : DV w3 _ S W1 := ⟨A3, c3, B3, d3, rfl, hA3, hB3⟩
  rw [HSL.out, HWL.out] at hv3 ⊢
  have HT := Lib.hid (HT.out.on hb3)
  have hba : Below w3.heap.size w3 (w3.alloc (.cells #[.slice A3 n c3, .slice B3 (m + k) d3] 25)) := (Below.refl _ _).alloc (Nat.le_refl _) _
  have HT := Lib.hid (HT.out.on hba)
  have H4 := Lib.hid (Holds.fresh hv3 (H2.out.below.trans (hb3.mono H2.out.below.size)))
  clear hb3 hba H2 hv3 hA3 hB3
  go_wp2_with fail
  refine (HND.out _).mono ?_
  rintro e wq ⟨rfl, rfl⟩
  have hrd := back_any (k := k) H4.out.dv (by rw [HWL.out]; omega) HR1.out HL1.out HZt.out HK.out
  go_wp2_with fail
  refine hrd.mono ?_
  clear hrd
  rintro e w5 ⟨rfl, hb5⟩
  have HT := Lib.hid (HT.out.on hb5)
  have H5 := Lib.hid (H4.out.on hb5)
  clear hb5 H4
  obtain ⟨k0, k1⟩ := DBlk.cells H5.out.blk
  have hz := Box.lt H5.out.blk
  have hfl := flush_dv H5.out.dv (by rw [HWL.out]; omega) HR1.out
  go_wp2_with fail
  refine hfl.mono ?_
  clear hfl k0 k1 hz
  rintro e w6 ⟨v6, rfl, hv6, hb6⟩
  have HT := Lib.hid (HT.out.on hb6)
  have H6 := Lib.hid (H5.out.on hb6)
  have HRF := Lib.hid (show rightB (doneL S W1) [] = true from done_right HR1.out (fun _ h => h))
  have hrd := back_any (k := k) hv6 (by simp) HRF.out HL1.out.flush HZt.out HK.out
  clear hb6 H5 hv6
  go_wp2_with fail
  refine hrd.mono ?_
  clear hrd
  rintro e w7 ⟨rfl, hb7⟩
  have HT := Lib.hid (HT.out.on hb7)
  have H7 := Lib.hid (H6.out.on hb7)
  clear hb7 H6
  have ss := str_eq (x := t) rfl
  obtain ⟨k0, k1⟩ := DBlk.cells H7.out.blk
  have hz := Box.lt H7.out.blk
  by_cases ho : o < 0
  · have g1 : decide (o < 0) = true := decide_eq_true ho
    go_wp2_with fail
    refine (awake_true _).mono ?_
    rintro e w9 ⟨rfl, hb9⟩
    go_wp2
    go_ret
    exact ⟨rfl, H7.out.below.trans (hb9.mono H7.out.below.size)⟩
  have g1 : decide (o < 0) = false := decide_eq_false ho
  by_cases ho2 : 100 < o
  · have g2 : decide (100 < o) = true := decide_eq_true ho2
    go_wp2_with fail
    refine (awake_true _).mono ?_
    rintro e w9 ⟨rfl, hb9⟩
    go_wp2
    go_ret
    exact ⟨rfl, H7.out.below.trans (hb9.mono H7.out.below.size)⟩
  have g2 : decide (100 < o) = false := decide_eq_false ho2
  obtain ⟨p, rfl⟩ := Int.eq_ofNat_of_zero_le (show 0 ≤ o by omega)
  have hw1 : IntKind.i64.wrap ((p : Int) + q) = (p : Int) + q := IntWalk.i64_in _ (by omega)
  have hw2 : IntKind.i64.wrap ((b : Int) + k) = (b : Int) + k := IntWalk.i64_in _ (by omega)
  by_cases ho3 : b < p + q ∧ p < b + k
  · have g3 : decide ((b : Int) < p + q) = true := decide_eq_true (by omega)
    have g4 : decide ((p : Int) < b + k) = true := decide_eq_true (by omega)
    go_wp2_with fail
    refine (awake_true _).mono ?_
    rintro e w9 ⟨rfl, hb9⟩
    go_wp2
    go_ret
    exact ⟨rfl, H7.out.below.trans (hb9.mono H7.out.below.size)⟩
  have hput := put_dv (a := p) H7.out.dv HT.out (by rw [HWL.out]; omega) (by rw [HLL.out]; omega) HR1.out
  have HR2 := Lib.hid (putW_right (a := p) (l := l) HR1.out)
  have HL2 := Lib.hid (HL1.out.putW p l (by rw [HLL.out, ← HK.out]; omega))
  have hlen := putW_len S.length W1 p l
  rw [HWL.out, HLL.out] at hlen
  obtain ⟨W2, hW2⟩ : ∃ W2, W2 = putW S.length W1 p l := ⟨_, rfl⟩
  rw [← hW2] at hput HR2 HL2 hlen
  generalize putE S.length p l = ee at *
  clear hW2
  have HLEN := Lib.hid hlen
  clear hlen
  have hrest : decide ((b : Int) < p + q) = false ∨ (decide ((b : Int) < p + q) = true ∧ decide ((p : Int) < b + k) = false) := by
    by_cases hx : b < p + q
    · exact .inr ⟨decide_eq_true (by omega), decide_eq_false (by omega)⟩
    · exact .inl (decide_eq_false (by omega))
  clear ho3
  rcases hrest with g3 | ⟨g3, g4⟩
  all_goals
    go_wp2_with fail
    refine hput.mono ?_
    clear hput k0 k1 hz
    rintro e w8 ⟨v8, rfl, hv8, hb8⟩
    obtain ⟨A8, c8, B8, d8, rfl, hA8, hB8⟩ := hv8
    have hv8 : DV w8 _ S W2 := ⟨A8, c8, B8, d8, rfl, hA8, hB8⟩
    rw [HSL.out] at hv8 ⊢
    obtain ⟨m2, hm2⟩ : ∃ m2, m2 = W2.length := ⟨_, rfl⟩
    rw [← hm2] at hv8 HLEN ⊢
    have HM2 := Lib.hid hm2
    have H9 := Lib.hid (Holds.fresh hv8 (H7.out.below.trans (hb8.mono H7.out.below.size)))
    have hrd := back_any (k := k) H9.out.dv (by rw [← HM2.out]; have := HLEN.out; omega) HR2.out HL2.out HZt.out HK.out
    clear hb8 hv8 hA8 hB8 hm2 H7
    go_wp2_with fail
    refine hrd.mono ?_
    clear hrd
    rintro e wA ⟨rfl, hbA⟩
    have HA := Lib.hid (H9.out.on hbA)
    clear hbA H9
    go_wp2_with fail
    refine (awake_true _).mono ?_
    rintro e wB ⟨rfl, hbB⟩
    go_wp2
    go_ret
    exact ⟨rfl, HA.out.below.trans (hbB.mono HA.out.below.size)⟩

end Go.Proofs.Ytaodhghpphpflaa
