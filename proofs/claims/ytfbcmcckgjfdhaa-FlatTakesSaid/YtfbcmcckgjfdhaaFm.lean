/- The walks of flat's maySide, May and mayPair, of stretch's Right, and of the document's May and Right of ranges. -/
import Derived.Test.YtfbcmcckgjfdhaaFb
import Derived.Test.YtfbcmcckgjfdhaaWRightN
import Derived.Test.YtfbcmcckgjfdhaaRLeaf
set_option linter.unusedVariables false
set_option linter.unusedSimpArgs false
namespace Go.Proofs.Ytfbcmcckgjfdhaa
open Go.RowKit Go.Sort

set_option maxRecDepth 100000 in
set_option maxHeartbeats 1000000 in
theorem side_any (has : Bool) (v : ByteArray) (w : World) :
    Calls Try.prog 55 #[.bool has, .string v] w fun e w' => e = .returned (.bool (sideB has v)) ∧ Below w.heap.size w w' := by
  obtain ⟨R, hR⟩ : ∃ R, R = sideB has v := ⟨_, rfl⟩
  rw [← hR]
  unfold sideB at hR
  cases has with
  | true =>
    rw [if_pos rfl] at hR
    have hd : decide ((v.size : Int) ≤ 32) = R := by rw [hR]; exact decide_eq_decide.2 (by omega)
    clear hR
    go_enter Try.func55, Try.ntmps55
    go_wp2
    go_ret
    rw [← hd]
    exact ⟨rfl, Below.refl _ _⟩
  | false =>
    rw [if_neg (by decide), ← str_empty] at hR
    have HR := Lib.hid hR
    clear hR
    go_enter Try.func55, Try.ntmps55
    go_wp2
    go_ret
    rw [HR.out]
    exact ⟨rfl, Below.refl _ _⟩

def chV (s : Int) (k : ByteArray) (h : Bool) (b : ByteArray) (g : Bool) (a : ByteArray) : Value := .agg #[.int .i64 s, .string k, .bool h, .string b, .bool g, .string a]

theorem may_parts (s : Int) (k : ByteArray) (h : Bool) (b : ByteArray) (g : Bool) (a : ByteArray) :
    mayC ⟨s, k, h, b, g, a⟩ = (decide (1 ≤ s) && decide (s ≤ 2147483647) && decide (k.size ≤ 16) && (h || g) && sideB h b && sideB g a) := rfl

set_option maxRecDepth 100000 in
set_option maxHeartbeats 2000000 in
theorem may_any (s : Int) (k : ByteArray) (had : Bool) (xb : ByteArray) (has : Bool) (xa : ByteArray) (w : World) :
    Calls Try.prog 20 #[.agg #[.int .i64 s, .string k, .bool had, .string xb, .bool has, .string xa]] w fun e w' => e = .returned (.bool (mayC ⟨s, k, had, xb, has, xa⟩)) ∧ Below w.heap.size w w' := by
  obtain ⟨R, hR⟩ : ∃ R, R = mayC ⟨s, k, had, xb, has, xa⟩ := ⟨_, rfl⟩
  rw [← hR]
  rw [may_parts] at hR
  by_cases h1 : 1 ≤ s
  case neg =>
    have e : R = false := by rw [hR, decide_eq_false h1]; rfl
    subst e
    clear hR
    go_enter Try.func20, Try.ntmps20
    go_wp2
    go_ret
    exact ⟨rfl, (Below.refl _ _).alloc (Nat.le_refl _) _⟩
  have hd1 : decide (s < 1) = false := by simp; omega
  by_cases h2 : s ≤ 2147483647
  case neg =>
    have hd2 : decide (2147483647 < s) = true := by simp; omega
    have e : R = false := by rw [hR, decide_eq_false h2]; simp
    subst e
    clear hR
    go_enter Try.func20, Try.ntmps20
    go_wp2
    go_ret
    exact ⟨rfl, (Below.refl _ _).alloc (Nat.le_refl _) _⟩
  have hd2 : decide (2147483647 < s) = false := by simp; omega
  by_cases h3 : k.size ≤ 16
  case neg =>
    have hd3 : decide (16 < (k.size : Int)) = true := by simp; omega
    have e : R = false := by rw [hR, decide_eq_false h3]; simp
    subst e
    clear hR
    go_enter Try.func20, Try.ntmps20
    go_wp2
    go_ret
    exact ⟨rfl, (Below.refl _ _).alloc (Nat.le_refl _) _⟩
  have hd3 : decide (16 < (k.size : Int)) = false := by simp; omega
  rw [decide_eq_true h1, decide_eq_true h2, decide_eq_true h3] at hR
  simp only [Bool.true_and, Bool.and_true] at hR
  clear h1 h2 h3
  obtain ⟨b1, hb1⟩ : ∃ b, b = sideB had xb := ⟨_, rfl⟩
  obtain ⟨b2, hb2⟩ : ∃ b, b = sideB has xa := ⟨_, rfl⟩
  rw [← hb1, ← hb2] at hR
  have hc1 := fun w => side_any had xb w
  have hc2 := fun w => side_any has xa w
  rw [← hb1] at hc1
  rw [← hb2] at hc2
  obtain ⟨o, ho⟩ : ∃ o, o = (had || has) := ⟨_, rfl⟩
  rw [← ho] at hR
  have HC1 := Lib.hid hc1
  have HC2 := Lib.hid hc2
  have HR := Lib.hid hR
  clear hb1 hb2 hc1 hc2 hR
  cases o with
  | false =>
    obtain ⟨rfl, rfl⟩ : had = false ∧ has = false := by cases had <;> cases has <;> first | exact ⟨rfl, rfl⟩ | cases ho
    clear ho
    go_enter Try.func20, Try.ntmps20
    go_wp2
    go_ret
    rw [HR.out]
    exact ⟨rfl, (Below.refl _ _).alloc (Nat.le_refl _) _⟩
  | true =>
    cases b1 with
    | false =>
      cases had with
      | false =>
        obtain rfl : has = true := by cases has <;> first | rfl | cases ho
        clear ho
        go_enter Try.func20, Try.ntmps20
        go_wp2_with fail
        refine (HC1.out _).mono ?_
        rintro e w1 ⟨rfl, hb⟩
        have HB := Lib.hid (below1 hb)
        clear hb
        go_wp2
        go_ret
        rw [HR.out]
        exact ⟨rfl, HB.out⟩
      | true =>
        clear ho
        go_enter Try.func20, Try.ntmps20
        go_wp2_with fail
        refine (HC1.out _).mono ?_
        rintro e w1 ⟨rfl, hb⟩
        have HB := Lib.hid (below1 hb)
        clear hb
        go_wp2
        go_ret
        rw [HR.out]
        exact ⟨rfl, HB.out⟩
    | true =>
      cases had with
      | false =>
        obtain rfl : has = true := by cases has <;> first | rfl | cases ho
        clear ho
        go_enter Try.func20, Try.ntmps20
        go_wp2_with fail
        refine (HC1.out _).mono ?_
        rintro e w1 ⟨rfl, hb⟩
        obtain ⟨c0, c1, c2, c3, c4, c5⟩ : _ ∧ _ ∧ _ ∧ _ ∧ _ ∧ _ := let hx := (Box.fresh w 42 #[.int .i64 s, .string k, .bool false, .string xb, .bool true, .string xa]).on hb; ⟨hx.cell 0 rfl, hx.cell 1 rfl, hx.cell 2 rfl, hx.cell 3 rfl, hx.cell 4 rfl, hx.cell 5 rfl⟩
        have HB := Lib.hid (below1 hb)
        clear hb
        go_wp2_with fail
        refine (HC2.out _).mono ?_
        rintro e w2 ⟨rfl, hb⟩
        have HB2 := Lib.hid (HB.out.trans (hb.mono HB.out.size))
        clear hb
        go_wp2
        go_ret
        rw [HR.out]
        exact ⟨rfl, HB2.out⟩
      | true =>
        clear ho
        go_enter Try.func20, Try.ntmps20
        go_wp2_with fail
        refine (HC1.out _).mono ?_
        rintro e w1 ⟨rfl, hb⟩
        obtain ⟨c0, c1, c2, c3, c4, c5⟩ : _ ∧ _ ∧ _ ∧ _ ∧ _ ∧ _ := let hx := (Box.fresh w 42 #[.int .i64 s, .string k, .bool true, .string xb, .bool has, .string xa]).on hb; ⟨hx.cell 0 rfl, hx.cell 1 rfl, hx.cell 2 rfl, hx.cell 3 rfl, hx.cell 4 rfl, hx.cell 5 rfl⟩
        have HB := Lib.hid (below1 hb)
        clear hb
        go_wp2_with fail
        refine (HC2.out _).mono ?_
        rintro e w2 ⟨rfl, hb⟩
        have HB2 := Lib.hid (HB.out.trans (hb.mono HB.out.size))
        clear hb
        go_wp2
        go_ret
        rw [HR.out]
        exact ⟨rfl, HB2.out⟩

theorem well_one (p : Pr) : wellL [p] = fitsP p := by
  rw [Bool.eq_iff_iff, wellL_iff]
  constructor
  · intro h; exact (h 0 (by simp)).1
  · intro h i hi
    have : i = 0 := by simpa using hi
    subst this
    exact ⟨h, fun h => absurd h (by omega)⟩

set_option maxRecDepth 100000 in
set_option maxHeartbeats 1000000 in
theorem maypair_any (xk xv : ByteArray) (w : World) :
    Calls Try.prog 42 #[.agg #[.string xk, .string xv]] w fun e w' => e = .returned (.bool (fitsP ⟨xk, xv⟩)) ∧ Below w.heap.size w w' := by
  obtain ⟨w1, hw1⟩ : ∃ w1, w1 = w.alloc (.cells #[.string xk, .string xv] 66) := ⟨_, rfl⟩
  obtain ⟨g, hg⟩ : ∃ g, g = w.heap.size := ⟨_, rfl⟩
  have hbx : Box w1 g 66 #[.string xk, .string xv] := by rw [hw1]; exact Box.at_ w _ _ hg
  have HB1 := Lib.hid (show Below w.heap.size w w1 from by rw [hw1]; exact (Below.refl _ _).alloc (Nat.le_refl _) _)
  have hc := right_pr (some ⟨w1.heap.size, 0, none⟩) 1 [⟨xk, xv⟩] (w1.alloc (.cells #[.string xk, .string xv] 66)) (by
    have h := Lies.lit (w := w1) (t := 66) (C := #[.string xk, .string xv]) (l := [(⟨xk, xv⟩ : Pr)]) Pr.cells2 rfl
    simpa using h) (by unfold maxLen; simp)
  rw [well_one] at hc
  have HC := Lib.hid hc
  clear hc
  obtain ⟨c0, c1⟩ := (⟨hbx.cell 0 rfl, hbx.cell 1 rfl⟩ : _ ∧ _)
  clear hbx
  go_enter Try.func42, Try.ntmps42
  go_upto_region 1 with fail
  rw [← hg, ← hw1]
  clear hg hw1
  go_wp2_with fail
  refine HC.out.mono ?_
  rintro e w2 ⟨rfl, hb⟩
  have HB2 := Lib.hid (HB1.out.trans ((below1 hb).mono HB1.out.size))
  clear hb
  go_wp2
  go_ret
  exact ⟨rfl, HB2.out⟩

theorem rightB_parts (lo hi : ByteArray) (op : Bool) : rightB ⟨lo, hi, op⟩ = (!(op && !hi.toList.isEmpty) && (decide (lo.size ≤ 16) && decide (hi.size ≤ 17))) := by
  unfold rightB
  simp only
  congr 3
  cases hi.toList <;> rfl

end Go.Proofs.Ytfbcmcckgjfdhaa
