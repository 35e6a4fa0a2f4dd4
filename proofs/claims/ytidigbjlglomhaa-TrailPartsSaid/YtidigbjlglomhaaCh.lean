/- A change: what it is, and whether it may be: plain facts; the walks of flat's maySide and May, and of the document's May. -/
import Derived.Test.YtidigbjlglomhaaBs
set_option linter.unusedVariables false
set_option linter.unusedSimpArgs false
namespace Go.Proofs.Ytidigbjlglomhaa
open Go.RowKit

/-- A change. -/
structure Ch where
  seq : Int
  key : ByteArray
  had : Bool
  before : ByteArray
  has : Bool
  after : ByteArray
deriving DecidableEq

def sideB (has : Bool) (v : ByteArray) : Bool := if has then decide (v.size ≤ 32) else decide (v = noB)
def mayC (c : Ch) : Bool := decide (1 ≤ c.seq) && decide (c.seq ≤ 2147483647) && decide (c.key.size ≤ 16) && (c.had || c.has) && sideB c.had c.before && sideB c.has c.after
theorem side_size {h : Bool} {v : ByteArray} (e : sideB h v = true) : v.size ≤ 32 := by
  unfold sideB at e
  cases h with
  | true => simpa using e
  | false =>
    simp only [Bool.false_eq_true, if_false, decide_eq_true_eq] at e
    subst e
    show 0 ≤ 32
    omega

theorem may_of {c : Ch} (h : mayC c = true) : 1 ≤ c.seq ∧ c.seq ≤ 2147483647 ∧ c.key.size ≤ 16 ∧ c.before.size ≤ 32 ∧ c.after.size ≤ 32 := by
  unfold mayC at h
  simp only [Bool.and_eq_true, decide_eq_true_eq] at h
  obtain ⟨⟨⟨⟨⟨h1, h2⟩, h3⟩, _⟩, h4⟩, h5⟩ := h
  exact ⟨h1, h2, h3, side_size h4, side_size h5⟩

set_option maxRecDepth 100000 in
set_option maxHeartbeats 1000000 in
theorem side_any (has : Bool) (v : ByteArray) (w : World) :
    Calls Try.prog 29 #[.bool has, .string v] w fun e w' => e = .returned (.bool (sideB has v)) ∧ Below w.heap.size w w' := by
  obtain ⟨R, hR⟩ : ∃ R, R = sideB has v := ⟨_, rfl⟩
  rw [← hR]
  unfold sideB at hR
  cases has with
  | true =>
    rw [if_pos rfl] at hR
    have hd : decide ((v.size : Int) ≤ 32) = R := by rw [hR]; exact decide_eq_decide.2 (by omega)
    clear hR
    go_enter Try.func29, Try.ntmps29
    go_wp2
    go_ret
    rw [← hd]
    exact ⟨rfl, Below.refl _ _⟩
  | false =>
    rw [if_neg (by decide), ← str_empty] at hR
    have HR := Lib.hid hR
    clear hR
    go_enter Try.func29, Try.ntmps29
    go_wp2
    go_ret
    rw [HR.out]
    exact ⟨rfl, Below.refl _ _⟩

def chV (s : Int) (k : ByteArray) (h : Bool) (b : ByteArray) (g : Bool) (a : ByteArray) : Value := .agg #[.int .i64 s, .string k, .bool h, .string b, .bool g, .string a]

def Ch.v (x : Ch) : Value := chV x.seq x.key x.had x.before x.has x.after
theorem may_parts (s : Int) (k : ByteArray) (h : Bool) (b : ByteArray) (g : Bool) (a : ByteArray) :
    mayC ⟨s, k, h, b, g, a⟩ = (decide (1 ≤ s) && decide (s ≤ 2147483647) && decide (k.size ≤ 16) && (h || g) && sideB h b && sideB g a) := rfl

set_option maxRecDepth 100000 in
set_option maxHeartbeats 2000000 in
theorem may_any (s : Int) (k : ByteArray) (had : Bool) (xb : ByteArray) (has : Bool) (xa : ByteArray) (w : World) :
    Calls Try.prog 27 #[.agg #[.int .i64 s, .string k, .bool had, .string xb, .bool has, .string xa]] w fun e w' => e = .returned (.bool (mayC ⟨s, k, had, xb, has, xa⟩)) ∧ Below w.heap.size w w' := by
  obtain ⟨R, hR⟩ : ∃ R, R = mayC ⟨s, k, had, xb, has, xa⟩ := ⟨_, rfl⟩
  rw [← hR]
  rw [may_parts] at hR
  by_cases h1 : 1 ≤ s
  case neg =>
    have e : R = false := by rw [hR, decide_eq_false h1]; rfl
    subst e
    clear hR
    go_enter Try.func27, Try.ntmps27
    go_wp2
    go_ret
    exact ⟨rfl, (Below.refl _ _).alloc (Nat.le_refl _) _⟩
  have hd1 : decide (s < 1) = false := by simp; omega
  by_cases h2 : s ≤ 2147483647
  case neg =>
    have hd2 : decide (2147483647 < s) = true := by simp; omega
    have e : R = false := by rw [hR, decide_eq_false h2]; simp
    subst e
    clear hR
    go_enter Try.func27, Try.ntmps27
    go_wp2
    go_ret
    exact ⟨rfl, (Below.refl _ _).alloc (Nat.le_refl _) _⟩
  have hd2 : decide (2147483647 < s) = false := by simp; omega
  by_cases h3 : k.size ≤ 16
  case neg =>
    have hd3 : decide (16 < (k.size : Int)) = true := by simp; omega
    have e : R = false := by rw [hR, decide_eq_false h3]; simp
    subst e
    clear hR
    go_enter Try.func27, Try.ntmps27
    go_wp2
    go_ret
    exact ⟨rfl, (Below.refl _ _).alloc (Nat.le_refl _) _⟩
  have hd3 : decide (16 < (k.size : Int)) = false := by simp; omega
  rw [decide_eq_true h1, decide_eq_true h2, decide_eq_true h3] at hR
  simp only [Bool.true_and, Bool.and_true] at hR
  clear h1 h2 h3
  obtain ⟨b1, hb1⟩ : ∃ b, b = sideB had xb := ⟨_, rfl⟩
  obtain ⟨b2, hb2⟩ : ∃ b, b = sideB has xa := ⟨_, rfl⟩
  rw [← hb1, ← hb2] at hR
  have hc1 := fun w => side_any had xb w
  have hc2 := fun w => side_any has xa w
  rw [← hb1] at hc1
  rw [← hb2] at hc2
  obtain ⟨o, ho⟩ : ∃ o, o = (had || has) := ⟨_, rfl⟩
  rw [← ho] at hR
  have HC1 := Lib.hid hc1
  have HC2 := Lib.hid hc2
  have HR := Lib.hid hR
  clear hb1 hb2 hc1 hc2 hR
  cases o with
  | false =>
    obtain ⟨rfl, rfl⟩ : had = false ∧ has = false := by cases had <;> cases has <;> first | exact ⟨rfl, rfl⟩ | cases ho
    clear ho
    go_enter Try.func27, Try.ntmps27
    go_wp2
    go_ret
    rw [HR.out]
    exact ⟨rfl, (Below.refl _ _).alloc (Nat.le_refl _) _⟩
  | true =>
    cases b1 with
    | false =>
      cases had with
      | false =>
        obtain rfl : has = true := by cases has <;> first | rfl | cases ho
        clear ho
        go_enter Try.func27, Try.ntmps27
        go_wp2_with fail
        refine (HC1.out _).mono ?_
        rintro e w1 ⟨rfl, hb⟩
        have HB := Lib.hid (below1 hb)
        clear hb
        go_wp2
        go_ret
        rw [HR.out]
        exact ⟨rfl, HB.out⟩
      | true =>
        clear ho
        go_enter Try.func27, Try.ntmps27
        go_wp2_with fail
        refine (HC1.out _).mono ?_
        rintro e w1 ⟨rfl, hb⟩
        have HB := Lib.hid (below1 hb)
        clear hb
        go_wp2
        go_ret
        rw [HR.out]
        exact ⟨rfl, HB.out⟩
    | true =>
      cases had with
      | false =>
        obtain rfl : has = true := by cases has <;> first | rfl | cases ho
        clear ho
        go_enter Try.func27, Try.ntmps27
        go_wp2_with fail
        refine (HC1.out _).mono ?_
        rintro e w1 ⟨rfl, hb⟩
        obtain ⟨c0, c1, c2, c3, c4, c5⟩ : _ ∧ _ ∧ _ ∧ _ ∧ _ ∧ _ := let hx := (Box.fresh w 30 #[.int .i64 s, .string k, .bool false, .string xb, .bool true, .string xa]).on hb; ⟨hx.cell 0 rfl, hx.cell 1 rfl, hx.cell 2 rfl, hx.cell 3 rfl, hx.cell 4 rfl, hx.cell 5 rfl⟩
        have HB := Lib.hid (below1 hb)
        clear hb
        go_wp2_with fail
        refine (HC2.out _).mono ?_
        rintro e w2 ⟨rfl, hb⟩
        have HB2 := Lib.hid (HB.out.trans (hb.mono HB.out.size))
        clear hb
        go_wp2
        go_ret
        rw [HR.out]
        exact ⟨rfl, HB2.out⟩
      | true =>
        clear ho
        go_enter Try.func27, Try.ntmps27
        go_wp2_with fail
        refine (HC1.out _).mono ?_
        rintro e w1 ⟨rfl, hb⟩
        obtain ⟨c0, c1, c2, c3, c4, c5⟩ : _ ∧ _ ∧ _ ∧ _ ∧ _ ∧ _ := let hx := (Box.fresh w 30 #[.int .i64 s, .string k, .bool true, .string xb, .bool has, .string xa]).on hb; ⟨hx.cell 0 rfl, hx.cell 1 rfl, hx.cell 2 rfl, hx.cell 3 rfl, hx.cell 4 rfl, hx.cell 5 rfl⟩
        have HB := Lib.hid (below1 hb)
        clear hb
        go_wp2_with fail
        refine (HC2.out _).mono ?_
        rintro e w2 ⟨rfl, hb⟩
        have HB2 := Lib.hid (HB.out.trans (hb.mono HB.out.size))
        clear hb
        go_wp2
        go_ret
        rw [HR.out]
        exact ⟨rfl, HB2.out⟩

theorem may_in {s : Int} {k : ByteArray} {had : Bool} {xb : ByteArray} {has : Bool} {xa : ByteArray} (h1 : 1 ≤ s) (h2 : s ≤ 2147483647) (h3 : k.size ≤ 16) (h4 : xb.size ≤ 32) (h5 : xa.size ≤ 32) :
    mayC ⟨s, k, had, xb, has, xa⟩ = ((had || has) && (had || xb.toList.isEmpty) && (has || xa.toList.isEmpty)) := by
  rw [may_parts, decide_eq_true h1, decide_eq_true h2, decide_eq_true h3, str_empty, str_empty]
  unfold sideB
  rw [decide_eq_true h4, decide_eq_true h5]
  cases had <;> cases has <;> simp

set_option maxRecDepth 100000 in
set_option maxHeartbeats 2000000 in
theorem dmay_any (s : Int) (k : ByteArray) (had : Bool) (xb : ByteArray) (has : Bool) (xa : ByteArray) (w : World) :
    Calls Try.prog 26 #[.agg #[.int .i64 s, .string k, .bool had, .string xb, .bool has, .string xa]] w fun e w' => e = .returned (.bool (mayC ⟨s, k, had, xb, has, xa⟩)) ∧ Below w.heap.size w w' := by
  obtain ⟨R, hR⟩ : ∃ R, R = mayC ⟨s, k, had, xb, has, xa⟩ := ⟨_, rfl⟩
  rw [← hR]
  have hF : ¬ (1 ≤ s ∧ s ≤ 2147483647 ∧ k.size ≤ 16 ∧ xb.size ≤ 32 ∧ xa.size ≤ 32) → R = false := fun hn => by
    rw [hR]
    cases hh : mayC ⟨s, k, had, xb, has, xa⟩ with
    | false => rfl
    | true => exact absurd (may_of hh) hn
  by_cases h1 : 1 ≤ s
  case neg =>
    obtain rfl := hF (fun h => h1 h.1)
    clear hR hF
    go_enter Try.func26, Try.ntmps26
    go_wp2
    go_ret
    exact ⟨rfl, (Below.refl _ _).alloc (Nat.le_refl _) _⟩
  have hd1 : decide (s < 1) = false := by simp; omega
  by_cases h2 : s ≤ 2147483647
  case neg =>
    have hd2 : decide (2147483647 < s) = true := by simp; omega
    obtain rfl := hF (fun h => h2 h.2.1)
    clear hR hF
    go_enter Try.func26, Try.ntmps26
    go_wp2
    go_ret
    exact ⟨rfl, (Below.refl _ _).alloc (Nat.le_refl _) _⟩
  have hd2 : decide (2147483647 < s) = false := by simp; omega
  by_cases h3 : k.size ≤ 16
  case neg =>
    have hd3 : decide (16 < (k.size : Int)) = true := by simp; omega
    obtain rfl := hF (fun h => h3 h.2.2.1)
    clear hR hF
    go_enter Try.func26, Try.ntmps26
    go_wp2
    go_ret
    exact ⟨rfl, (Below.refl _ _).alloc (Nat.le_refl _) _⟩
  have hd3 : decide (16 < (k.size : Int)) = false := by simp; omega
  by_cases h4 : xb.size ≤ 32
  case neg =>
    have hd4 : decide (32 < (xb.size : Int)) = true := by simp; omega
    obtain rfl := hF (fun h => h4 h.2.2.2.1)
    clear hR hF
    go_enter Try.func26, Try.ntmps26
    go_wp2
    go_ret
    exact ⟨rfl, (Below.refl _ _).alloc (Nat.le_refl _) _⟩
  have hd4 : decide (32 < (xb.size : Int)) = false := by simp; omega
  by_cases h5 : xa.size ≤ 32
  case neg =>
    have hd5 : decide (32 < (xa.size : Int)) = true := by simp; omega
    obtain rfl := hF (fun h => h5 h.2.2.2.2)
    clear hR hF
    go_enter Try.func26, Try.ntmps26
    go_wp2
    go_ret
    exact ⟨rfl, (Below.refl _ _).alloc (Nat.le_refl _) _⟩
  have hd5 : decide (32 < (xa.size : Int)) = false := by simp; omega
  rw [may_in h1 h2 h3 h4 h5] at hR
  clear hF h1 h2 h3 h4 h5
  obtain ⟨e1, he1⟩ : ∃ e, xb.toList.isEmpty = e := ⟨_, rfl⟩
  obtain ⟨e2, he2⟩ : ∃ e, xa.toList.isEmpty = e := ⟨_, rfl⟩
  rw [he1, he2] at hR
  have HR := Lib.hid hR
  clear hR
  cases had <;> cases has <;> cases e1 <;> cases e2 <;>
  · go_enter Try.func26, Try.ntmps26
    go_wp2
    go_ret
    rw [HR.out]
    exact ⟨rfl, (Below.refl _ _).alloc (Nat.le_refl _) _⟩

end Go.Proofs.Ytidigbjlglomhaa
