/- The walks of small, few and awake. -/
import Derived.Test.YtggfegogjmckcaaShr
namespace Go.Proofs.Ytggfegogjmckcaa
open Go.RowKit

set_option maxHeartbeats 1000000 in
set_option maxRecDepth 100000 in
theorem small_any (A : Option Addr) (c : Nat) (l : List Pr) (w : World) (hA : Prs w w.heap.size A l) :
    Calls Try.prog 9 #[.slice A l.length c] w fun e w' => ∃ R, e = .returned (.bool R) ∧ (R = true → l.length ≤ 60) ∧ Below w.heap.size w w' := by
  obtain ⟨n, hl⟩ : ∃ n, l.length = n := ⟨_, rfl⟩
  rw [hl]
  have HL := Lib.hid hl
  have HA := Lib.hid hA
  clear hl hA
  by_cases h60 : n ≤ 60
  case neg =>
    have hd : decide (60 < (n : Int)) = true := by simp; omega
    have hd' : decide (60 < n) = true := by simp; omega
    clear h60
    go_enter Try.func9, Try.ntmps9
    go_wp2
    go_ret
    exact ⟨_, rfl, fun h => (by cases h), Below.refl _ _⟩
  have hd : decide (60 < (n : Int)) = false := by simp; omega
  have hd' : decide (60 < n) = false := by simp; omega
  go_enter Try.func9, Try.ntmps9
  go_wp2
  go_loopw [10] (fun i wr => ∃ (k : Nat), i = .int .i64 k ∧ k ≤ n ∧ Below w.heap.size w wr) (fun i _ => (n - intOf i).toNat)
  case atStart => exact ⟨0, rfl, by omega, Below.refl _ _⟩
  case round =>
    obtain ⟨k, rfl, hk, hbr⟩ := hrel
    by_cases hlt : k < n
    · obtain ⟨ad, rfl, hab, hca⟩ := (HA.out.below hbr).seeP (by rw [HL.out]; omega)
      obtain ⟨c1, c2⟩ := hca k (by rw [HL.out]; omega)
      obtain ⟨x, hx⟩ : ∃ x, x = l[k]'(by rw [HL.out]; omega) := ⟨_, rfl⟩
      rw [← hx] at c1 c2
      clear hx hca
      obtain ⟨xk, xv⟩ := x
      simp only at c1 c2
      have hlt3 : (ad.add (k * 2)).block < w.heap.size := by rw [block_of_add]; exact hab
      by_cases h1 : xk.size ≤ 300
      · have hd1 : decide (300 < (xk.size : Int)) = false := by simp; omega
        by_cases h2 : xv.size ≤ 300
        · have hd2 : decide (300 < (xv.size : Int)) = false := by simp; omega
          go_wp2
          go_roundw
          case rel => exact ⟨k + 1, by go_num, by omega, hbr.alloc hbr.size _⟩
          case measure => simp [intOf]; omega
        · have hd2 : decide (300 < (xv.size : Int)) = true := by simp; omega
          go_wp2
          go_ret
          exact ⟨_, rfl, fun h => (by cases h), hbr.alloc hbr.size _⟩
      · have hd1 : decide (300 < (xk.size : Int)) = true := by simp; omega
        go_wp2
        go_ret
        exact ⟨_, rfl, fun h => (by cases h), hbr.alloc hbr.size _⟩
    · have H60 := Lib.hid h60
      go_wp2
      go_ret
      exact ⟨_, rfl, fun _ => H60.out, hbr⟩

set_option maxHeartbeats 1000000 in
set_option maxRecDepth 100000 in
theorem few_any (A : Option Addr) (c : Nat) (l : List Nt) (w : World) (hA : Nts w w.heap.size A l) :
    Calls Try.prog 10 #[.slice A l.length c] w fun e w' => ∃ R, e = .returned (.bool R) ∧ (R = true → l.length ≤ 60) ∧ Below w.heap.size w w' := by
  obtain ⟨n, hl⟩ : ∃ n, l.length = n := ⟨_, rfl⟩
  rw [hl]
  have HL := Lib.hid hl
  have HA := Lib.hid hA
  clear hl hA
  by_cases h60 : n ≤ 60
  case neg =>
    have hd : decide (60 < (n : Int)) = true := by simp; omega
    have hd' : decide (60 < n) = true := by simp; omega
    clear h60
    go_enter Try.func10, Try.ntmps10
    go_wp2
    go_ret
    exact ⟨_, rfl, fun h => (by cases h), Below.refl _ _⟩
  have hd : decide (60 < (n : Int)) = false := by simp; omega
  have hd' : decide (60 < n) = false := by simp; omega
  go_enter Try.func10, Try.ntmps10
  go_wp2
  go_loopw [10] (fun i wr => ∃ (k : Nat), i = .int .i64 k ∧ k ≤ n ∧ Below w.heap.size w wr) (fun i _ => (n - intOf i).toNat)
  case atStart => exact ⟨0, rfl, by omega, Below.refl _ _⟩
  case round =>
    obtain ⟨k, rfl, hk, hbr⟩ := hrel
    by_cases hlt : k < n
    · obtain ⟨ad, rfl, hab, hca⟩ := (HA.out.below hbr).seeN (by rw [HL.out]; omega)
      obtain ⟨c1, c2, c3, c4⟩ := hca k (by rw [HL.out]; omega)
      obtain ⟨x, hx⟩ : ∃ x, x = l[k]'(by rw [HL.out]; omega) := ⟨_, rfl⟩
      rw [← hx] at c1 c2 c3 c4
      clear hx hca
      obtain ⟨xk, xkey, xval, xn⟩ := x
      simp only at c1 c2 c3 c4
      have hlt3 : (ad.add (k * 4)).block < w.heap.size := by rw [block_of_add]; exact hab
      by_cases h1 : xkey.size ≤ 300
      · have hd1 : decide (300 < (xkey.size : Int)) = false := by simp; omega
        by_cases h2 : xval.size ≤ 300
        · have hd2 : decide (300 < (xval.size : Int)) = false := by simp; omega
          go_wp2
          go_roundw
          case rel => exact ⟨k + 1, by go_num, by omega, hbr.alloc hbr.size _⟩
          case measure => simp [intOf]; omega
        · have hd2 : decide (300 < (xval.size : Int)) = true := by simp; omega
          go_wp2
          go_ret
          exact ⟨_, rfl, fun h => (by cases h), hbr.alloc hbr.size _⟩
      · have hd1 : decide (300 < (xkey.size : Int)) = true := by simp; omega
        go_wp2
        go_ret
        exact ⟨_, rfl, fun h => (by cases h), hbr.alloc hbr.size _⟩
    · have H60 := Lib.hid h60
      go_wp2
      go_ret
      exact ⟨_, rfl, fun _ => H60.out, hbr⟩
theorem small_v {v : Value} {l : List Pr} {w : World} (h : PV w v l) :
    Calls Try.prog 9 #[v] w fun e w' => ∃ R, e = .returned (.bool R) ∧ (R = true → l.length ≤ 60) ∧ Below w.heap.size w w' := by
  obtain ⟨A, c, rfl, h1, h2, h3⟩ := h
  exact small_any A c l w h1
theorem few_v {v : Value} {l : List Nt} {w : World} (h : NV w v l) :
    Calls Try.prog 10 #[v] w fun e w' => ∃ R, e = .returned (.bool R) ∧ (R = true → l.length ≤ 60) ∧ Below w.heap.size w w' := by
  obtain ⟨A, c, rfl, h1, h2, h3⟩ := h
  exact few_any A c l w h1

/-! The fixed answer. -/
abbrev kA : ByteArray := ⟨#[97]⟩
abbrev kB : ByteArray := ⟨#[98]⟩
abbrev kC : ByteArray := ⟨#[99]⟩
abbrev d1 : ByteArray := ⟨#[49]⟩
abbrev d2 : ByteArray := ⟨#[50]⟩
def ns3 : List Nt := [⟨1, kB, d2, 0⟩, ⟨1, kA, d1, 0⟩, ⟨2, kC, noB, 0⟩]
def ps2 : List Pr := [⟨kA, d1⟩, ⟨kB, d2⟩]
theorem ab_lt : kA < kB := by show ltS _ _ = true; unfold ltS; rw [ByteArray.toList_eq, ByteArray.toList_eq]; rfl
theorem bc_lt : kB < kC := by show ltS _ _ = true; unfold ltS; rw [ByteArray.toList_eq, ByteArray.toList_eq]; rfl
theorem ac_lt : kA < kC := by grind [ab_lt, bc_lt]
theorem fold3 : foldOne [] ns3 = ps2 := by
  have h1 : ¬ kB < kA := by have := ab_lt; grind
  have h2 : ¬ kC < kA := by have := ac_lt; grind
  have h3 : ¬ kC < kB := by have := bc_lt; grind
  have n1 : kB ≠ kA := by decide
  have n2 : kA ≠ kC := by decide
  have n3 : kB ≠ kC := by decide
  unfold foldOne ns3 ps2
  simp only [List.foldl_cons, List.foldl_nil]
  have e1 : oneL [] ⟨1, kB, d2, 0⟩ = [⟨kB, d2⟩] := rfl
  rw [e1]
  have e2 : oneL [⟨kB, d2⟩] ⟨1, kA, d1, 0⟩ = [⟨kA, d1⟩, ⟨kB, d2⟩] := by
    unfold oneL
    rw [getL_cons, if_neg n1, getL_nil]
    simp only [List.filter_cons, List.filter_nil, decide_eq_false h1, decide_eq_true ab_lt]
    rfl
  rw [e2]
  unfold oneL
  rw [getL_cons, if_neg n2, getL_cons, if_neg n3, getL_nil]
  simp only [List.filter_cons, List.filter_nil, decide_eq_false h2, decide_eq_false h3, decide_eq_true ac_lt, decide_eq_true bc_lt]
  rfl
theorem right3 : ns3.all rightN = true := by decide
theorem well0 : wellL [] = true := rfl
theorem apply3 : applyL [] ns3 = ps2 ∧ applyE [] ns3 = 0 := by
  unfold applyL applyE
  rw [right3, well0]
  exact ⟨fold3, rfl⟩
theorem well2 : wellL ps2 = true := by
  rw [← fold3]
  exact well_fold well0 (fun n hn => List.all_eq_true.1 right3 n hn)
theorem get2 : getA ps2 kA = (d1, true) := by
  unfold getA
  rw [well2, if_pos rfl, show getL ps2 kA = some d1 from rfl]
  rfl
theorem next2 : nextA ps2 kB = 1 := by
  unfold nextA
  rw [well2, if_pos rfl]
  unfold lessL ps2
  have h1 : ¬ kB < kB := by grind
  simp only [List.countP_cons, List.countP_nil, decide_eq_true ab_lt, decide_eq_false h1]
  rfl
def bad2 : List Pr := [⟨kB, noB⟩, ⟨kA, noB⟩]
theorem badwell : wellL bad2 = false := wellL_no 1 (by decide) (fun h => by
  have h1 : kB < kA := h.2 (by decide)
  have := ab_lt
  grind)
theorem badE (ns : List Nt) : applyE bad2 ns = 1 := by unfold applyE; rw [badwell]; rfl
def five : List Pr := List.replicate 5 ⟨noB, noB⟩
theorem five2 : (shareL five 2).map List.length = [2, 2, 1] := rfl

end Go.Proofs.Ytggfegogjmckcaa
