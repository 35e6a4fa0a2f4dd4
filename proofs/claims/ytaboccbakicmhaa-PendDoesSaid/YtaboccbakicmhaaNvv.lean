/- The walk of few; values that are slices of slices of notes. -/
import Derived.Test.YtaboccbakicmhaaRSplit
import Derived.Test.YtaboccbakicmhaaRSame
set_option linter.unusedVariables false
set_option linter.unusedSimpArgs false
namespace Go.Proofs.Ytaboccbakicmhaa
open Go.RowKit

/-- A value that is a slice of these slices of notes. -/
def NVV (w : World) (v : Value) (ps : List (List Nt)) : Prop :=
  ∃ (A : Option Addr) (c : Nat) (vs : List Value), v = .slice A ps.length c ∧ vs.length = ps.length ∧ Lies (fun u : Value => [u]) 1 w w.heap.size A vs ∧ ∀ i (h : i < ps.length), ∃ u, vs[i]? = some u ∧ NV w u ps[i]
theorem NVV.on {w w' : World} {v : Value} {l : List (List Nt)} (h : NVV w v l) (hb : Below w.heap.size w w') : NVV w' v l := by
  obtain ⟨A, c, vs, e, hl, hp, h2⟩ := h
  exact ⟨A, c, vs, e, hl, hp.on hb, fun i hi => let ⟨u, h3, h4⟩ := h2 i hi; ⟨u, h3, h4.on hb⟩⟩
theorem NVV.nil (w : World) : NVV w (.slice none 0 0) [] := ⟨none, 0, [], rfl, rfl, Lies.nil, fun i h => absurd h (by simp)⟩
theorem NVV.part {w : World} {v : Value} {ps : List (List Nt)} (h : NVV w v ps) : ∃ (A : Option Addr) (c : Nat), v = .slice A ps.length c ∧ ∀ (i : Nat) (hi : i < ps.length), ∃ (ad : Addr) (u : Value), A = some ad ∧ ad.block < w.heap.size ∧ w.cell? (ad.add i) = some u ∧ NV w u ps[i] := by
  obtain ⟨A, c, vs, e, hl, hp, h2⟩ := h
  refine ⟨A, c, e, fun i hi => ?_⟩
  obtain ⟨u, h3, h4⟩ := h2 i hi
  obtain ⟨ad, e1, hB, hc⟩ := hp (by rw [hl]; omega)
  obtain ⟨hi2, h5⟩ := List.getElem?_eq_some_iff.1 h3
  have h6 := hc i hi2 0 u (by rw [h5]; rfl)
  rw [Addr.add_zero', Nat.mul_one] at h6
  exact ⟨ad, u, e1, hB, h6, h4⟩
theorem NV.shape {w : World} {u : Value} {p : List Nt} (h : NV w u p) : ∃ B d, u = .slice B p.length d := let ⟨B, d, e, _⟩ := h; ⟨B, d, e⟩
theorem NVV.shape {w : World} {u : Value} {p : List (List Nt)} (h : NVV w u p) : ∃ B d, u = .slice B p.length d := let ⟨B, d, _, e, _⟩ := h; ⟨B, d, e⟩

set_option maxHeartbeats 1000000 in
set_option maxRecDepth 100000 in
theorem few_any (A : Option Addr) (c : Nat) (l : List Nt) (w : World) (hA : Nts w w.heap.size A l) :
    Calls Try.prog 9 #[.slice A l.length c] w fun e w' => ∃ R, e = .returned (.bool R) ∧ (R = true → l.length ≤ 60) ∧ Below w.heap.size w w' := by
  obtain ⟨n, hl⟩ : ∃ n, l.length = n := ⟨_, rfl⟩
  rw [hl]
  have HL := Lib.hid hl
  have HA := Lib.hid hA
  clear hl hA
  by_cases h60 : n ≤ 60
  case neg =>
    have hd : decide (60 < (n : Int)) = true := by simp; omega
    have hd' : decide (60 < n) = true := by simp; omega
    clear h60
    go_enter Try.func9, Try.ntmps9
    go_wp2
    go_ret
    exact ⟨_, rfl, fun h => (by cases h), Below.refl _ _⟩
  have hd : decide (60 < (n : Int)) = false := by simp; omega
  have hd' : decide (60 < n) = false := by simp; omega
  go_enter Try.func9, Try.ntmps9
  go_wp2
  go_loopw [10] (fun i wr => ∃ (k : Nat), i = .int .i64 k ∧ k ≤ n ∧ Below w.heap.size w wr) (fun i _ => (n - intOf i).toNat)
  case atStart => exact ⟨0, rfl, by omega, Below.refl _ _⟩
  case round =>
    obtain ⟨k, rfl, hk, hbr⟩ := hrel
    by_cases hlt : k < n
    · obtain ⟨ad, rfl, hab, hca⟩ := (HA.out.below hbr).seeN (by rw [HL.out]; omega)
      obtain ⟨c1, c2, c3, c4⟩ := hca k (by rw [HL.out]; omega)
      obtain ⟨x, hx⟩ : ∃ x, x = l[k]'(by rw [HL.out]; omega) := ⟨_, rfl⟩
      rw [← hx] at c1 c2 c3 c4
      clear hx hca
      obtain ⟨xk, xkey, xval, xn⟩ := x
      simp only at c1 c2 c3 c4
      have hlt3 : (ad.add (k * 4)).block < w.heap.size := by rw [block_of_add]; exact hab
      by_cases h1 : xkey.size ≤ 300
      · have hd1 : decide (300 < (xkey.size : Int)) = false := by simp; omega
        by_cases h2 : xval.size ≤ 300
        · have hd2 : decide (300 < (xval.size : Int)) = false := by simp; omega
          go_wp2
          go_roundw
          case rel => exact ⟨k + 1, by go_num, by omega, hbr.alloc hbr.size _⟩
          case measure => simp [intOf]; omega
        · have hd2 : decide (300 < (xval.size : Int)) = true := by simp; omega
          go_wp2
          go_ret
          exact ⟨_, rfl, fun h => (by cases h), hbr.alloc hbr.size _⟩
      · have hd1 : decide (300 < (xkey.size : Int)) = true := by simp; omega
        go_wp2
        go_ret
        exact ⟨_, rfl, fun h => (by cases h), hbr.alloc hbr.size _⟩
    · have H60 := Lib.hid h60
      go_wp2
      go_ret
      exact ⟨_, rfl, fun _ => H60.out, hbr⟩
theorem few_v {v : Value} {l : List Nt} {w : World} (h : NV w v l) :
    Calls Try.prog 9 #[v] w fun e w' => ∃ R, e = .returned (.bool R) ∧ (R = true → l.length ≤ 60) ∧ Below w.heap.size w w' := by
  obtain ⟨A, c, rfl, h1, h2, h3⟩ := h
  exact few_any A c l w h1


end Go.Proofs.Ytaboccbakicmhaa
