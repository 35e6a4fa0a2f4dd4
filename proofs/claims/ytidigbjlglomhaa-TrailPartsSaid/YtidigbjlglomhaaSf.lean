/- The walk of few. -/
import Derived.Test.YtidigbjlglomhaaCv
set_option linter.unusedVariables false
set_option linter.unusedSimpArgs false
namespace Go.Proofs.Ytidigbjlglomhaa
open Go.RowKit

set_option maxHeartbeats 2000000 in
set_option maxRecDepth 100000 in
theorem few_any (A : Option Addr) (c : Nat) (l : List Ch) (w : World) (hA : Chs w w.heap.size A l) :
    Calls Try.prog 9 #[.slice A l.length c] w fun e w' => ∃ R, e = .returned (.bool R) ∧ (R = true → l.length ≤ 60 ∧ ∀ c ∈ l, c.key.size ≤ maxLen) ∧ Below w.heap.size w w' := by
  have HK := Lib.hid (show (∀ i (h : i < l.length), l[i].key.size ≤ 300) → ∀ c ∈ l, c.key.size ≤ maxLen from fun h c hc => by
    obtain ⟨i, hi, rfl⟩ := List.getElem_of_mem hc
    have := h i hi
    unfold maxLen; omega)
  obtain ⟨n, hl⟩ : ∃ n, l.length = n := ⟨_, rfl⟩
  rw [hl]
  have HL := Lib.hid hl
  have HA := Lib.hid hA
  clear hl hA
  by_cases h60 : n ≤ 60
  case neg =>
    have hd : decide (60 < (n : Int)) = true := by simp; omega
    have hd' : decide (60 < n) = true := by simp; omega
    clear h60
    go_enter Try.func9, Try.ntmps9
    go_wp2
    go_ret
    exact ⟨_, rfl, fun h => (by cases h), Below.refl _ _⟩
  have hd : decide (60 < (n : Int)) = false := by simp; omega
  have hd' : decide (60 < n) = false := by simp; omega
  go_enter Try.func9, Try.ntmps9
  go_wp2
  go_loopw [10] (fun i wr => ∃ (k : Nat), i = .int .i64 k ∧ k ≤ n ∧ (∀ j (h : j < l.length), j < k → l[j].key.size ≤ 300) ∧ Below w.heap.size w wr) (fun i _ => (n - intOf i).toNat)
  case atStart => exact ⟨0, rfl, by omega, fun j h h0 => absurd h0 (by omega), Below.refl _ _⟩
  case round =>
    obtain ⟨k, rfl, hk, hall, hbr⟩ := hrel
    have HALL := Lib.hid hall
    clear hall
    by_cases hlt : k < n
    · obtain ⟨ad, rfl, hab, hca⟩ := (HA.out.below hbr).seeC (by rw [HL.out]; omega)
      obtain ⟨c0, c1, c2, c3, c4, c5⟩ := hca k (by rw [HL.out]; omega)
      obtain ⟨x, hx⟩ : ∃ x, x = l[k]'(by rw [HL.out]; omega) := ⟨_, rfl⟩
      rw [← hx] at c0 c1 c2 c3 c4 c5
      have HX := Lib.hid hx
      clear hx hca
      obtain ⟨s, key, m, b, d, a⟩ := x
      simp only at c0 c1 c2 c3 c4 c5
      have hlt3 : (ad.add (k * 6)).block < w.heap.size := by rw [block_of_add]; exact hab
      by_cases h1 : key.size ≤ 300
      · have hd1 : decide (300 < (key.size : Int)) = false := by simp; omega
        have HALL2 := Lib.hid (show ∀ j (h : j < l.length), j < k + 1 → l[j].key.size ≤ 300 from fun j h hj => by
          by_cases e : j = k
          · subst e; rw [← HX.out]; exact h1
          · exact HALL.out j h (by omega))
        by_cases h2 : b.size ≤ 300
        · have hd2 : decide (300 < (b.size : Int)) = false := by simp; omega
          by_cases h3 : a.size ≤ 300
          · have hd3 : decide (300 < (a.size : Int)) = false := by simp; omega
            go_wp2
            go_roundw
            case rel => exact ⟨k + 1, by go_num, by omega, HALL2.out, hbr.alloc hbr.size _⟩
            case measure => simp [intOf]; omega
          · have hd3 : decide (300 < (a.size : Int)) = true := by simp; omega
            go_wp2
            go_ret
            exact ⟨_, rfl, fun h => (by cases h), hbr.alloc hbr.size _⟩
        · have hd2 : decide (300 < (b.size : Int)) = true := by simp; omega
          go_wp2
          go_ret
          exact ⟨_, rfl, fun h => (by cases h), hbr.alloc hbr.size _⟩
      · have hd1 : decide (300 < (key.size : Int)) = true := by simp; omega
        go_wp2
        go_ret
        exact ⟨_, rfl, fun h => (by cases h), hbr.alloc hbr.size _⟩
    · have H60 := Lib.hid h60
      go_wp2
      go_ret
      exact ⟨_, rfl, fun _ => ⟨H60.out, HK.out fun i hi => HALL.out i hi (by rw [HL.out] at hi; omega)⟩, hbr⟩

theorem few_v {v : Value} {l : List Ch} {w : World} (h : CV w v l) : Calls Try.prog 9 #[v] w fun e w' => ∃ R, e = .returned (.bool R) ∧ (R = true → l.length ≤ 60 ∧ ∀ c ∈ l, c.key.size ≤ maxLen) ∧ Below w.heap.size w w' := by
  obtain ⟨A, c, rfl, h1, _⟩ := h
  exact few_any A c l w h1

end Go.Proofs.Ytidigbjlglomhaa
