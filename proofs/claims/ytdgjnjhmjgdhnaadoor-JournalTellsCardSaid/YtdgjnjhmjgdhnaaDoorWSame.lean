/- A slice of strings that reads as a list, and the walk of the document's Same. -/
import Derived.Test.YtdgjnjhmjgdhnaaDoorPk
import Derived.Test.YtdgjnjhmjgdhnaaDoorStrs
import Derived.Maps.AppendAt
import Derived.Deep.AppendLies
import Derived.Laws.OwnMore
import Derived.Deep.Draws
namespace Go.Proofs.YtdgjnjhmjgdhnaaDoor
open Go.RowKit

set_option maxHeartbeats 400000 in
theorem same_any (A B : Option Addr) (c d : Nat) (xs ys : List ByteArray) (w : World) (ha : Strs w w.heap.size A xs) (hb : Strs w w.heap.size B ys) (hla : xs.length ≤ maxLen) (_hlb : ys.length ≤ maxLen) :
    Calls Tryd.prog 15 #[.slice A xs.length c, .slice B ys.length d] w fun e w' => e = .returned (.bool (decide (xs = ys))) ∧ Below w.heap.size w w' := by
  unfold maxLen at hla
  by_cases hl : xs.length = ys.length
  · generalize hn : xs.length = n at *
    have Hl := Lib.hid hl.symm
    have Hn := Lib.hid hn
    have hl2 := hl
    rw [← hl]
    have hne : ((n : Int) != (n : Int)) = false := by simp
    have Ha := Lib.hid ha
    have Hb := Lib.hid hb
    clear hl hn ha hb hl2
    go_enter Tryd.func15, Tryd.ntmps15
    go_wp2
    go_loopw [5] (fun i wr => ∃ (k : Nat), i = .int .i64 k ∧ k ≤ n ∧ xs.take k = ys.take k ∧ Below w.heap.size w wr) (fun i _ => (n - intOf i).toNat)
    case atStart => exact ⟨0, rfl, by omega, by simp, Below.refl _ _⟩
    case round =>
      obtain ⟨k, rfl, hk, htk, hbr⟩ := hrel
      have HT := Lib.hid htk
      clear htk
      by_cases hlt : k < n
      · obtain ⟨a1, rfl, hab, hca⟩ := (Ha.out.below hbr) (by rw [Hn.out]; omega)
        obtain ⟨b1, rfl, hbb, hcb⟩ := (Hb.out.below hbr) (by rw [Hl.out]; omega)
        have c1 := hca k (by rw [Hn.out]; omega)
        have c2 := hcb k (by rw [Hl.out]; omega)
        obtain ⟨x, hx⟩ : ∃ x, x = xs[k]'(by rw [Hn.out]; omega) := ⟨_, rfl⟩
        obtain ⟨y, hy⟩ : ∃ y, y = ys[k]'(by rw [Hl.out]; omega) := ⟨_, rfl⟩
        rw [← hx] at c1
        rw [← hy] at c2
        have HX := Lib.hid hx
        have HY := Lib.hid hy
        clear hx hy hca hcb
        by_cases hxy : x = y
        · subst hxy
          go_wp2
          go_quiet (fail)
          go_wp2
          go_roundw
          case rel => exact ⟨k + 1, by go_num, by omega, by rw [List.take_succ_eq_append_getElem (by rw [Hn.out]; omega), List.take_succ_eq_append_getElem (by rw [Hl.out]; omega), HT.out, ← HX.out, ← HY.out], below_drewN hbr _⟩
          case measure => simp [intOf]; omega
        · have hz := str_ne hxy
          have e : xs ≠ ys := fun h => hxy (by rw [HX.out, HY.out]; simp [h])
          have HE := Lib.hid (decide_eq_false e)
          clear e hxy
          go_wp2
          go_quiet (fail)
          go_wp2
          go_ret
          rw [HE.out]
          exact ⟨rfl, below_drewN hbr _⟩
      · have hkn : k = n := by omega
        have Hk := Lib.hid hkn
        clear hkn
        go_wp2
        go_ret
        have e : xs = ys := by
          have h := HT.out
          rwa [Hk.out, List.take_of_length_le (by rw [Hn.out]; omega), List.take_of_length_le (by rw [Hl.out]; omega)] at h
        rw [decide_eq_true e]
        exact ⟨rfl, hbr⟩
  · have e : xs ≠ ys := fun h => hl (by rw [h])
    have HE := Lib.hid (decide_eq_false e)
    have hne : ((xs.length : Int) != (ys.length : Int)) = true := by simp; omega
    clear e hl ha hb
    go_enter Tryd.func15, Tryd.ntmps15
    go_wp2
    go_ret
    rw [HE.out]
    exact ⟨rfl, Below.refl _ _⟩

end Go.Proofs.YtdgjnjhmjgdhnaaDoor
