/- A slice of strings that reads as a list, and the walk of the document's Same. -/
import Derived.Test.YtngiadcbmfbonaaWTake
import Derived.Maps.AppendAt
import Derived.Deep.AppendLies
import Derived.Laws.OwnMore
import Derived.Deep.Draws
namespace Go.Proofs.Ytngiadcbmfbonaa
open Go.RowKit

theorem str_eq {x y : ByteArray} (h : x = y) : (x.toList == y.toList) = true := by simp [h]
theorem str_ne {x y : ByteArray} (h : x ≠ y) : (x.toList == y.toList) = false := by
  rw [beq_eq_false_iff_ne, ByteArray.toList_eq, ByteArray.toList_eq]
  exact fun e => h (ByteArray.ext (Array.toList_inj.1 e))

theorem block_of_add (a : Addr) (n : Nat) : (a.add n).block = a.block := by unfold Addr.add; split <;> rfl

/-- The slice value '.slice A n c' holds the strings ss, and lies below block B; of an empty one nothing is asked. -/
def Strs (w : World) (B : Nat) (A : Option Addr) (ss : List ByteArray) : Prop :=
  0 < ss.length → ∃ ad, A = some ad ∧ ad.block < B ∧ ∀ (i : Nat) (h : i < ss.length), w.cell? (ad.add i) = some (.string ss[i])

theorem Strs.nil (w : World) (B : Nat) (A : Option Addr) : Strs w B A [] := fun h => absurd h (by simp)
theorem Strs.below {w w' : World} {B : Nat} {A : Option Addr} {ss : List ByteArray} (h : Strs w B A ss) (hb : Below B w w') : Strs w' B A ss := fun hl => by
  obtain ⟨ad, e, hB, hc⟩ := h hl
  exact ⟨ad, e, hB, fun i hi => (hb.cell (by rw [block_of_add]; exact hB)).trans (hc i hi)⟩
theorem Strs.more {w : World} {B B' : Nat} {A : Option Addr} {ss : List ByteArray} (h : Strs w B A ss) (hB : B ≤ B') : Strs w B' A ss := fun hl => by
  obtain ⟨ad, e, hb, hc⟩ := h hl
  exact ⟨ad, e, by omega, hc⟩

set_option maxHeartbeats 400000 in
theorem same_any (A B : Option Addr) (c d : Nat) (xs ys : List ByteArray) (w : World) (ha : Strs w w.heap.size A xs) (hb : Strs w w.heap.size B ys) (hla : xs.length ≤ maxLen) (_hlb : ys.length ≤ maxLen) :
    Calls Try.prog 21 #[.slice A xs.length c, .slice B ys.length d] w fun e w' => e = .returned (.bool (decide (xs = ys))) ∧ Below w.heap.size w w' := by
  unfold maxLen at hla
  by_cases hl : xs.length = ys.length
  · generalize hn : xs.length = n at *
    have Hl := Lib.hid hl.symm
    have Hn := Lib.hid hn
    have hl2 := hl
    rw [← hl]
    have hne : ((n : Int) != (n : Int)) = false := by simp
    have Ha := Lib.hid ha
    have Hb := Lib.hid hb
    clear hl hn ha hb hl2
    go_enter Try.func21, Try.ntmps21
    go_wp2
    go_loopw [5] (fun i wr => ∃ (k : Nat), i = .int .i64 k ∧ k ≤ n ∧ xs.take k = ys.take k ∧ Below w.heap.size w wr) (fun i _ => (n - intOf i).toNat)
    case atStart => exact ⟨0, rfl, by omega, by simp, Below.refl _ _⟩
    case round =>
      obtain ⟨k, rfl, hk, htk, hbr⟩ := hrel
      have HT := Lib.hid htk
      clear htk
      by_cases hlt : k < n
      · obtain ⟨a1, rfl, hab, hca⟩ := (Ha.out.below hbr) (by rw [Hn.out]; omega)
        obtain ⟨b1, rfl, hbb, hcb⟩ := (Hb.out.below hbr) (by rw [Hl.out]; omega)
        have c1 := hca k (by rw [Hn.out]; omega)
        have c2 := hcb k (by rw [Hl.out]; omega)
        obtain ⟨x, hx⟩ : ∃ x, x = xs[k]'(by rw [Hn.out]; omega) := ⟨_, rfl⟩
        obtain ⟨y, hy⟩ : ∃ y, y = ys[k]'(by rw [Hl.out]; omega) := ⟨_, rfl⟩
        rw [← hx] at c1
        rw [← hy] at c2
        have HX := Lib.hid hx
        have HY := Lib.hid hy
        clear hx hy hca hcb
        by_cases hxy : x = y
        · subst hxy
          go_wp2
          go_quiet (fail)
          go_wp2
          go_roundw
          case rel => exact ⟨k + 1, by go_num, by omega, by rw [List.take_succ_eq_append_getElem (by rw [Hn.out]; omega), List.take_succ_eq_append_getElem (by rw [Hl.out]; omega), HT.out, ← HX.out, ← HY.out], below_drewN hbr _⟩
          case measure => simp [intOf]; omega
        · have hz := str_ne hxy
          have e : xs ≠ ys := fun h => hxy (by rw [HX.out, HY.out]; simp [h])
          have HE := Lib.hid (decide_eq_false e)
          clear e hxy
          go_wp2
          go_quiet (fail)
          go_wp2
          go_ret
          rw [HE.out]
          exact ⟨rfl, below_drewN hbr _⟩
      · have hkn : k = n := by omega
        have Hk := Lib.hid hkn
        clear hkn
        go_wp2
        go_ret
        have e : xs = ys := by
          have h := HT.out
          rwa [Hk.out, List.take_of_length_le (by rw [Hn.out]; omega), List.take_of_length_le (by rw [Hl.out]; omega)] at h
        rw [decide_eq_true e]
        exact ⟨rfl, hbr⟩
  · have e : xs ≠ ys := fun h => hl (by rw [h])
    have HE := Lib.hid (decide_eq_false e)
    have hne : ((xs.length : Int) != (ys.length : Int)) = true := by simp; omega
    clear e hl ha hb
    go_enter Try.func21, Try.ntmps21
    go_wp2
    go_ret
    rw [HE.out]
    exact ⟨rfl, Below.refl _ _⟩

end Go.Proofs.Ytngiadcbmfbonaa
