/- The walk of the document's in. -/
import Derived.Test.YtodcngkcaeahhaaWBefore
namespace Go.Proofs.Ytodcngkcaeahhaa
open Go.RowKit

theorem use_take {q : Int} {l : List Ex} {k : Nat} (h : k < l.length) : useB q (l.take (k + 1)) = (useB q (l.take k) || (decide (l[k].a ≤ q) && decide (q < l[k].a + l[k].n))) := by
  unfold useB
  rw [List.take_succ_eq_append_getElem h, List.any_append]
  simp
theorem use_in {q : Int} {l : List Ex} {k : Nat} (h : k < l.length) (h1 : l[k].a ≤ q) (h2 : q < l[k].a + l[k].n) : useB q l = true :=
  (use_iff q l).2 ⟨l[k], List.getElem_mem h, h1, h2⟩

set_option maxHeartbeats 2000000 in
theorem in_any (q : Int) (A : Option Addr) (c : Nat) (l : List Ex) (w : World) (hA : Exs w w.heap.size A l) (hn : l.length ≤ 100000) (hin : ∀ x ∈ l, 0 ≤ x.a ∧ 0 < x.n ∧ x.a + x.n ≤ 2147483647) :
    Calls Try.prog 24 #[.int .i64 q, .slice A l.length c] w fun e w' => e = .returned (.bool (useB q l)) ∧ Below w.heap.size w w' := by
  generalize hl : l.length = n at *
  have HL := Lib.hid hl
  have HA := Lib.hid hA
  have HIN := Lib.hid hin
  clear hl hA hin
  go_enter Try.func24, Try.ntmps24
  go_wp2
  go_loopw [5] (fun i wr => ∃ (k : Nat), i = .int .i64 k ∧ k ≤ n ∧ useB q (l.take k) = false ∧ Below w.heap.size w wr) (fun i _ => (n - intOf i).toNat)
  case atStart => exact ⟨0, rfl, by omega, rfl, Below.refl _ _⟩
  case round =>
    obtain ⟨k, rfl, hk, hu, hbr⟩ := hrel
    have HU := Lib.hid hu
    clear hu
    by_cases hlt : k < n
    · obtain ⟨ad, rfl, hab, hca⟩ := (HA.out.below hbr).seeE (by rw [HL.out]; omega)
      obtain ⟨x1, x2⟩ := hca k (by rw [HL.out]; omega)
      have hi := HIN.out _ (List.getElem_mem (by rw [HL.out]; omega : k < l.length))
      have HT := Lib.hid (use_take (q := q) (l := l) (k := k) (by rw [HL.out]; omega))
      have HS := Lib.hid (show (l[k]'(by rw [HL.out]; omega)).a ≤ q → q < (l[k]'(by rw [HL.out]; omega)).a + (l[k]'(by rw [HL.out]; omega)).n → useB q l = true from fun h1 h2 => use_in (by rw [HL.out]; exact hlt) h1 h2)
      obtain ⟨x, hx⟩ : ∃ x, x = l[k]'(by rw [HL.out]; omega) := ⟨_, rfl⟩
      rw [← hx] at x1 x2 HT hi HS
      clear hx hca
      obtain ⟨xa, xn⟩ := x
      obtain ⟨i1, i2, i3⟩ := hi
      simp only at x1 x2 i1 i2 i3 HT HS
      have hlt3 : (ad.add (k * 2)).block < w.heap.size := by rw [block_of_add]; exact hab
      have hwr : IntKind.i64.wrap (xa + xn) = xa + xn := IntWalk.i64_in _ (by omega)
      by_cases c1 : q ≥ xa
      · by_cases c2 : q < xa + xn
        · have HE := Lib.hid (HS.out c1 c2)
          go_wp2
          go_quiet (fail)
          go_wp2
          go_ret
          rw [HE.out]
          exact ⟨rfl, below_drewN hbr _⟩
        · have HE := Lib.hid (show useB q (l.take (k + 1)) = false by rw [HT.out, HU.out, decide_eq_false c2]; simp)
          go_wp2
          go_quiet (fail)
          go_wp2
          go_roundw
          case rel => exact ⟨k + 1, by go_num, by omega, HE.out, below_drewN hbr _⟩
          case measure => simp [intOf]; omega
      · have HE := Lib.hid (show useB q (l.take (k + 1)) = false by rw [HT.out, HU.out, decide_eq_false (show ¬ xa ≤ q by omega)]; simp)
        have hd : decide (xa ≤ q) = false := decide_eq_false (by omega)
        go_wp2
        go_quiet (fail)
        go_wp2
        go_roundw
        case rel => exact ⟨k + 1, by go_num, by omega, HE.out, below_drewN hbr _⟩
        case measure => simp [intOf]; omega
    · have HE := Lib.hid (show useB q l = false by have h := HU.out; rwa [List.take_of_length_le (by rw [HL.out]; omega)] at h)
      go_wp2
      go_ret
      rw [HE.out]
      exact ⟨rfl, hbr⟩

end Go.Proofs.Ytodcngkcaeahhaa
