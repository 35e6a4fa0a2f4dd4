/- The walk of the document's Right of what waits. -/
import Derived.Test.YtaboccbakicmhaaApp
import Derived.Test.YtaboccbakicmhaaRNote
import Derived.Test.YtaboccbakicmhaaPP
set_option linter.unusedVariables false
set_option linter.unusedSimpArgs false
namespace Go.Proofs.Ytaboccbakicmhaa
open Go.RowKit

set_option maxHeartbeats 2000000 in
set_option maxRecDepth 100000 in
theorem dwell_any (A : Option Addr) (c : Nat) (l : List Nt) (w : World) (hA : Nts w w.heap.size A l) (hn : l.length ≤ maxLen) :
    Calls Try.prog 14 #[.slice A l.length c] w fun e w' => e = .returned (.bool (wellN l)) ∧ Below w.heap.size w w' := by
  have hal := dall_any A c l w hA hn
  unfold maxLen at hn
  obtain ⟨R, hR⟩ : ∃ R, R = wellN l := ⟨_, rfl⟩
  obtain ⟨R1, hR1⟩ : ∃ R1, R1 = l.all rightN := ⟨_, rfl⟩
  rw [← hR]
  rw [← hR1] at hal
  have HY := Lib.hid (show (∀ i (h : i < l.length), 0 < i → l[i - 1].key < l[i].key) → R = R1 from fun h => by
    rw [hR, hR1, Bool.eq_iff_iff, wellN_iff]
    exact ⟨fun h1 => h1.1, fun h1 => ⟨h1, h⟩⟩)
  have HNo := Lib.hid (show ∀ i (h : i < l.length), 0 < i → ¬ l[i - 1].key < l[i].key → R = false from fun i h h0 hn => by
    rw [hR]
    cases e : wellN l with
    | false => rfl
    | true => exact absurd (((wellN_iff l).1 e).2 i h h0) hn)
  clear hR hR1
  obtain ⟨n, hl⟩ : ∃ n, l.length = n := ⟨_, rfl⟩
  rw [hl] at hn hal ⊢
  have HL := Lib.hid hl
  have HA := Lib.hid hA
  clear hl hA
  go_enter Try.func14, Try.ntmps14
  go_wp2_with fail
  refine hal.mono ?_
  clear hal
  rintro e w1 ⟨rfl, hb1⟩
  have HB1 := Lib.hid hb1
  clear hb1
  go_wp2
  go_loopw [4] (fun i wr => ∃ (k : Nat), i = .int .i64 k ∧ 1 ≤ k ∧ Hid (∀ i (h : i < l.length), 0 < i → i < k → l[i - 1].key < l[i].key) ∧ Below w.heap.size w wr) (fun i _ => (n - intOf i).toNat)
  case atStart => exact ⟨1, rfl, by omega, fun i h h0 h1 => by omega, HB1.out⟩
  case round =>
    obtain ⟨k, rfl, hk, HG, hbr⟩ := hrel
    by_cases hlt : k < n
    · obtain ⟨ad, rfl, hab, hca⟩ := (HA.out.below hbr).seeN (by rw [HL.out]; omega)
      have hkl : k < l.length := by rw [HL.out]; exact hlt
      have c2 := (hca k hkl).2.1
      have hk1 : k - 1 < l.length := by omega
      obtain ⟨kp, hkp⟩ : ∃ kp, kp = k - 1 := ⟨_, rfl⟩
      have hkpl : kp < l.length := by omega
      have wk : IntKind.i64.wrap ((k : Int) - 1) = (kp : Int) := by rw [IntKind.wrap_i64]; omega
      have hkn : kp < n := by omega
      have d2 := (hca kp hkpl).2.1
      obtain ⟨xe, hxe⟩ : ∃ x, x = (l[k]'hkl).key := ⟨_, rfl⟩
      obtain ⟨pe, hpe⟩ : ∃ x, x = (l[kp]'hkpl).key := ⟨_, rfl⟩
      rw [← hxe] at c2
      rw [← hpe] at d2
      have HX := Lib.hid hxe
      have HP := Lib.hid (show (l[k - 1]'hk1).key = pe from by rw [hpe]; congr 2; exact hkp.symm)
      clear hxe hpe hca hkp
      by_cases hkk : pe < xe
      · have hles : Op.bytesLess pe.toList xe.toList = true := lt_iff.1 hkk
        have HG2 := Lib.hid (show ∀ i (h : i < l.length), 0 < i → i < k + 1 → l[i - 1].key < l[i].key from fun i h h0 h1 => by
          by_cases hi : i < k
          · exact HG.out i h h0 hi
          · have : i = k := by omega
            subst this
            rw [HP.out, ← HX.out]; exact hkk)
        clear HG hkk
        go_wp2
        go_quiet (fail)
        go_wp2
        go_roundw
        case rel => exact ⟨k + 1, by go_num, by omega, HG2.out, below_drewN hbr _⟩
        case measure => simp [intOf]; omega
      · have hles : Op.bytesLess pe.toList xe.toList = false := by
          have h1 : ltS pe xe = false := by rw [ltS_eq]; exact decide_eq_false hkk
          exact h1
        have HE := Lib.hid (HNo.out k hkl (by omega) (by rw [HP.out, ← HX.out]; exact hkk))
        clear HG hkk
        go_wp2
        go_quiet (fail)
        go_wp2
        go_ret
        rw [HE.out]
        exact ⟨rfl, below_drewN hbr _⟩
    · have HE := Lib.hid (HY.out fun i h h0 => HG.out i h h0 (by rw [HL.out] at h; omega))
      go_wp2
      go_ret
      rw [HE.out]
      exact ⟨rfl, hbr⟩
theorem dwell_v {v : Value} {l : List Nt} {w : World} (h : NV w v l) (hn : l.length ≤ maxLen) :
    Calls Try.prog 14 #[v] w fun e w' => e = .returned (.bool (wellN l)) ∧ Below w.heap.size w w' := by
  obtain ⟨A, c, rfl, h1, h2, h3⟩ := h
  exact dwell_any A c l w h1 hn

end Go.Proofs.Ytaboccbakicmhaa
