/- The walks of the document's Right, Find and Less of pairs. -/
import Derived.Test.YtnlmdgbkfoofoaaApp
set_option linter.unusedVariables false
set_option linter.unusedSimpArgs false
namespace Go.Proofs.Ytnlmdgbkfoofoaa
open Go.RowKit

set_option maxHeartbeats 2000000 in
set_option maxRecDepth 100000 in
theorem dright_pr (A : Option Addr) (c : Nat) (l : List Pr) (w : World) (hA : Prs w w.heap.size A l) (hn : l.length ≤ maxLen) :
    Calls Try.prog 27 #[.slice A l.length c] w fun e w' => e = .returned (.bool (wellL l)) ∧ Below w.heap.size w w' := by
  unfold maxLen at hn
  obtain ⟨R, hR⟩ : ∃ R, R = wellL l := ⟨_, rfl⟩
  rw [← hR]
  have HY := Lib.hid (show (∀ i (h : i < l.length), fitsP l[i] = true ∧ (0 < i → l[i - 1].k < l[i].k)) → R = true from fun h => by rw [hR]; exact (wellL_iff l).2 h)
  have HNo := Lib.hid (show ∀ i (h : i < l.length), ¬ (fitsP l[i] = true ∧ (0 < i → l[i - 1].k < l[i].k)) → R = false from fun i h hn => by rw [hR]; exact wellL_no i h hn)
  clear hR
  obtain ⟨n, hl⟩ : ∃ n, l.length = n := ⟨_, rfl⟩
  rw [hl] at hn ⊢
  have HL := Lib.hid hl
  have HA := Lib.hid hA
  clear hl hA
  go_enter Try.func27, Try.ntmps27
  go_wp2
  go_loopw [3] (fun i wr => ∃ (k : Nat), i = .int .i64 k ∧ k ≤ n ∧ Hid (∀ i (h : i < l.length), i < k → fitsP l[i] = true ∧ (0 < i → l[i - 1].k < l[i].k)) ∧ Below w.heap.size w wr) (fun i _ => (n - intOf i).toNat)
  case atStart => exact ⟨0, rfl, by omega, fun i h h0 => by omega, Below.refl _ _⟩
  case round =>
    obtain ⟨k, rfl, hk, HG, hbr⟩ := hrel
    by_cases hlt : k < n
    · obtain ⟨ad, rfl, hab, hca⟩ := (HA.out.below hbr).seeP (by rw [HL.out]; omega)
      have hkl : k < l.length := by rw [HL.out]; exact hlt
      obtain ⟨c1, c2⟩ := hca k hkl
      obtain ⟨x, hx⟩ : ∃ x, x = l[k]'hkl := ⟨_, rfl⟩
      rw [← hx] at c1 c2
      have HX := Lib.hid hx
      clear hx
      obtain ⟨xk, xv⟩ := x
      simp only at c1 c2
      have HCA := Lib.hid hca
      clear hca
      by_cases h16 : xk.size ≤ 16
      case neg =>
        have hd16 : decide (16 < (xk.size : Int)) = true := by simp; omega
        have HE := Lib.hid (HNo.out k hkl (fun h => h16 ((fitsP_iff ⟨xk, xv⟩).1 (by rw [HX.out]; exact h.1)).1))
        clear h16
        go_wp2
        go_ret
        rw [HE.out]
        exact ⟨rfl, hbr⟩
      have hd16 : decide (16 < (xk.size : Int)) = false := by simp; omega
      by_cases h32 : xv.size ≤ 32
      case neg =>
        have hd32 : decide (32 < (xv.size : Int)) = true := by simp; omega
        have HE := Lib.hid (HNo.out k hkl (fun h => h32 ((fitsP_iff ⟨xk, xv⟩).1 (by rw [HX.out]; exact h.1)).2))
        clear h32 h16
        go_wp2
        go_ret
        rw [HE.out]
        exact ⟨rfl, hbr⟩
      have hd32 : decide (32 < (xv.size : Int)) = false := by simp; omega
      have HF := Lib.hid (show fitsP (l[k]'hkl) = true by rw [← HX.out]; exact (fitsP_iff _).2 ⟨h16, h32⟩)
      clear h16 h32
      by_cases h0 : k = 0
      · have HG2 := Lib.hid (show ∀ i (h : i < l.length), i < k + 1 → fitsP l[i] = true ∧ (0 < i → l[i - 1].k < l[i].k) from fun i h h1 => by
          have : i = k := by omega
          subst this
          exact ⟨HF.out, by omega⟩)
        have hd0 : decide (0 < k) = false := decide_eq_false (by omega)
        have hd0' : decide (0 < (k : Int)) = false := decide_eq_false (by omega)
        clear HG h0
        go_wp2
        go_quiet (fail)
        go_wp2
        go_roundw
        case rel => exact ⟨k + 1, by go_num, by omega, HG2.out, below_drewN hbr _⟩
        case measure => simp [intOf]; omega
      · have hk1 : k - 1 < l.length := by omega
        obtain ⟨kp, hkp⟩ : ∃ kp, kp = k - 1 := ⟨_, rfl⟩
        have hkpl : kp < l.length := by omega
        have wk : IntKind.i64.wrap ((k : Int) - 1) = (kp : Int) := by rw [IntKind.wrap_i64]; omega
        have hkn : kp < n := by omega
        have HKP := Lib.hid hkp
        clear hkp
        have hcp := (HCA.out kp hkpl).1
        obtain ⟨pk, hpk⟩ : ∃ pk, pk = (l[kp]'hkpl).k := ⟨_, rfl⟩
        rw [← hpk] at hcp
        have e1 : (l[k - 1]'hk1).k = pk := by rw [hpk]; congr 2; exact HKP.out.symm
        have hd0 : decide (0 < k) = true := decide_eq_true (by omega)
        have hd0' : decide (0 < (k : Int)) = true := decide_eq_true (by omega)
        by_cases hkk : pk < xk
        · have hles : Op.bytesLess pk.toList xk.toList = true := lt_iff.1 hkk
          have HG2 := Lib.hid (show ∀ i (h : i < l.length), i < k + 1 → fitsP l[i] = true ∧ (0 < i → l[i - 1].k < l[i].k) from fun i h h1 => by
            by_cases hi : i < k
            · exact HG.out i h hi
            · have : i = k := by omega
              subst this
              exact ⟨HF.out, fun _ => by rw [e1, ← HX.out]; exact hkk⟩)
          clear HG hpk e1 hkk
          go_wp2
          go_quiet (fail)
          go_wp2
          go_roundw
          case rel => exact ⟨k + 1, by go_num, by omega, HG2.out, below_drewN hbr _⟩
          case measure => simp [intOf]; omega
        · have hles : Op.bytesLess pk.toList xk.toList = false := by
            have h1 : ltS pk xk = false := by rw [ltS_eq]; exact decide_eq_false hkk
            exact h1
          have HE := Lib.hid (HNo.out k hkl (fun h => hkk (by have := h.2 (by omega); rw [e1, ← HX.out] at this; exact this)))
          clear HG hpk e1 hkk
          go_wp2
          go_quiet (fail)
          go_wp2
          go_ret
          rw [HE.out]
          exact ⟨rfl, below_drewN hbr _⟩
    · have HE := Lib.hid (HY.out fun i h => HG.out i h (by rw [HL.out] at h; omega))
      go_wp2
      go_ret
      rw [HE.out]
      exact ⟨rfl, hbr⟩

/-- What Find answers. -/
def FoundAt (l : List Pr) (key : ByteArray) (z : Int) : Prop := (z = -1 ∧ ∀ p ∈ l, p.k ≠ key) ∨ ∃ i : Nat, z = i ∧ ∃ h : i < l.length, l[i].k = key
set_option maxHeartbeats 1000000 in
set_option maxRecDepth 100000 in
theorem dfind_any (A : Option Addr) (c : Nat) (l : List Pr) (key : ByteArray) (w : World) (hA : Prs w w.heap.size A l) (hn : l.length ≤ maxLen) :
    Calls Try.prog 43 #[.slice A l.length c, .string key] w fun e w' => ∃ z, e = .returned (.int .i64 z) ∧ FoundAt l key z ∧ Below w.heap.size w w' := by
  unfold maxLen at hn
  obtain ⟨n, hl⟩ : ∃ n, l.length = n := ⟨_, rfl⟩
  rw [hl] at hn ⊢
  have HL := Lib.hid hl
  have HA := Lib.hid hA
  clear hl hA
  go_enter Try.func43, Try.ntmps43
  go_wp2
  go_loopw [5] (fun i wr => ∃ (k : Nat), i = .int .i64 k ∧ k ≤ n ∧ Hid (∀ i (h : i < l.length), i < k → l[i].k ≠ key) ∧ Below w.heap.size w wr) (fun i _ => (n - intOf i).toNat)
  case atStart => exact ⟨0, rfl, by omega, fun i h h0 => by omega, Below.refl _ _⟩
  case round =>
    obtain ⟨k, rfl, hk, HG, hbr⟩ := hrel
    by_cases hlt : k < n
    · obtain ⟨ad, rfl, hab, hca⟩ := (HA.out.below hbr).seeP (by rw [HL.out]; omega)
      have hkl : k < l.length := by rw [HL.out]; exact hlt
      obtain ⟨c1, c2⟩ := hca k hkl
      obtain ⟨x, hx⟩ : ∃ x, x = (l[k]'hkl).k := ⟨_, rfl⟩
      rw [← hx] at c1
      have HX := Lib.hid hx
      clear hx hca c2
      by_cases hxk : x = key
      · subst hxk
        clear HG
        go_wp2
        go_ret
        exact ⟨_, rfl, .inr ⟨k, rfl, hkl, HX.out.symm⟩, hbr⟩
      · have hz := str_ne hxk
        have HG2 := Lib.hid (show ∀ i (h : i < l.length), i < k + 1 → l[i].k ≠ key from fun i h h1 => by
          by_cases hi : i < k
          · exact HG.out i h hi
          · have : i = k := by omega
            subst this
            rw [← HX.out]; exact hxk)
        clear HG hxk
        go_wp2
        go_roundw
        case rel => exact ⟨k + 1, by go_num, by omega, HG2.out, hbr⟩
        case measure => simp [intOf]; omega
    · have HE := Lib.hid (show FoundAt l key (-1) from .inl ⟨rfl, fun p hp => by
        obtain ⟨i, hi, rfl⟩ := List.getElem_of_mem hp
        exact HG.out i hi (by rw [HL.out] at hi; omega)⟩)
      go_wp2
      go_ret
      exact ⟨_, rfl, HE.out, hbr⟩

end Go.Proofs.Ytnlmdgbkfoofoaa
