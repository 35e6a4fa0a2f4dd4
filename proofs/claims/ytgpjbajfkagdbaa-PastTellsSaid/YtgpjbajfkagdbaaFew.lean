/- The walks of allNotes and alike. -/
import Derived.Test.YtgpjbajfkagdbaaPrs
import Derived.Test.YtgpjbajfkagdbaaWRightN
set_option linter.unusedVariables false
set_option linter.unusedSimpArgs false
namespace Go.Proofs.Ytgpjbajfkagdbaa
open Go.RowKit

theorem add0 (ad : Addr) : ad.add (0 * 4) = ad := by rw [Nat.zero_mul]; exact Addr.add_zero' ad

set_option maxRecDepth 100000 in
set_option maxHeartbeats 2000000 in
theorem allnotes_any (A : Option Addr) (c : Nat) (l : List Nt) (w : World) (hA : Nts w w.heap.size A l) (hn : l.length ≤ maxLen) :
    Calls Try.prog 63 #[.slice A l.length c] w fun e w' => e = .returned (.bool (l.all rightN)) ∧ Below w.heap.size w w' := by
  unfold maxLen at hn
  obtain ⟨R, hR⟩ : ∃ R, R = l.all rightN := ⟨_, rfl⟩
  rw [← hR]
  have HY := Lib.hid (show (∀ i (h : i < l.length), rightN l[i] = true) → R = true from fun h => by
    rw [hR, List.all_eq_true]
    intro x hx
    obtain ⟨i, hi, rfl⟩ := List.getElem_of_mem hx
    exact h i hi)
  have HNo := Lib.hid (show ∀ i (h : i < l.length), rightN l[i] = false → R = false from fun i h h1 => by
    rw [hR, List.all_eq_false]
    exact ⟨l[i], List.getElem_mem _, by rw [h1]; simp⟩)
  clear hR
  obtain ⟨n, hl⟩ : ∃ n, l.length = n := ⟨_, rfl⟩
  rw [hl] at hn ⊢
  have HL := Lib.hid hl
  have HA := Lib.hid hA
  clear hl hA
  go_enter Try.func63, Try.ntmps63
  go_wp2
  go_loopw [7] (fun i wr => ∃ (k : Nat), i = .int .i64 k ∧ k ≤ n ∧ Hid (∀ i (h : i < l.length), i < k → rightN l[i] = true) ∧ Below w.heap.size w wr) (fun i _ => (n - intOf i).toNat)
  case atStart => exact ⟨0, rfl, by omega, fun i h h0 => by omega, Below.refl _ _⟩
  case round =>
    obtain ⟨k, rfl, hk, HG, hbr⟩ := hrel
    by_cases hlt : k < n
    · obtain ⟨ad, rfl, hab, hca⟩ := (HA.out.below hbr).seeN (by rw [HL.out]; omega)
      have hkl : k < l.length := by rw [HL.out]; exact hlt
      obtain ⟨c1, c2, c3, c4⟩ := hca k hkl
      obtain ⟨x, hx⟩ : ∃ x, x = l[k]'hkl := ⟨_, rfl⟩
      rw [← hx] at c1 c2 c3 c4
      have HX := Lib.hid hx
      clear hx hca
      obtain ⟨xk, xkey, xval, xn⟩ := x
      simp only at c1 c2 c3 c4
      have hlt3 : (ad.add (k * 4)).block < w.heap.size := by rw [block_of_add]; exact hab
      have hbs := hbr.size
      go_wp2_with fail
      refine (right_any xk xkey xval xn _).mono ?_
      rintro e w1 ⟨rfl, hb1⟩
      have hbr1 : Below w.heap.size w w1 := (hbr.alloc hbs _).trans (hb1.mono (by simp; omega))
      clear hb1 c1 c2 c3 c4
      cases hf : rightN ⟨xk, xkey, xval, xn⟩ with
      | false =>
        have HE := Lib.hid (HNo.out k hkl (by rw [← HX.out]; exact hf))
        clear hf
        go_wp2
        go_ret
        rw [HE.out]
        exact ⟨rfl, hbr1⟩
      | true =>
        have HG2 := Lib.hid (show ∀ i (h : i < l.length), i < k + 1 → rightN l[i] = true from fun i h h1 => by
          by_cases hi : i < k
          · exact HG.out i h hi
          · have : i = k := by omega
            subst this
            rw [← HX.out]; exact hf)
        clear hf HG
        go_wp2
        go_roundw
        case rel => exact ⟨k + 1, by go_num, by omega, HG2, hbr1⟩
        case measure => simp [intOf]; omega
    · have HE := Lib.hid (HY.out fun i h => HG.out i h (by rw [HL.out] at h; omega))
      go_wp2
      go_ret
      rw [HE.out]
      exact ⟨rfl, hbr⟩

set_option maxRecDepth 100000 in
set_option maxHeartbeats 2000000 in
theorem alike_any (A : Option Addr) (c : Nat) (l : List Nt) (w : World) (B : Nat) (hA : Nts w B A l) (hn : l.length ≤ maxLen) (h0 : 0 < l.length) :
    Calls Try.prog 73 #[.slice A l.length c] w fun e w' => (∃ m : Nat, e = .returned (.int .i64 m) ∧ 0 < m ∧ m ≤ l.length ∧ (∀ i (h : i < l.length), i < m → l[i].key = (l[0]'h0).key) ∧ (∀ h : m < l.length, l[m].key ≠ (l[0]'h0).key)) ∧ Below w.heap.size w w' := by
  unfold maxLen at hn
  obtain ⟨ad, rfl, hab, hca⟩ := hA.seeN h0
  obtain ⟨k0, hk0⟩ : ∃ k0, k0 = (l[0]'h0).key := ⟨_, rfl⟩
  have c0 := (hca 0 h0).2.1
  rw [add0, ← hk0] at c0
  rw [← hk0]
  have HK0 := Lib.hid hk0
  obtain ⟨n, hl⟩ : ∃ n, l.length = n := ⟨_, rfl⟩
  have h0n : 0 < n := by omega
  have h0i : (0 : Int) < (n : Int) := by omega
  have HL := Lib.hid hl
  have HCA := Lib.hid hca
  rw [hl] at hn
  suffices H : Calls Try.prog 73 #[.slice (some ad) l.length c] w fun e w' => (∃ m : Nat, e = .returned (.int .i64 m) ∧ 0 < m ∧ m ≤ n ∧ (∀ i (h : i < l.length), i < m → l[i].key = k0) ∧ (∀ h : m < l.length, l[m].key ≠ k0)) ∧ Below w.heap.size w w' from
    H.mono fun e w' ⟨⟨m, h1, h2, h3, h4, h5⟩, h6⟩ => ⟨⟨m, h1, h2, by omega, h4, h5⟩, h6⟩
  have he : (Value.slice (some ad) l.length c) = .slice (some ad) n c := by rw [hl]
  rw [he]
  clear he
  clear hl hca hk0 hA
  go_enter Try.func73, Try.ntmps73
  go_wp2
  go_loopw [3] (fun i wr => ∃ (k q : Nat), i = .int .i64 k ∧ wr = w.drewN q ∧ k ≤ n ∧ Hid (∀ i (h : i < l.length), i < k → l[i].key = k0)) (fun i _ => (n - intOf i).toNat)
  case atStart => exact ⟨0, 0, rfl, rfl, by omega, fun i h h1 => by omega⟩
  case round =>
    obtain ⟨k, q, rfl, rfl, hk, HG⟩ := hrel
    have d0 : (w.drewN q).cell? ⟨ad.block, ad.off + 1, none⟩ = some (.string k0) := c0
    by_cases hlt : k < n
    · have hkl : k < l.length := by rw [HL.out]; exact hlt
      have ck : (w.drewN q).cell? ⟨(ad.add (k * 4)).block, (ad.add (k * 4)).off + 1, none⟩ = some (.string (l[k]'hkl).key) := (HCA.out k hkl).2.1
      obtain ⟨x, hx⟩ : ∃ x, x = (l[k]'hkl).key := ⟨_, rfl⟩
      rw [← hx] at ck
      have HX := Lib.hid hx
      have hlti : (k : Int) < (n : Int) := by omega
      have hd1 : decide ((k : Int) < (n : Int)) = true := by simp; omega
      have hd2 : decide (k < n) = true := decide_eq_true hlt
      clear hx
      obtain ⟨w0, hw0⟩ : ∃ w0, w0 = w.drewN q := ⟨_, rfl⟩
      rw [← hw0] at d0 ck ⊢
      have HW := Lib.hid hw0
      clear hw0
      by_cases hxk : x = k0
      · subst hxk
        have HG2 := Lib.hid (show ∀ i (h : i < l.length), i < k + 1 → l[i].key = x from fun i h h1 => by
          by_cases hi : i < k
          · exact HG.out i h hi
          · have : i = k := by omega
            subst this
            exact HX.out.symm)
        clear HG
        go_wp2
        go_quiet (fail)
        go_wp2
        go_roundw
        case rel => exact ⟨k + 1, _, by go_num, by rw [HW.out, World.drewN_drewN], by omega, HG2⟩
        case measure => simp [intOf]; omega
      · have hz := str_ne hxk
        have HNE := Lib.hid hxk
        have hk0 := Lib.hid (show 0 < k from by
          rcases Nat.eq_zero_or_pos k with h | h
          · exfalso
            subst h
            exact hxk (by rw [HX.out, HK0.out])
          · exact h)
        clear hxk
        go_wp2
        go_quiet (fail)
        go_wp2
        go_ret
        exact ⟨⟨k, rfl, hk0.out, hk, HG.out, fun h => by rw [← HX.out]; exact HNE.out⟩, by rw [HW.out]; exact below_drewN (below_drewN (Below.refl _ _) _) _⟩
    · have hkn : k = n := by omega
      have hd1 : decide ((k : Int) < (n : Int)) = false := by simp; omega
      have hd2 : decide (k < n) = false := decide_eq_false hlt
      have HKN := Lib.hid hkn
      obtain ⟨w0, hw0⟩ : ∃ w0, w0 = w.drewN q := ⟨_, rfl⟩
      rw [← hw0] at d0 ⊢
      have HW := Lib.hid hw0
      clear hw0 hkn
      go_wp2
      go_quiet (fail)
      go_wp2
      go_ret
      exact ⟨⟨k, rfl, by have := HKN.out; omega, by have := HKN.out; omega, HG.out, fun h => by have := HKN.out; have := HL.out; omega⟩, by rw [HW.out]; exact below_drewN (below_drewN (Below.refl _ _) _) _⟩

end Go.Proofs.Ytgpjbajfkagdbaa
