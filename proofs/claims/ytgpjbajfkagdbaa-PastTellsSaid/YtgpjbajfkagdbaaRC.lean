/- The walk of the document's May of a change. -/
import Derived.Test.YtgpjbajfkagdbaaCD
import Derived.Test.YtgpjbajfkagdbaaTl
import Derived.Test.YtgpjbajfkagdbaaPh
set_option linter.unusedVariables false
set_option linter.unusedSimpArgs false
namespace Go.Proofs.Ytgpjbajfkagdbaa
open Go.RowKit Go.Sort

set_option maxRecDepth 100000 in
set_option maxHeartbeats 2000000 in
theorem dmay_any (s : Int) (k : ByteArray) (had : Bool) (xb : ByteArray) (has : Bool) (xa : ByteArray) (w : World) :
    Calls Try.prog 37 #[.agg #[.int .i64 s, .string k, .bool had, .string xb, .bool has, .string xa]] w fun e w' => e = .returned (.bool (mayC ⟨s, k, had, xb, has, xa⟩)) ∧ Below w.heap.size w w' := by
  obtain ⟨R, hR⟩ : ∃ R, R = mayC ⟨s, k, had, xb, has, xa⟩ := ⟨_, rfl⟩
  rw [← hR]
  have hF : ¬ (1 ≤ s ∧ s ≤ 2147483647 ∧ k.size ≤ 16 ∧ xb.size ≤ 32 ∧ xa.size ≤ 32) → R = false := fun hn => by
    rw [hR]
    cases hh : mayC ⟨s, k, had, xb, has, xa⟩ with
    | false => rfl
    | true => exact absurd (may_of hh) hn
  by_cases h1 : 1 ≤ s
  case neg =>
    obtain rfl := hF (fun h => h1 h.1)
    clear hR hF
    go_enter Try.func37, Try.ntmps37
    go_wp2
    go_ret
    exact ⟨rfl, (Below.refl _ _).alloc (Nat.le_refl _) _⟩
  have hd1 : decide (s < 1) = false := by simp; omega
  by_cases h2 : s ≤ 2147483647
  case neg =>
    have hd2 : decide (2147483647 < s) = true := by simp; omega
    obtain rfl := hF (fun h => h2 h.2.1)
    clear hR hF
    go_enter Try.func37, Try.ntmps37
    go_wp2
    go_ret
    exact ⟨rfl, (Below.refl _ _).alloc (Nat.le_refl _) _⟩
  have hd2 : decide (2147483647 < s) = false := by simp; omega
  by_cases h3 : k.size ≤ 16
  case neg =>
    have hd3 : decide (16 < (k.size : Int)) = true := by simp; omega
    obtain rfl := hF (fun h => h3 h.2.2.1)
    clear hR hF
    go_enter Try.func37, Try.ntmps37
    go_wp2
    go_ret
    exact ⟨rfl, (Below.refl _ _).alloc (Nat.le_refl _) _⟩
  have hd3 : decide (16 < (k.size : Int)) = false := by simp; omega
  by_cases h4 : xb.size ≤ 32
  case neg =>
    have hd4 : decide (32 < (xb.size : Int)) = true := by simp; omega
    obtain rfl := hF (fun h => h4 h.2.2.2.1)
    clear hR hF
    go_enter Try.func37, Try.ntmps37
    go_wp2
    go_ret
    exact ⟨rfl, (Below.refl _ _).alloc (Nat.le_refl _) _⟩
  have hd4 : decide (32 < (xb.size : Int)) = false := by simp; omega
  by_cases h5 : xa.size ≤ 32
  case neg =>
    have hd5 : decide (32 < (xa.size : Int)) = true := by simp; omega
    obtain rfl := hF (fun h => h5 h.2.2.2.2)
    clear hR hF
    go_enter Try.func37, Try.ntmps37
    go_wp2
    go_ret
    exact ⟨rfl, (Below.refl _ _).alloc (Nat.le_refl _) _⟩
  have hd5 : decide (32 < (xa.size : Int)) = false := by simp; omega
  rw [may_in h1 h2 h3 h4 h5] at hR
  clear hF h1 h2 h3 h4 h5
  obtain ⟨e1, he1⟩ : ∃ e, xb.toList.isEmpty = e := ⟨_, rfl⟩
  obtain ⟨e2, he2⟩ : ∃ e, xa.toList.isEmpty = e := ⟨_, rfl⟩
  rw [he1, he2] at hR
  have HR := Lib.hid hR
  clear hR
  cases had <;> cases has <;> cases e1 <;> cases e2 <;>
  · go_enter Try.func37, Try.ntmps37
    go_wp2
    go_ret
    rw [HR.out]
    exact ⟨rfl, (Below.refl _ _).alloc (Nat.le_refl _) _⟩

end Go.Proofs.Ytgpjbajfkagdbaa

namespace Go.Proofs.Ytgpjbajfkagdbaa
open Go.RowKit

set_option maxRecDepth 100000 in
set_option maxHeartbeats 8000000 in
theorem dright_v {v : Value} {l : List Ch} {w : World} (h : CV w v l) (hn : l.length ≤ 100000) :
    Calls Try.prog 23 #[v] w fun e w' => e = .returned (.bool (trailB l)) ∧ Below w.heap.size w w' := by
  obtain ⟨A, c, rfl, hA, _⟩ := h
  obtain ⟨n, hl⟩ : ∃ n, l.length = n := ⟨_, rfl⟩
  rw [hl] at hn ⊢
  have HL := Lib.hid hl
  have HA := Lib.hid hA
  clear hl hA
  go_enter Try.func23, Try.ntmps23
  go_wp2
  go_loopw [3] (fun i wr => ∃ (k : Nat), i = .int .i64 k ∧ k ≤ n ∧ Hid (∀ i (h : i < l.length), i < k → okAt l i h) ∧ Below w.heap.size w wr) (fun i _ => (n - intOf i).toNat)
  case atStart => exact ⟨0, rfl, by omega, (show ∀ i (h : i < l.length), i < 0 → okAt l i h from fun i h h0 => absurd h0 (by omega)), Below.refl _ _⟩
  case round =>
    obtain ⟨k, rfl, hk, HALL, hbr⟩ := hrel
    by_cases hlt : k < n
    · have hkl : k < l.length := by rw [HL.out]; exact hlt
      obtain ⟨ad, rfl, hab, hca⟩ := (HA.out.below hbr).seeC (by rw [HL.out]; omega)
      obtain ⟨c0, c1, c2, c3, c4, c5⟩ := hca k hkl
      have hprev : ∀ j (hj : j + 1 = k), wr.cell? (ad.add (j * 6)) = some (.int .i64 (l[j]'(by omega)).seq) := fun j hj => (hca j (by omega)).1
      obtain ⟨x, hx⟩ : ∃ x, x = l[k]'hkl := ⟨_, rfl⟩
      have HX := Lib.hid hx
      have HPV := Lib.hid hprev
      have HKL := Lib.hid hkl
      rw [← hx] at c0 c1 c2 c3 c4 c5
      have HNEXT := Lib.hid (show okAt l k hkl → Hid (∀ i (h : i < l.length), i < k + 1 → okAt l i h) from fun hok => (show ∀ i (h : i < l.length), i < k + 1 → okAt l i h from fun i h hi => by
        by_cases e : i = k
        · subst e; exact hok
        · exact HALL.out i h (by omega)))
      clear hx hca hprev
      obtain ⟨s, key, m, b, d, a⟩ := x
      simp only at c0 c1 c2 c3 c4 c5
      have hmay := fun w => dmay_any s key m b d a w
      obtain ⟨M, hM⟩ : ∃ M, M = mayC ⟨s, key, m, b, d, a⟩ := ⟨_, rfl⟩
      rw [← hM] at hmay
      have HM := Lib.hid hM
      have HMAY := Lib.hid hmay
      clear hM hmay
      go_wp2_with fail
      refine (HMAY.out _).mono ?_
      rintro e w1 ⟨rfl, hb⟩
      have HBR2 := Lib.hid (hbr.trans (hb.mono hbr.size))
      have d0 := (hb.cell (lt_of_cell c0)).trans c0
      have HPV2 := Lib.hid (show ∀ j (hj : j + 1 = k), w1.cell? (ad.add (j * 6)) = some (.int .i64 (l[j]'(by have := HKL.out; omega)).seq) from fun j hj => (hb.cell (lt_of_cell (HPV.out j hj))).trans (HPV.out j hj))
      clear hb c0 c1 c2 c3 c4 c5 hab hbr HPV HMAY
      cases M with
      | false =>
        clear d0
        go_wp2
        go_ret
        exact ⟨by rw [trail_f (i := k) (h := HKL.out) (fun hk => by have := hk.1; rw [← HX.out, ← HM.out] at this; cases this)]; rfl, HBR2.out⟩
      | true =>
        by_cases hk0 : k = 0
        · subst hk0
          go_wp2
          go_quiet (fail)
          go_wp2
          go_roundw
          case rel => exact ⟨0 + 1, by go_num, by omega, HNEXT.out ⟨by rw [← HX.out, ← HM.out], fun h0 => absurd h0 (by omega)⟩, below_drewN HBR2.out _⟩
          case measure => simp [intOf]; omega
        · obtain ⟨j, hj⟩ : ∃ j, j + 1 = k := ⟨k - 1, by omega⟩
          have hjl : j < l.length := by have := HKL.out; omega
          obtain ⟨ps, hps⟩ : ∃ ps, ps = (l[j]'hjl).seq := ⟨_, rfl⟩
          have hpc : w1.cell? (ad.add (j * 6)) = some (.int .i64 ps) := by rw [hps]; exact HPV2.out j hj
          have HOK := Lib.hid (show okAt l k HKL.out ↔ ps < s from by
            have e : k - 1 = j := by omega
            unfold okAt
            simp only [e, ← HX.out, ← hps, ← HM.out, true_and]
            exact ⟨fun h => h (by omega), fun h _ => h⟩)
          have hwk : IntKind.i64.wrap ((k : Int) - 1) = (j : Int) := by rw [IntKind.wrap_i64]; omega
          have hjn : (j : Int) < (n : Int) := by omega
          have hjn2 : j < n := by omega
          have hk1 : 0 < k := by omega
          have HJ := Lib.hid hj
          clear hps hjl hj
          by_cases hd : s ≤ ps
          · have hD : decide (s ≤ ps) = true := decide_eq_true hd
            have HD := Lib.hid hd
            clear hd
            go_wp2
            go_quiet (fail)
            go_wp2
            go_ret
            exact ⟨by rw [trail_f (i := k) (h := HKL.out) (fun hk => by have h1 := HOK.out.1 hk; have := HD.out; omega)]; rfl, below_drewN HBR2.out _⟩
          · have hD : decide (s ≤ ps) = false := decide_eq_false hd
            have HD := Lib.hid hd
            clear hd
            go_wp2
            go_quiet (fail)
            go_wp2
            go_roundw
            case rel => exact ⟨k + 1, by go_num, by omega, HNEXT.out (HOK.out.2 (by have := HD.out; omega)), below_drewN HBR2.out _⟩
            case measure => simp [intOf]; omega
    · have hkn : k = n := by omega
      have HE := Lib.hid (trail_all fun i h => HALL.out i h (by rw [HL.out] at h; omega))
      clear hkn
      go_wp2
      go_ret
      rw [HE.out]
      exact ⟨rfl, hbr⟩

end Go.Proofs.Ytgpjbajfkagdbaa
