/- Slices of pairs; the walks of the document's Same, of Clone, fits and Right. -/
import Derived.Test.YtgpjbajfkagdbaaLf
import Derived.Test.YtgpjbajfkagdbaaNts
import Derived.Test.YtgpjbajfkagdbaaWNote
import Derived.Shelf.SlSortCmp.QuietGrown
import Derived.Test.YtgpjbajfkagdbaaInv
import Derived.BigQuiet
import Derived.Deep.DeepCutAuto
import Derived.Deep.QuietTactic
set_option linter.unusedVariables false
set_option linter.unusedSimpArgs false
namespace Go.Proofs.Ytgpjbajfkagdbaa
open Go.RowKit Go.Sort

def Pr.cells (p : Pr) : List Value := [.string p.k, .string p.v]
theorem Pr.cells2 (p : Pr) : p.cells.length = 2 := rfl

/-- The slice value '.slice A l.length c' holds the pairs l. -/
abbrev Prs (w : World) (B : Nat) (A : Option Addr) (l : List Pr) : Prop := Lies Pr.cells 2 w B A l
theorem Lies.seeP {w : World} {B : Nat} {A : Option Addr} {l : List Pr} (h : Prs w B A l) (hl : 0 < l.length) : ∃ ad, A = some ad ∧ ad.block < B ∧ ∀ (i : Nat) (h : i < l.length),
    w.cell? (ad.add (i * 2)) = some (.string l[i].k) ∧ w.cell? ⟨(ad.add (i * 2)).block, (ad.add (i * 2)).off + 1, none⟩ = some (.string l[i].v) := by
  obtain ⟨ad, e, hB, hc⟩ := h hl
  refine ⟨ad, e, hB, fun i hi => ⟨?_, ?_⟩⟩
  · have := hc i hi 0 _ rfl; rwa [Addr.add_zero'] at this
  · have := hc i hi 1 _ rfl; rwa [Addr.add_succ'] at this

theorem pair_info : (Try.prog.info? 41).map (fun i => (i.zero, i.size, i.bytes)) = some (some (.agg #[.string ⟨#[]⟩, .string ⟨#[]⟩]), 2, 32) := by kernel_rfl

theorem below_drewN {w0 w : World} {B : Nat} (h : Below B w0 w) (n : Nat) : Below B w0 (w.drewN n) := ⟨h.os, h.tape, h.output, h.size, h.block⟩
theorem prs_len (l : List Pr) : (l.flatMap Pr.cells).length = l.length * 2 := by
  induction l with
  | nil => rfl
  | cons x l ih => rw [List.flatMap_cons, List.length_append, ih, Pr.cells2, List.length_cons]; omega
theorem prs_cells {w : World} {B : Nat} {ad : Addr} {l : List Pr} (h : Prs w B (some ad) l) : ∀ j u, (l.flatMap Pr.cells)[j]? = some u → w.cell? (ad.add j) = some u := by
  intro j u hu
  have hj : j < l.length * 2 := by rw [← prs_len]; exact (List.getElem?_eq_some_iff.1 hu).1
  obtain ⟨ad', e, _, hc⟩ := h (by omega)
  injection e with e
  subst e
  have h1 := flat_get Pr.cells2 l (j / 2) (by omega) (j % 2) (by omega)
  rw [show j / 2 * 2 + j % 2 = j by omega, hu] at h1
  have h2 := hc (j / 2) (by omega) (j % 2) u h1.symm
  rwa [Go.Addr.add_add, show j / 2 * 2 + j % 2 = j by omega] at h2
theorem prs_plain (l : List Pr) : ∀ u ∈ l.flatMap Pr.cells, u.oneCell' = true := by
  intro u hu
  obtain ⟨x, _, hx⟩ := List.mem_flatMap.1 hu
  unfold Pr.cells at hx
  simp at hx
  rcases hx with rfl | rfl <;> rfl
theorem prs_none {w : World} {B : Nat} {l : List Pr} (h : Prs w B none l) : l = [] := by
  rcases l with _ | ⟨t, l⟩
  · rfl
  · obtain ⟨_, e, _⟩ := h (by simp)
    cases e

set_option maxHeartbeats 1000000 in
theorem same_any (A B : Option Addr) (c d : Nat) (xs ys : List Pr) (w : World) (ha : Prs w w.heap.size A xs) (hb : Prs w w.heap.size B ys) (hla : xs.length ≤ maxLen) :
    Calls Try.prog 16 #[.slice A xs.length c, .slice B ys.length d] w fun e w' => e = .returned (.bool (decide (xs = ys))) ∧ Below w.heap.size w w' := by
  unfold maxLen at hla
  by_cases hl : xs.length = ys.length
  · generalize hn : xs.length = n at *
    have Hl := Lib.hid hl.symm
    have Hn := Lib.hid hn
    have hne : ((n : Int) != (n : Int)) = false := by simp
    rw [← hl]
    have Ha := Lib.hid ha
    have Hb := Lib.hid hb
    clear hl hn ha hb
    go_enter Try.func16, Try.ntmps16
    go_wp2
    go_loopw [5] (fun i wr => ∃ (k : Nat), i = .int .i64 k ∧ k ≤ n ∧ xs.take k = ys.take k ∧ Below w.heap.size w wr) (fun i _ => (n - intOf i).toNat)
    case atStart => exact ⟨0, rfl, by omega, by simp, Below.refl _ _⟩
    case round =>
      obtain ⟨k, rfl, hk, htk, hbr⟩ := hrel
      have HT := Lib.hid htk
      clear htk
      by_cases hlt : k < n
      · obtain ⟨a1, rfl, hab, hca⟩ := (Ha.out.below hbr).seeP (by rw [Hn.out]; omega)
        obtain ⟨b1, rfl, hbb, hcb⟩ := (Hb.out.below hbr).seeP (by rw [Hl.out]; omega)
        obtain ⟨c1, c2⟩ := hca k (by rw [Hn.out]; omega)
        obtain ⟨d1, d2⟩ := hcb k (by rw [Hl.out]; omega)
        obtain ⟨x, hx⟩ : ∃ x, x = xs[k]'(by rw [Hn.out]; omega) := ⟨_, rfl⟩
        obtain ⟨y, hy⟩ : ∃ y, y = ys[k]'(by rw [Hl.out]; omega) := ⟨_, rfl⟩
        rw [← hx] at c1 c2
        rw [← hy] at d1 d2
        have HX := Lib.hid hx
        have HY := Lib.hid hy
        clear hx hy hca hcb
        obtain ⟨xk, xv⟩ := x
        obtain ⟨yk, yv⟩ := y
        simp only at c1 c2 d1 d2
        by_cases hxy : xk = yk ∧ xv = yv
        · obtain ⟨rfl, rfl⟩ := hxy
          go_wp2
          go_quiet (fail)
          go_wp2
          go_roundw
          case rel => exact ⟨k + 1, by go_num, by omega, by rw [List.take_succ_eq_append_getElem (by rw [Hn.out]; omega), List.take_succ_eq_append_getElem (by rw [Hl.out]; omega), HT.out, ← HX.out, ← HY.out], below_drewN hbr _⟩
          case measure => simp [intOf]; omega
        · have e : xs ≠ ys := fun h => hxy (by
            have h1 : (⟨xk, xv⟩ : Pr) = ⟨yk, yv⟩ := by rw [HX.out, HY.out]; simp [h]
            injection h1 with h1 h2
            exact ⟨h1, h2⟩)
          have HE := Lib.hid (decide_eq_false e)
          by_cases h1 : xk = yk
          · have hz := str_ne (fun h2 : xv = yv => hxy ⟨h1, h2⟩)
            subst h1
            clear e hxy
            go_wp2
            go_quiet (fail)
            go_wp2
            go_ret
            rw [HE.out]
            exact ⟨rfl, below_drewN hbr _⟩
          · have hz := str_ne h1
            clear e hxy h1
            go_wp2
            go_quiet (fail)
            go_wp2
            go_ret
            rw [HE.out]
            exact ⟨rfl, below_drewN hbr _⟩
      · have hkn : k = n := by omega
        have Hk := Lib.hid hkn
        clear hkn
        go_wp2
        go_ret
        have e : xs = ys := by
          have h := HT.out
          rwa [Hk.out, List.take_of_length_le (by rw [Hn.out]; omega), List.take_of_length_le (by rw [Hl.out]; omega)] at h
        rw [decide_eq_true e]
        exact ⟨rfl, hbr⟩
  · have e : xs ≠ ys := fun h => hl (by rw [h])
    have HE := Lib.hid (decide_eq_false e)
    have hne : ((xs.length : Int) != (ys.length : Int)) = true := by simp; omega
    clear e hl ha hb
    go_enter Try.func16, Try.ntmps16
    go_wp2
    go_ret
    rw [HE.out]
    exact ⟨rfl, Below.refl _ _⟩

set_option maxHeartbeats 1000000 in
set_option maxRecDepth 100000 in
theorem clone_pr (A : Option Addr) (c : Nat) (W : List Pr) (w : World) (hA : Prs w w.heap.size A W) (hn : W.length ≤ 1000000) :
    Calls Try.prog 28 #[.slice A W.length c] w fun e w' => ∃ v', e = .returned v' ∧ w'.ownsRow w.heap.size 41 2 v' W.length (W.flatMap Pr.cells) ∧ Below w.heap.size w w' := by
  have q : ∀ (w : World) (a : Option Addr) (n c n' c' : Nat), (binOp .eql 22 (.slice a n c) (.slice none n' c')).run Try.prog w = .ok (.bool a.isNone) w := fun w a n c n' c' => Lib.run_eql_slice_nil w _ _ a n c n' c' Try.underlying22
  rcases A with _ | ad
  · obtain rfl := prs_none hA
    clear hA
    go_enter Try.func28, Try.ntmps28
    go_wp2
    go_ret
    exact ⟨_, rfl, World.ownsRow_nil _ _ _ _, Below.refl _ _⟩
  · obtain ⟨i0, hi0, hz0, hz1, hz2⟩ := info_parts pair_info
    have HC := Lib.hid (prs_cells hA)
    generalize hs : W.length = n at *
    have HS := Lib.hid hs
    clear hs hA
    go_enter Try.func28, Try.ntmps28
    go_wp2_with (at_builtin; refine wpList_append_own _ rfl _ _ 22 rfl w.heap.size 41 i0 (.agg #[.string ⟨#[]⟩, .string ⟨#[]⟩]) 2 32 Try.underlying22 hi0 hz0 hz1 hz2 rfl (by decide) _ _ _ rfl (World.ownsRow_made w #[] 0 (Nat.le_refl _) (Nat.zero_le _) rfl) ad n c (W.flatMap Pr.cells) rfl (by rw [prs_len, HS.out]) ?c1 (prs_plain W) ?c3 ?c4 ?c5 ?_)
    case c1 =>
      intro j u hu
      have h1 := HC.out j u hu
      exact ((Below.refl _ w).alloc (Nat.le_refl _) _).cell (lt_of_cell h1) |>.trans h1
    case c3 => unfold maxLen; omega
    case c4 => omega
    case c5 => simp
    intro v' w1 hown hgrow _
    go_wp2
    go_ret
    exact ⟨v', rfl, by simpa using hown, ((Below.refl _ w).alloc (Nat.le_refl _) _).grown hgrow (by simp) (by intro k hk; simp [Value.ownBlock] at hk; omega)⟩

set_option maxHeartbeats 1000000 in
set_option maxRecDepth 100000 in
theorem clone_nt (A : Option Addr) (c : Nat) (W : List Nt) (w : World) (hA : Nts w w.heap.size A W) (hn : W.length ≤ 1000000) :
    Calls Try.prog 74 #[.slice A W.length c] w fun e w' => ∃ v', e = .returned v' ∧ w'.ownsRow w.heap.size 48 4 v' W.length (W.flatMap Nt.cells) ∧ Below w.heap.size w w' := by
  have q : ∀ (w : World) (a : Option Addr) (n c n' c' : Nat), (binOp .eql 45 (.slice a n c) (.slice none n' c')).run Try.prog w = .ok (.bool a.isNone) w := fun w a n c n' c' => Lib.run_eql_slice_nil w _ _ a n c n' c' Try.underlying45
  rcases A with _ | ad
  · obtain rfl := nts_none hA
    clear hA
    go_enter Try.func74, Try.ntmps74
    go_wp2
    go_ret
    exact ⟨_, rfl, World.ownsRow_nil _ _ _ _, Below.refl _ _⟩
  · obtain ⟨i0, hi0, hz0, hz1, hz2⟩ := info_parts note_info
    have HC := Lib.hid (nts_cells hA)
    generalize hs : W.length = n at *
    have HS := Lib.hid hs
    clear hs hA
    go_enter Try.func74, Try.ntmps74
    go_wp2_with (at_builtin; refine wpList_append_own _ rfl _ _ 45 rfl w.heap.size 48 i0 (.agg #[.int .i64 0, .string ⟨#[]⟩, .string ⟨#[]⟩, .int .u64 0]) 4 48 Try.underlying45 hi0 hz0 hz1 hz2 rfl (by decide) _ _ _ rfl (World.ownsRow_made w #[] 0 (Nat.le_refl _) (Nat.zero_le _) rfl) ad n c (W.flatMap Nt.cells) rfl (by rw [nts_len, HS.out]) ?c1 (nts_plain W) ?c3 ?c4 ?c5 ?_)
    case c1 =>
      intro j u hu
      have h1 := HC.out j u hu
      exact ((Below.refl _ w).alloc (Nat.le_refl _) _).cell (lt_of_cell h1) |>.trans h1
    case c3 => unfold maxLen; omega
    case c4 => omega
    case c5 => simp
    intro v' w1 hown hgrow _
    go_wp2
    go_ret
    exact ⟨v', rfl, by simpa using hown, ((Below.refl _ w).alloc (Nat.le_refl _) _).grown hgrow (by simp) (by intro k hk; simp [Value.ownBlock] at hk; omega)⟩

set_option maxHeartbeats 1000000 in
set_option maxRecDepth 100000 in
theorem fits_any (xk xv : ByteArray) (w : World) :
    Calls Try.prog 31 #[.agg #[.string xk, .string xv]] w fun e w' => e = .returned (.bool (fitsP ⟨xk, xv⟩)) ∧ ∃ q os', w' = grow (w.drewN q) os' := by
  by_cases h : xk.size ≤ 16
  · have hd : decide ((xk.size : Int) ≤ 16) = true := by simp; omega
    have hR : fitsP ⟨xk, xv⟩ = decide ((xv.size : Int) ≤ 32) := by
      unfold fitsP
      simp only [decide_eq_true h, Bool.true_and]
      exact decide_eq_decide.2 (by omega)
    have HR := Lib.hid hR
    clear hR
    go_enter Try.func31, Try.ntmps31
    go_wp2
    go_ret
    rw [HR.out]
    exact ⟨rfl, 0, _, by rw [alloc_eq_grow]; rfl⟩
  · have hd : decide ((xk.size : Int) ≤ 16) = false := by simp; omega
    have hR : fitsP ⟨xk, xv⟩ = false := by
      unfold fitsP
      simp only [decide_eq_false h, Bool.false_and]
    rw [hR]
    clear hR
    go_enter Try.func31, Try.ntmps31
    go_wp2
    go_ret
    exact ⟨rfl, 0, _, by rw [alloc_eq_grow]; rfl⟩

theorem below_grown {B : Nat} {w0 w : World} (h : Below B w0 w) (hB : B ≤ w.heap.size) (n : Nat) (os : Array Obj) : Below B w0 (grow (w.drewN n) os) :=
  ⟨h.os, h.tape, h.output, by have := h.size; rw [size_grow]; show w0.heap.size ≤ w.heap.size + _; omega, fun k hk => by rw [heap_grow_old _ _ (show k < (w.drewN n).heap.size by show k < w.heap.size; omega)]; exact h.block k hk⟩

theorem fits_below (xk xv : ByteArray) (w : World) :
    Calls Try.prog 31 #[.agg #[.string xk, .string xv]] w fun e w' => e = .returned (.bool (fitsP ⟨xk, xv⟩)) ∧ Below w.heap.size w w' := by
  refine (fits_any xk xv w).mono ?_
  rintro e w' ⟨rfl, q, os, rfl⟩
  exact ⟨rfl, below_grown (Below.refl _ _) (Nat.le_refl _) q os⟩

def RightFV (xk xv pk : ByteArray) (g k kp n : Nat) (SL PA : Value) (t : Nat) (v : Value) (w : World) : Prop :=
  match t with
  | 12 => v = .agg #[.string xk, .string xv]
  | 13 => v = .bool false
  | 14 => v = .bool true
  | 15 => v = .bool true
  | 16 => v = undef
  | 17 => v = undef
  | 18 => v = undef
  | 19 => v = undef
  | 20 => v = undef
  | 21 => v = undef
  | 22 => v = undef
  | 23 => v = undef
  | 24 => v = undef
  | 25 => v = undef
  | 26 => v = undef
  | 27 => v = undef
  | 28 => v = undef
  | 29 => v = .bool true
  | _ => True
theorem RightFV.on {xk xv pk : ByteArray} {g k kp n : Nat} {SL PA : Value} {t : Nat} {v : Value} {w w' : World} (h : RightFV xk xv pk g k kp n SL PA t v w) (_ : Below w.heap.size w w') : RightFV xk xv pk g k kp n SL PA t v w' := by
  unfold RightFV at *
  split at h <;> exact h

def RightZV (xk xv pk : ByteArray) (g k kp n : Nat) (SL PA : Value) (t : Nat) (v : Value) (w : World) : Prop :=
  match t with
  | 12 => v = .agg #[.string xk, .string xv]
  | 13 => v = .bool true
  | 14 => v = .bool false
  | 15 => v = .bool false
  | 16 => v = .int .i64 k
  | 17 => v = .bool false
  | 18 => v = .bool false
  | 19 => v = undef
  | 20 => v = undef
  | 21 => v = undef
  | 22 => v = undef
  | 23 => v = undef
  | 24 => v = undef
  | 25 => v = undef
  | 26 => v = undef
  | 27 => v = undef
  | 28 => v = .bool false
  | 29 => v = .bool false
  | _ => True
theorem RightZV.on {xk xv pk : ByteArray} {g k kp n : Nat} {SL PA : Value} {t : Nat} {v : Value} {w w' : World} (h : RightZV xk xv pk g k kp n SL PA t v w) (_ : Below w.heap.size w w') : RightZV xk xv pk g k kp n SL PA t v w' := by
  unfold RightZV at *
  split at h <;> exact h

def RightGV (xk xv pk : ByteArray) (g k kp n : Nat) (SL PA : Value) (t : Nat) (v : Value) (w : World) : Prop :=
  match t with
  | 12 => v = .agg #[.string xk, .string xv]
  | 13 => v = .bool true
  | 14 => v = .bool false
  | 15 => v = .bool false
  | 16 => v = .int .i64 k
  | 17 => v = .bool true
  | 18 => v = .bool true
  | 19 => v = SL
  | 20 => v = .int .i64 k
  | 21 => v = .int .i64 kp
  | 22 => v = PA
  | 23 => v = PA
  | 24 => v = .string pk
  | 25 => v = .pointer (some ⟨g, 0, none⟩)
  | 26 => v = .string xk
  | 27 => v = .bool false
  | 28 => v = .bool false
  | 29 => v = .bool false
  | _ => True
theorem RightGV.on {xk xv pk : ByteArray} {g k kp n : Nat} {SL PA : Value} {t : Nat} {v : Value} {w w' : World} (h : RightGV xk xv pk g k kp n SL PA t v w) (_ : Below w.heap.size w w') : RightGV xk xv pk g k kp n SL PA t v w' := by
  unfold RightGV at *
  split at h <;> exact h

def RightBV (xk xv pk : ByteArray) (g k kp n : Nat) (SL PA : Value) (t : Nat) (v : Value) (w : World) : Prop :=
  match t with
  | 12 => v = .agg #[.string xk, .string xv]
  | 13 => v = .bool true
  | 14 => v = .bool false
  | 15 => v = .bool false
  | 16 => v = .int .i64 k
  | 17 => v = .bool true
  | 18 => v = .bool true
  | 19 => v = SL
  | 20 => v = .int .i64 k
  | 21 => v = .int .i64 kp
  | 22 => v = PA
  | 23 => v = PA
  | 24 => v = .string pk
  | 25 => v = .pointer (some ⟨g, 0, none⟩)
  | 26 => v = .string xk
  | 27 => v = .bool true
  | 28 => v = .bool true
  | 29 => v = .bool true
  | _ => True
theorem RightBV.on {xk xv pk : ByteArray} {g k kp n : Nat} {SL PA : Value} {t : Nat} {v : Value} {w w' : World} (h : RightBV xk xv pk g k kp n SL PA t v w) (_ : Below w.heap.size w w') : RightBV xk xv pk g k kp n SL PA t v w' := by
  unfold RightBV at *
  split at h <;> exact h

set_option maxHeartbeats 2000000 in
set_option maxRecDepth 100000 in
theorem right_pr (A : Option Addr) (c : Nat) (l : List Pr) (w : World) (hA : Prs w w.heap.size A l) (hn : l.length ≤ maxLen) :
    Calls Try.prog 18 #[.slice A l.length c] w fun e w' => e = .returned (.bool (wellL l)) ∧ Below w.heap.size w w' := by
  unfold maxLen at hn
  obtain ⟨R, hR⟩ : ∃ R, R = wellL l := ⟨_, rfl⟩
  rw [← hR]
  have HY := Lib.hid (show (∀ i (h : i < l.length), fitsP l[i] = true ∧ (0 < i → l[i - 1].k < l[i].k)) → R = true from fun h => by rw [hR]; exact (wellL_iff l).2 h)
  have HNo := Lib.hid (show ∀ i (h : i < l.length), ¬ (fitsP l[i] = true ∧ (0 < i → l[i - 1].k < l[i].k)) → R = false from fun i h hn => by rw [hR]; exact wellL_no i h hn)
  clear hR
  obtain ⟨n, hl⟩ : ∃ n, l.length = n := ⟨_, rfl⟩
  rw [hl] at hn ⊢
  have HL := Lib.hid hl
  have HA := Lib.hid hA
  clear hl hA
  go_enter Try.func18, Try.ntmps18
  go_wp2
  go_loopw [7] (fun i wr => ∃ (k : Nat), i = .int .i64 k ∧ k ≤ n ∧ Hid (∀ i (h : i < l.length), i < k → fitsP l[i] = true ∧ (0 < i → l[i - 1].k < l[i].k)) ∧ Below w.heap.size w wr) (fun i _ => (n - intOf i).toNat)
  case atStart => exact ⟨0, rfl, by omega, fun i h h0 => by omega, Below.refl _ _⟩
  case round =>
    obtain ⟨k, rfl, hk, HG, hbr⟩ := hrel
    by_cases hlt : k < n
    · obtain ⟨ad, rfl, hab, hca⟩ := (HA.out.below hbr).seeP (by rw [HL.out]; omega)
      obtain ⟨c1, c2⟩ := hca k (by rw [HL.out]; omega)
      have hkl : k < l.length := by rw [HL.out]; exact hlt
      obtain ⟨x, hx⟩ : ∃ x, x = l[k]'hkl := ⟨_, rfl⟩
      rw [← hx] at c1 c2
      have HX := Lib.hid hx
      clear hx
      obtain ⟨xk, xv⟩ := x
      simp only at c1 c2
      have hlt3 : (ad.add (k * 2)).block < w.heap.size := by rw [block_of_add]; exact hab
      have hbs := hbr.size
      have HCA := Lib.hid hca
      clear hca
      go_upto_region 4 with fail
      obtain ⟨g, hg⟩ : ∃ g, g = wr.heap.size := ⟨_, rfl⟩
      rw [← hg]
      obtain ⟨w1, hw1⟩ : ∃ w1, w1 = wr.alloc (.cells #[.string xk, .string xv] 41) := ⟨_, rfl⟩
      rw [← hw1]
      have hb1 : Below w.heap.size w w1 := by rw [hw1]; exact hbr.alloc hbs _
      have hgw : g < w1.heap.size := by rw [hw1, hg]; simp
      have hbx : Box w1 g 41 #[.string xk, .string xv] := by rw [hw1]; exact Box.at_ wr _ _ hg
      have HCB := Lib.hid (show ∀ wx, Below w1.heap.size w1 wx → wx.cell? ⟨g, 0, none⟩ = some (.string xk) ∧ wx.cell? ⟨g, 1, none⟩ = some (.string xv) from fun wx hS => ⟨(hS.cell hgw).trans (Box.cell hbx 0 rfl), (hS.cell hgw).trans (Box.cell hbx 1 rfl)⟩)
      have hfc := fun wx => fits_below xk xv wx
      have HC := Lib.hid (show ∀ i (h : i < l.length), ∀ wx, Below w1.heap.size w1 wx → wx.cell? (ad.add (i * 2)) = some (.string l[i].k) ∧ wx.cell? ⟨(ad.add (i * 2)).block, (ad.add (i * 2)).off + 1, none⟩ = some (.string l[i].v) from fun i h wx hS => by
        obtain ⟨h1, h2⟩ := HCA.out i h
        have hb2 := ((Below.refl _ wr).alloc (Nat.le_refl _) (.cells #[.string xk, .string xv] 41))
        rw [← hw1] at hb2
        have hb3 := hb2.trans (hS.mono hb2.size)
        exact ⟨(hb3.cell (lt_of_cell h1)).trans h1, (hb3.cell (lt_of_cell h2)).trans h2⟩)
      have hsz := hb1.size
      clear hw1 hg c1 c2 hbx
      have DONE := Lib.hid (show ∀ wx, Below w1.heap.size w1 wx → Below w.heap.size w wx from fun wx hS => hb1.trans (hS.mono hsz))
      cases hf : fitsP ⟨xk, xv⟩ with
      | false =>
        rw [hf] at hfc
        have HFC := Lib.hid hfc
        clear hfc
        have HE := Lib.hid (HNo.out k hkl (by rw [← HX.out, hf]; simp))
        clear hf
        refine wp_region_inv [12, 13, 14, 15, 16, 17, 18, 19, 20, 21, 22, 23, 24, 25, 26, 27, 28, 29] (by kernel_rfl) (by kernel_rfl) (fun w' => Below w1.heap.size w1 w') (fun wa wb => Below wa.heap.size wa wb) (RightFV xk xv xk g k k n (.slice (some ad) n c) (.bool true)) (by kernel_rfl) (fun wa wb h1 h2 => h2.trans (h1.mono h2.size)) (fun t v wa wb h1 h2 => h2.on h1) (Below.refl _ _).drew (steps_of ?_) ?_
        · skip
          refine Steps1.cons (fun ax wx hS hG => ?_) (Steps1.cons (fun ax wx hS hG => ?_) (Steps1.cons (fun ax wx hS hG => ?_) (Steps1.cons (fun ax wx hS hG => ?_) (Steps1.cons (fun ax wx hS hG => ?_) (Steps1.cons (fun ax wx hS hG => ?_) (Steps1.cons (fun ax wx hS hG => ?_) (Steps1.cons (fun ax wx hS hG => ?_) (Steps1.cons (fun ax wx hS hG => ?_) (Steps1.cons (fun ax wx hS hG => ?_) (Steps1.cons (fun ax wx hS hG => ?_) (Steps1.cons (fun ax wx hS hG => ?_) (Steps1.cons (fun ax wx hS hG => ?_) (Steps1.cons (fun ax wx hS hG => ?_) (Steps1.cons (fun ax wx hS hG => ?_) (Steps1.cons (fun ax wx hS hG => ?_) (Steps1.cons (fun ax wx hS hG => ?_) (Steps1.cons (fun ax wx hS hG => ?_) Steps1.nil)))))))))))))))))
          · have q4 := hG.old 4 (by kernel_rfl) (by kernel_rfl)
            obtain ⟨z0, z1⟩ := HCB.out wx hS
            refine step_value (v := .agg #[.string xk, .string xv]) (w' := wx) rfl rfl ?_ (Below.refl _ _) (fun d hd => by cases hd; exact rfl)
            go_simp
          · obtain ⟨_, q12, rfl⟩ := hG.new 12 (by kernel_rfl) (by kernel_rfl)
            refine step_call (w1 := wx) (f := 31) (args := #[.agg #[.string xk, .string xv]]) rfl rfl ?_ ((HFC.out wx).mono ?_)
            · skip
              go_simp
            · rintro e w' ⟨rfl, hq⟩
              exact ⟨_, rfl, hq, fun d hd => by cases hd; exact rfl⟩
          · obtain ⟨_, q13, rfl⟩ := hG.new 13 (by kernel_rfl) (by kernel_rfl)
            refine step_value (v := .bool true) (w' := wx) rfl rfl ?_ (Below.refl _ _) (fun d hd => by cases hd; exact rfl)
            go_simp
          · obtain ⟨_, q14, rfl⟩ := hG.new 14 (by kernel_rfl) (by kernel_rfl)
            refine step_value (v := .bool true) (w' := wx) rfl rfl ?_ (Below.refl _ _) (fun d hd => by cases hd; exact rfl)
            go_simp
          · obtain ⟨_, q15, rfl⟩ := hG.new 15 (by kernel_rfl) (by kernel_rfl)
            refine step_past rfl (by simp [Region.wanted, yielded, q15]) (Below.refl _ _) (fun d hd => by cases hd; exact rfl)
          · obtain ⟨_, q15, rfl⟩ := hG.new 15 (by kernel_rfl) (by kernel_rfl)
            refine step_past rfl (by simp [Region.wanted, yielded, q15]) (Below.refl _ _) (fun d hd => by cases hd; exact rfl)
          · obtain ⟨_, q15, rfl⟩ := hG.new 15 (by kernel_rfl) (by kernel_rfl)
            refine step_past rfl (by simp [Region.wanted, yielded, q15]) (Below.refl _ _) (fun d hd => by cases hd; exact rfl)
          · obtain ⟨_, q18, rfl⟩ := hG.new 18 (by kernel_rfl) (by kernel_rfl)
            refine step_past rfl (by simp [Region.wanted, yielded, q18, undef]) (Below.refl _ _) (fun d hd => by cases hd; exact rfl)
          · obtain ⟨_, q18, rfl⟩ := hG.new 18 (by kernel_rfl) (by kernel_rfl)
            refine step_past rfl (by simp [Region.wanted, yielded, q18, undef]) (Below.refl _ _) (fun d hd => by cases hd; exact rfl)
          · obtain ⟨_, q18, rfl⟩ := hG.new 18 (by kernel_rfl) (by kernel_rfl)
            refine step_past rfl (by simp [Region.wanted, yielded, q18, undef]) (Below.refl _ _) (fun d hd => by cases hd; exact rfl)
          · obtain ⟨_, q18, rfl⟩ := hG.new 18 (by kernel_rfl) (by kernel_rfl)
            refine step_past rfl (by simp [Region.wanted, yielded, q18, undef]) (Below.refl _ _) (fun d hd => by cases hd; exact rfl)
          · obtain ⟨_, q18, rfl⟩ := hG.new 18 (by kernel_rfl) (by kernel_rfl)
            refine step_past rfl (by simp [Region.wanted, yielded, q18, undef]) (Below.refl _ _) (fun d hd => by cases hd; exact rfl)
          · obtain ⟨_, q18, rfl⟩ := hG.new 18 (by kernel_rfl) (by kernel_rfl)
            refine step_past rfl (by simp [Region.wanted, yielded, q18, undef]) (Below.refl _ _) (fun d hd => by cases hd; exact rfl)
          · obtain ⟨_, q18, rfl⟩ := hG.new 18 (by kernel_rfl) (by kernel_rfl)
            refine step_past rfl (by simp [Region.wanted, yielded, q18, undef]) (Below.refl _ _) (fun d hd => by cases hd; exact rfl)
          · obtain ⟨_, q18, rfl⟩ := hG.new 18 (by kernel_rfl) (by kernel_rfl)
            refine step_past rfl (by simp [Region.wanted, yielded, q18, undef]) (Below.refl _ _) (fun d hd => by cases hd; exact rfl)
          · obtain ⟨_, q18, rfl⟩ := hG.new 18 (by kernel_rfl) (by kernel_rfl)
            refine step_past rfl (by simp [Region.wanted, yielded, q18, undef]) (Below.refl _ _) (fun d hd => by cases hd; exact rfl)
          · obtain ⟨_, q15, rfl⟩ := hG.new 15 (by kernel_rfl) (by kernel_rfl)
            refine step_past rfl (by simp [Region.wanted, yielded, q15]) (Below.refl _ _) (fun d hd => by cases hd; exact rfl)
          · obtain ⟨_, q15, rfl⟩ := hG.new 15 (by kernel_rfl) (by kernel_rfl)
            obtain ⟨_, q28, rfl⟩ := hG.new 28 (by kernel_rfl) (by kernel_rfl)
            refine step_value (v := .bool true) (w' := wx) rfl rfl ?_ (Below.refl _ _) (fun d hd => by cases hd; exact rfl)
            go_simp
        intro fv w8 hS8 hV8
        have e29 : fv 29 = .bool true := hV8 29 (by decide)
        simp only [puts, Act.put, List.setIfInBounds_toArray, List.set_cons_succ, List.set_cons_zero]
        clear hV8
        rw [e29]
        go_wp2
        go_ret
        rw [HE.out]
        exact ⟨rfl, DONE.out w8 hS8⟩
      | true =>
        rw [hf] at hfc
        have HFC := Lib.hid hfc
        clear hfc
        by_cases h0 : k = 0
        · have HG2 := Lib.hid (show ∀ i (h : i < l.length), i < k + 1 → fitsP l[i] = true ∧ (0 < i → l[i - 1].k < l[i].k) from fun i h h1 => by
            have : i = k := by omega
            subst this
            exact ⟨by rw [← HX.out]; exact hf, by omega⟩)
          have HK0 := Lib.hid (show decide (0 < k) = false from decide_eq_false (by omega))
          clear hf HG
          refine wp_region_inv [12, 13, 14, 15, 16, 17, 18, 19, 20, 21, 22, 23, 24, 25, 26, 27, 28, 29] (by kernel_rfl) (by kernel_rfl) (fun w' => Below w1.heap.size w1 w') (fun wa wb => Below wa.heap.size wa wb) (RightZV xk xv xk g k k n (.slice (some ad) n c) (.bool true)) (by kernel_rfl) (fun wa wb h1 h2 => h2.trans (h1.mono h2.size)) (fun t v wa wb h1 h2 => h2.on h1) (Below.refl _ _).drew (steps_of ?_) ?_
          · skip
            refine Steps1.cons (fun ax wx hS hG => ?_) (Steps1.cons (fun ax wx hS hG => ?_) (Steps1.cons (fun ax wx hS hG => ?_) (Steps1.cons (fun ax wx hS hG => ?_) (Steps1.cons (fun ax wx hS hG => ?_) (Steps1.cons (fun ax wx hS hG => ?_) (Steps1.cons (fun ax wx hS hG => ?_) (Steps1.cons (fun ax wx hS hG => ?_) (Steps1.cons (fun ax wx hS hG => ?_) (Steps1.cons (fun ax wx hS hG => ?_) (Steps1.cons (fun ax wx hS hG => ?_) (Steps1.cons (fun ax wx hS hG => ?_) (Steps1.cons (fun ax wx hS hG => ?_) (Steps1.cons (fun ax wx hS hG => ?_) (Steps1.cons (fun ax wx hS hG => ?_) (Steps1.cons (fun ax wx hS hG => ?_) (Steps1.cons (fun ax wx hS hG => ?_) (Steps1.cons (fun ax wx hS hG => ?_) Steps1.nil)))))))))))))))))
            · have q4 := hG.old 4 (by kernel_rfl) (by kernel_rfl)
              obtain ⟨z0, z1⟩ := HCB.out wx hS
              refine step_value (v := .agg #[.string xk, .string xv]) (w' := wx) rfl rfl ?_ (Below.refl _ _) (fun d hd => by cases hd; exact rfl)
              go_simp
            · obtain ⟨_, q12, rfl⟩ := hG.new 12 (by kernel_rfl) (by kernel_rfl)
              refine step_call (w1 := wx) (f := 31) (args := #[.agg #[.string xk, .string xv]]) rfl rfl ?_ ((HFC.out wx).mono ?_)
              · skip
                go_simp
              · rintro e w' ⟨rfl, hq⟩
                exact ⟨_, rfl, hq, fun d hd => by cases hd; exact rfl⟩
            · obtain ⟨_, q13, rfl⟩ := hG.new 13 (by kernel_rfl) (by kernel_rfl)
              refine step_value (v := .bool false) (w' := wx) rfl rfl ?_ (Below.refl _ _) (fun d hd => by cases hd; exact rfl)
              go_simp
            · obtain ⟨_, q14, rfl⟩ := hG.new 14 (by kernel_rfl) (by kernel_rfl)
              refine step_value (v := .bool false) (w' := wx) rfl rfl ?_ (Below.refl _ _) (fun d hd => by cases hd; exact rfl)
              go_simp
            · have q3 := hG.old 3 (by kernel_rfl) (by kernel_rfl)
              obtain ⟨_, q15, rfl⟩ := hG.new 15 (by kernel_rfl) (by kernel_rfl)
              refine step_value (v := .int .i64 k) (w' := wx) rfl (by simp [Region.wanted, yielded, q15]) ?_ (Below.refl _ _) (fun d hd => by cases hd; exact rfl)
              go_simp
            · obtain ⟨_, q16, rfl⟩ := hG.new 16 (by kernel_rfl) (by kernel_rfl)
              obtain ⟨_, q15, rfl⟩ := hG.new 15 (by kernel_rfl) (by kernel_rfl)
              refine step_value (v := .bool false) (w' := wx) rfl (by simp [Region.wanted, yielded, q15]) ?_ (Below.refl _ _) (fun d hd => by cases hd; exact rfl)
              have hk0 := HK0.out
              (go_simp; first | done | exact hk0 | simp [hk0])
            · obtain ⟨_, q17, rfl⟩ := hG.new 17 (by kernel_rfl) (by kernel_rfl)
              obtain ⟨_, q15, rfl⟩ := hG.new 15 (by kernel_rfl) (by kernel_rfl)
              refine step_value (v := .bool false) (w' := wx) rfl (by simp [Region.wanted, yielded, q15]) ?_ (Below.refl _ _) (fun d hd => by cases hd; exact rfl)
              go_simp
            · obtain ⟨_, q18, rfl⟩ := hG.new 18 (by kernel_rfl) (by kernel_rfl)
              refine step_past rfl (by simp [Region.wanted, yielded, q18, undef]) (Below.refl _ _) (fun d hd => by cases hd; exact rfl)
            · obtain ⟨_, q18, rfl⟩ := hG.new 18 (by kernel_rfl) (by kernel_rfl)
              refine step_past rfl (by simp [Region.wanted, yielded, q18, undef]) (Below.refl _ _) (fun d hd => by cases hd; exact rfl)
            · obtain ⟨_, q18, rfl⟩ := hG.new 18 (by kernel_rfl) (by kernel_rfl)
              refine step_past rfl (by simp [Region.wanted, yielded, q18, undef]) (Below.refl _ _) (fun d hd => by cases hd; exact rfl)
            · obtain ⟨_, q18, rfl⟩ := hG.new 18 (by kernel_rfl) (by kernel_rfl)
              refine step_past rfl (by simp [Region.wanted, yielded, q18, undef]) (Below.refl _ _) (fun d hd => by cases hd; exact rfl)
            · obtain ⟨_, q18, rfl⟩ := hG.new 18 (by kernel_rfl) (by kernel_rfl)
              refine step_past rfl (by simp [Region.wanted, yielded, q18, undef]) (Below.refl _ _) (fun d hd => by cases hd; exact rfl)
            · obtain ⟨_, q18, rfl⟩ := hG.new 18 (by kernel_rfl) (by kernel_rfl)
              refine step_past rfl (by simp [Region.wanted, yielded, q18, undef]) (Below.refl _ _) (fun d hd => by cases hd; exact rfl)
            · obtain ⟨_, q18, rfl⟩ := hG.new 18 (by kernel_rfl) (by kernel_rfl)
              refine step_past rfl (by simp [Region.wanted, yielded, q18, undef]) (Below.refl _ _) (fun d hd => by cases hd; exact rfl)
            · obtain ⟨_, q18, rfl⟩ := hG.new 18 (by kernel_rfl) (by kernel_rfl)
              refine step_past rfl (by simp [Region.wanted, yielded, q18, undef]) (Below.refl _ _) (fun d hd => by cases hd; exact rfl)
            · obtain ⟨_, q18, rfl⟩ := hG.new 18 (by kernel_rfl) (by kernel_rfl)
              refine step_past rfl (by simp [Region.wanted, yielded, q18, undef]) (Below.refl _ _) (fun d hd => by cases hd; exact rfl)
            · obtain ⟨_, q18, rfl⟩ := hG.new 18 (by kernel_rfl) (by kernel_rfl)
              obtain ⟨_, q27, rfl⟩ := hG.new 27 (by kernel_rfl) (by kernel_rfl)
              obtain ⟨_, q15, rfl⟩ := hG.new 15 (by kernel_rfl) (by kernel_rfl)
              refine step_value (v := .bool false) (w' := wx) rfl (by simp [Region.wanted, yielded, q15]) ?_ (Below.refl _ _) (fun d hd => by cases hd; exact rfl)
              go_simp
            · obtain ⟨_, q15, rfl⟩ := hG.new 15 (by kernel_rfl) (by kernel_rfl)
              obtain ⟨_, q28, rfl⟩ := hG.new 28 (by kernel_rfl) (by kernel_rfl)
              refine step_value (v := .bool false) (w' := wx) rfl rfl ?_ (Below.refl _ _) (fun d hd => by cases hd; exact rfl)
              go_simp
          intro fv w8 hS8 hV8
          have e29 : fv 29 = .bool false := hV8 29 (by decide)
          simp only [puts, Act.put, List.setIfInBounds_toArray, List.set_cons_succ, List.set_cons_zero]
          clear hV8
          rw [e29]
          go_wp2
          go_roundw
          case rel => exact ⟨k + 1, by go_num, by omega, HG2.out, DONE.out w8 hS8⟩
          case measure => simp [intOf]; omega
        · have hk1 : k - 1 < l.length := by omega
          obtain ⟨kp, hkp⟩ : ∃ kp, kp = k - 1 := ⟨_, rfl⟩
          have hkpl : kp < l.length := by omega
          have wk : IntKind.i64.wrap ((k : Int) - 1) = (kp : Int) := by rw [IntKind.wrap_i64]; omega
          have hkn : kp < n := by omega
          have HKP := Lib.hid hkp
          clear hkp
          have HCP := Lib.hid (HC.out kp hkpl)
          obtain ⟨pk, hpk⟩ : ∃ pk, pk = (l[kp]'hkpl).k := ⟨_, rfl⟩
          rw [← hpk] at HCP
          have e1 : (l[k - 1]'hk1).k = pk := by rw [hpk]; congr 2; exact HKP.out.symm
          have HK0 := Lib.hid (show 0 < k by omega)
          have HWK := Lib.hid wk
          have HKN := Lib.hid hkn
          by_cases hkk : pk < xk
          · have hles : Op.bytesLess pk.toList xk.toList = true := lt_iff.1 hkk
            have HG2 := Lib.hid (show ∀ i (h : i < l.length), i < k + 1 → fitsP l[i] = true ∧ (0 < i → l[i - 1].k < l[i].k) from fun i h h1 => by
              by_cases hi : i < k
              · exact HG.out i h hi
              · have : i = k := by omega
                subst this
                exact ⟨by rw [← HX.out]; exact hf, fun _ => by rw [e1, ← HX.out]; exact hkk⟩)
            have HLE := Lib.hid hles
            clear hf HG hpk e1 hkk hles wk hkn
            refine wp_region_inv [12, 13, 14, 15, 16, 17, 18, 19, 20, 21, 22, 23, 24, 25, 26, 27, 28, 29] (by kernel_rfl) (by kernel_rfl) (fun w' => Below w1.heap.size w1 w') (fun wa wb => Below wa.heap.size wa wb) (RightGV xk xv pk g k kp n (.slice (some ad) n c) (.pointer (some (ad.add (kp * 2))))) (by kernel_rfl) (fun wa wb h1 h2 => h2.trans (h1.mono h2.size)) (fun t v wa wb h1 h2 => h2.on h1) (Below.refl _ _).drew (steps_of ?_) ?_
            · skip
              refine Steps1.cons (fun ax wx hS hG => ?_) (Steps1.cons (fun ax wx hS hG => ?_) (Steps1.cons (fun ax wx hS hG => ?_) (Steps1.cons (fun ax wx hS hG => ?_) (Steps1.cons (fun ax wx hS hG => ?_) (Steps1.cons (fun ax wx hS hG => ?_) (Steps1.cons (fun ax wx hS hG => ?_) (Steps1.cons (fun ax wx hS hG => ?_) (Steps1.cons (fun ax wx hS hG => ?_) (Steps1.cons (fun ax wx hS hG => ?_) (Steps1.cons (fun ax wx hS hG => ?_) (Steps1.cons (fun ax wx hS hG => ?_) (Steps1.cons (fun ax wx hS hG => ?_) (Steps1.cons (fun ax wx hS hG => ?_) (Steps1.cons (fun ax wx hS hG => ?_) (Steps1.cons (fun ax wx hS hG => ?_) (Steps1.cons (fun ax wx hS hG => ?_) (Steps1.cons (fun ax wx hS hG => ?_) Steps1.nil)))))))))))))))))
              · have q4 := hG.old 4 (by kernel_rfl) (by kernel_rfl)
                obtain ⟨z0, z1⟩ := HCB.out wx hS
                refine step_value (v := .agg #[.string xk, .string xv]) (w' := wx) rfl rfl ?_ (Below.refl _ _) (fun d hd => by cases hd; exact rfl)
                go_simp
              · obtain ⟨_, q12, rfl⟩ := hG.new 12 (by kernel_rfl) (by kernel_rfl)
                refine step_call (w1 := wx) (f := 31) (args := #[.agg #[.string xk, .string xv]]) rfl rfl ?_ ((HFC.out wx).mono ?_)
                · skip
                  go_simp
                · rintro e w' ⟨rfl, hq⟩
                  exact ⟨_, rfl, hq, fun d hd => by cases hd; exact rfl⟩
              · obtain ⟨_, q13, rfl⟩ := hG.new 13 (by kernel_rfl) (by kernel_rfl)
                refine step_value (v := .bool false) (w' := wx) rfl rfl ?_ (Below.refl _ _) (fun d hd => by cases hd; exact rfl)
                go_simp
              · obtain ⟨_, q14, rfl⟩ := hG.new 14 (by kernel_rfl) (by kernel_rfl)
                refine step_value (v := .bool false) (w' := wx) rfl rfl ?_ (Below.refl _ _) (fun d hd => by cases hd; exact rfl)
                go_simp
              · have q3 := hG.old 3 (by kernel_rfl) (by kernel_rfl)
                obtain ⟨_, q15, rfl⟩ := hG.new 15 (by kernel_rfl) (by kernel_rfl)
                refine step_value (v := .int .i64 k) (w' := wx) rfl (by simp [Region.wanted, yielded, q15]) ?_ (Below.refl _ _) (fun d hd => by cases hd; exact rfl)
                go_simp
              · obtain ⟨_, q16, rfl⟩ := hG.new 16 (by kernel_rfl) (by kernel_rfl)
                obtain ⟨_, q15, rfl⟩ := hG.new 15 (by kernel_rfl) (by kernel_rfl)
                refine step_value (v := .bool true) (w' := wx) rfl (by simp [Region.wanted, yielded, q15]) ?_ (Below.refl _ _) (fun d hd => by cases hd; exact rfl)
                have hk0 := HK0.out
                (go_simp; first | done | exact hk0 | simp [hk0])
              · obtain ⟨_, q17, rfl⟩ := hG.new 17 (by kernel_rfl) (by kernel_rfl)
                obtain ⟨_, q15, rfl⟩ := hG.new 15 (by kernel_rfl) (by kernel_rfl)
                refine step_value (v := .bool true) (w' := wx) rfl (by simp [Region.wanted, yielded, q15]) ?_ (Below.refl _ _) (fun d hd => by cases hd; exact rfl)
                go_simp
              · have q0 := hG.old 0 (by kernel_rfl) (by kernel_rfl)
                obtain ⟨_, q18, rfl⟩ := hG.new 18 (by kernel_rfl) (by kernel_rfl)
                refine step_value (v := .slice (some ad) n c) (w' := wx) rfl (by simp [Region.wanted, yielded, q18]) ?_ (Below.refl _ _) (fun d hd => by cases hd; exact rfl)
                go_simp
              · have q3 := hG.old 3 (by kernel_rfl) (by kernel_rfl)
                obtain ⟨_, q18, rfl⟩ := hG.new 18 (by kernel_rfl) (by kernel_rfl)
                refine step_value (v := .int .i64 k) (w' := wx) rfl (by simp [Region.wanted, yielded, q18]) ?_ (Below.refl _ _) (fun d hd => by cases hd; exact rfl)
                go_simp
              · obtain ⟨_, q20, rfl⟩ := hG.new 20 (by kernel_rfl) (by kernel_rfl)
                obtain ⟨_, q18, rfl⟩ := hG.new 18 (by kernel_rfl) (by kernel_rfl)
                refine step_value (v := .int .i64 kp) (w' := wx) rfl (by simp [Region.wanted, yielded, q18]) ?_ (Below.refl _ _) (fun d hd => by cases hd; exact rfl)
                have hwk := HWK.out
                go_simp
              · obtain ⟨_, q19, rfl⟩ := hG.new 19 (by kernel_rfl) (by kernel_rfl)
                obtain ⟨_, q21, rfl⟩ := hG.new 21 (by kernel_rfl) (by kernel_rfl)
                obtain ⟨_, q18, rfl⟩ := hG.new 18 (by kernel_rfl) (by kernel_rfl)
                refine step_value (v := .pointer (some (ad.add (kp * 2)))) (w' := wx) rfl (by simp [Region.wanted, yielded, q18]) ?_ (Below.refl _ _) (fun d hd => by cases hd; exact rfl)
                have hkn := HKN.out
                go_simp
              · obtain ⟨_, q22, rfl⟩ := hG.new 22 (by kernel_rfl) (by kernel_rfl)
                obtain ⟨_, q18, rfl⟩ := hG.new 18 (by kernel_rfl) (by kernel_rfl)
                refine step_value (v := .pointer (some (ad.add (kp * 2)))) (w' := wx) rfl (by simp [Region.wanted, yielded, q18]) ?_ (Below.refl _ _) (fun d hd => by cases hd; exact rfl)
                go_simp
              · obtain ⟨_, q23, rfl⟩ := hG.new 23 (by kernel_rfl) (by kernel_rfl)
                obtain ⟨_, q18, rfl⟩ := hG.new 18 (by kernel_rfl) (by kernel_rfl)
                obtain ⟨z0, z1⟩ := HCP.out wx hS
                refine step_value (v := .string pk) (w' := wx) rfl (by simp [Region.wanted, yielded, q18]) ?_ (Below.refl _ _) (fun d hd => by cases hd; exact rfl)
                go_simp
              · have q4 := hG.old 4 (by kernel_rfl) (by kernel_rfl)
                obtain ⟨_, q18, rfl⟩ := hG.new 18 (by kernel_rfl) (by kernel_rfl)
                refine step_value (v := .pointer (some ⟨g, 0, none⟩)) (w' := wx) rfl (by simp [Region.wanted, yielded, q18]) ?_ (Below.refl _ _) (fun d hd => by cases hd; exact rfl)
                go_simp
              · obtain ⟨_, q25, rfl⟩ := hG.new 25 (by kernel_rfl) (by kernel_rfl)
                obtain ⟨_, q18, rfl⟩ := hG.new 18 (by kernel_rfl) (by kernel_rfl)
                obtain ⟨z0, z1⟩ := HCB.out wx hS
                refine step_value (v := .string xk) (w' := wx) rfl (by simp [Region.wanted, yielded, q18]) ?_ (Below.refl _ _) (fun d hd => by cases hd; exact rfl)
                go_simp
              · obtain ⟨_, q24, rfl⟩ := hG.new 24 (by kernel_rfl) (by kernel_rfl)
                obtain ⟨_, q26, rfl⟩ := hG.new 26 (by kernel_rfl) (by kernel_rfl)
                obtain ⟨_, q18, rfl⟩ := hG.new 18 (by kernel_rfl) (by kernel_rfl)
                refine step_value (v := .bool false) (w' := wx) rfl (by simp [Region.wanted, yielded, q18]) ?_ (Below.refl _ _) (fun d hd => by cases hd; exact rfl)
                have hss := HLE.out
                go_simp
              · obtain ⟨_, q18, rfl⟩ := hG.new 18 (by kernel_rfl) (by kernel_rfl)
                obtain ⟨_, q27, rfl⟩ := hG.new 27 (by kernel_rfl) (by kernel_rfl)
                obtain ⟨_, q15, rfl⟩ := hG.new 15 (by kernel_rfl) (by kernel_rfl)
                refine step_value (v := .bool false) (w' := wx) rfl (by simp [Region.wanted, yielded, q15]) ?_ (Below.refl _ _) (fun d hd => by cases hd; exact rfl)
                go_simp
              · obtain ⟨_, q15, rfl⟩ := hG.new 15 (by kernel_rfl) (by kernel_rfl)
                obtain ⟨_, q28, rfl⟩ := hG.new 28 (by kernel_rfl) (by kernel_rfl)
                refine step_value (v := .bool false) (w' := wx) rfl rfl ?_ (Below.refl _ _) (fun d hd => by cases hd; exact rfl)
                go_simp
            intro fv w8 hS8 hV8
            have e29 : fv 29 = .bool false := hV8 29 (by decide)
            simp only [puts, Act.put, List.setIfInBounds_toArray, List.set_cons_succ, List.set_cons_zero]
            clear hV8
            rw [e29]
            go_wp2
            go_roundw
            case rel => exact ⟨k + 1, by go_num, by omega, HG2.out, DONE.out w8 hS8⟩
            case measure => simp [intOf]; omega
          · have hles : Op.bytesLess pk.toList xk.toList = false := by
              have h1 : ltS pk xk = false := by rw [ltS_eq]; exact decide_eq_false hkk
              exact h1
            have HE := Lib.hid (HNo.out k hkl (fun h => hkk (by have := h.2 (by omega); rw [e1, ← HX.out] at this; exact this)))
            have HLE := Lib.hid hles
            clear hf HG hpk e1 hkk hles wk hkn
            refine wp_region_inv [12, 13, 14, 15, 16, 17, 18, 19, 20, 21, 22, 23, 24, 25, 26, 27, 28, 29] (by kernel_rfl) (by kernel_rfl) (fun w' => Below w1.heap.size w1 w') (fun wa wb => Below wa.heap.size wa wb) (RightBV xk xv pk g k kp n (.slice (some ad) n c) (.pointer (some (ad.add (kp * 2))))) (by kernel_rfl) (fun wa wb h1 h2 => h2.trans (h1.mono h2.size)) (fun t v wa wb h1 h2 => h2.on h1) (Below.refl _ _).drew (steps_of ?_) ?_
            · skip
              refine Steps1.cons (fun ax wx hS hG => ?_) (Steps1.cons (fun ax wx hS hG => ?_) (Steps1.cons (fun ax wx hS hG => ?_) (Steps1.cons (fun ax wx hS hG => ?_) (Steps1.cons (fun ax wx hS hG => ?_) (Steps1.cons (fun ax wx hS hG => ?_) (Steps1.cons (fun ax wx hS hG => ?_) (Steps1.cons (fun ax wx hS hG => ?_) (Steps1.cons (fun ax wx hS hG => ?_) (Steps1.cons (fun ax wx hS hG => ?_) (Steps1.cons (fun ax wx hS hG => ?_) (Steps1.cons (fun ax wx hS hG => ?_) (Steps1.cons (fun ax wx hS hG => ?_) (Steps1.cons (fun ax wx hS hG => ?_) (Steps1.cons (fun ax wx hS hG => ?_) (Steps1.cons (fun ax wx hS hG => ?_) (Steps1.cons (fun ax wx hS hG => ?_) (Steps1.cons (fun ax wx hS hG => ?_) Steps1.nil)))))))))))))))))
              · have q4 := hG.old 4 (by kernel_rfl) (by kernel_rfl)
                obtain ⟨z0, z1⟩ := HCB.out wx hS
                refine step_value (v := .agg #[.string xk, .string xv]) (w' := wx) rfl rfl ?_ (Below.refl _ _) (fun d hd => by cases hd; exact rfl)
                go_simp
              · obtain ⟨_, q12, rfl⟩ := hG.new 12 (by kernel_rfl) (by kernel_rfl)
                refine step_call (w1 := wx) (f := 31) (args := #[.agg #[.string xk, .string xv]]) rfl rfl ?_ ((HFC.out wx).mono ?_)
                · skip
                  go_simp
                · rintro e w' ⟨rfl, hq⟩
                  exact ⟨_, rfl, hq, fun d hd => by cases hd; exact rfl⟩
              · obtain ⟨_, q13, rfl⟩ := hG.new 13 (by kernel_rfl) (by kernel_rfl)
                refine step_value (v := .bool false) (w' := wx) rfl rfl ?_ (Below.refl _ _) (fun d hd => by cases hd; exact rfl)
                go_simp
              · obtain ⟨_, q14, rfl⟩ := hG.new 14 (by kernel_rfl) (by kernel_rfl)
                refine step_value (v := .bool false) (w' := wx) rfl rfl ?_ (Below.refl _ _) (fun d hd => by cases hd; exact rfl)
                go_simp
              · have q3 := hG.old 3 (by kernel_rfl) (by kernel_rfl)
                obtain ⟨_, q15, rfl⟩ := hG.new 15 (by kernel_rfl) (by kernel_rfl)
                refine step_value (v := .int .i64 k) (w' := wx) rfl (by simp [Region.wanted, yielded, q15]) ?_ (Below.refl _ _) (fun d hd => by cases hd; exact rfl)
                go_simp
              · obtain ⟨_, q16, rfl⟩ := hG.new 16 (by kernel_rfl) (by kernel_rfl)
                obtain ⟨_, q15, rfl⟩ := hG.new 15 (by kernel_rfl) (by kernel_rfl)
                refine step_value (v := .bool true) (w' := wx) rfl (by simp [Region.wanted, yielded, q15]) ?_ (Below.refl _ _) (fun d hd => by cases hd; exact rfl)
                have hk0 := HK0.out
                (go_simp; first | done | exact hk0 | simp [hk0])
              · obtain ⟨_, q17, rfl⟩ := hG.new 17 (by kernel_rfl) (by kernel_rfl)
                obtain ⟨_, q15, rfl⟩ := hG.new 15 (by kernel_rfl) (by kernel_rfl)
                refine step_value (v := .bool true) (w' := wx) rfl (by simp [Region.wanted, yielded, q15]) ?_ (Below.refl _ _) (fun d hd => by cases hd; exact rfl)
                go_simp
              · have q0 := hG.old 0 (by kernel_rfl) (by kernel_rfl)
                obtain ⟨_, q18, rfl⟩ := hG.new 18 (by kernel_rfl) (by kernel_rfl)
                refine step_value (v := .slice (some ad) n c) (w' := wx) rfl (by simp [Region.wanted, yielded, q18]) ?_ (Below.refl _ _) (fun d hd => by cases hd; exact rfl)
                go_simp
              · have q3 := hG.old 3 (by kernel_rfl) (by kernel_rfl)
                obtain ⟨_, q18, rfl⟩ := hG.new 18 (by kernel_rfl) (by kernel_rfl)
                refine step_value (v := .int .i64 k) (w' := wx) rfl (by simp [Region.wanted, yielded, q18]) ?_ (Below.refl _ _) (fun d hd => by cases hd; exact rfl)
                go_simp
              · obtain ⟨_, q20, rfl⟩ := hG.new 20 (by kernel_rfl) (by kernel_rfl)
                obtain ⟨_, q18, rfl⟩ := hG.new 18 (by kernel_rfl) (by kernel_rfl)
                refine step_value (v := .int .i64 kp) (w' := wx) rfl (by simp [Region.wanted, yielded, q18]) ?_ (Below.refl _ _) (fun d hd => by cases hd; exact rfl)
                have hwk := HWK.out
                go_simp
              · obtain ⟨_, q19, rfl⟩ := hG.new 19 (by kernel_rfl) (by kernel_rfl)
                obtain ⟨_, q21, rfl⟩ := hG.new 21 (by kernel_rfl) (by kernel_rfl)
                obtain ⟨_, q18, rfl⟩ := hG.new 18 (by kernel_rfl) (by kernel_rfl)
                refine step_value (v := .pointer (some (ad.add (kp * 2)))) (w' := wx) rfl (by simp [Region.wanted, yielded, q18]) ?_ (Below.refl _ _) (fun d hd => by cases hd; exact rfl)
                have hkn := HKN.out
                go_simp
              · obtain ⟨_, q22, rfl⟩ := hG.new 22 (by kernel_rfl) (by kernel_rfl)
                obtain ⟨_, q18, rfl⟩ := hG.new 18 (by kernel_rfl) (by kernel_rfl)
                refine step_value (v := .pointer (some (ad.add (kp * 2)))) (w' := wx) rfl (by simp [Region.wanted, yielded, q18]) ?_ (Below.refl _ _) (fun d hd => by cases hd; exact rfl)
                go_simp
              · obtain ⟨_, q23, rfl⟩ := hG.new 23 (by kernel_rfl) (by kernel_rfl)
                obtain ⟨_, q18, rfl⟩ := hG.new 18 (by kernel_rfl) (by kernel_rfl)
                obtain ⟨z0, z1⟩ := HCP.out wx hS
                refine step_value (v := .string pk) (w' := wx) rfl (by simp [Region.wanted, yielded, q18]) ?_ (Below.refl _ _) (fun d hd => by cases hd; exact rfl)
                go_simp
              · have q4 := hG.old 4 (by kernel_rfl) (by kernel_rfl)
                obtain ⟨_, q18, rfl⟩ := hG.new 18 (by kernel_rfl) (by kernel_rfl)
                refine step_value (v := .pointer (some ⟨g, 0, none⟩)) (w' := wx) rfl (by simp [Region.wanted, yielded, q18]) ?_ (Below.refl _ _) (fun d hd => by cases hd; exact rfl)
                go_simp
              · obtain ⟨_, q25, rfl⟩ := hG.new 25 (by kernel_rfl) (by kernel_rfl)
                obtain ⟨_, q18, rfl⟩ := hG.new 18 (by kernel_rfl) (by kernel_rfl)
                obtain ⟨z0, z1⟩ := HCB.out wx hS
                refine step_value (v := .string xk) (w' := wx) rfl (by simp [Region.wanted, yielded, q18]) ?_ (Below.refl _ _) (fun d hd => by cases hd; exact rfl)
                go_simp
              · obtain ⟨_, q24, rfl⟩ := hG.new 24 (by kernel_rfl) (by kernel_rfl)
                obtain ⟨_, q26, rfl⟩ := hG.new 26 (by kernel_rfl) (by kernel_rfl)
                obtain ⟨_, q18, rfl⟩ := hG.new 18 (by kernel_rfl) (by kernel_rfl)
                refine step_value (v := .bool true) (w' := wx) rfl (by simp [Region.wanted, yielded, q18]) ?_ (Below.refl _ _) (fun d hd => by cases hd; exact rfl)
                have hss := HLE.out
                go_simp
              · obtain ⟨_, q18, rfl⟩ := hG.new 18 (by kernel_rfl) (by kernel_rfl)
                obtain ⟨_, q27, rfl⟩ := hG.new 27 (by kernel_rfl) (by kernel_rfl)
                obtain ⟨_, q15, rfl⟩ := hG.new 15 (by kernel_rfl) (by kernel_rfl)
                refine step_value (v := .bool true) (w' := wx) rfl (by simp [Region.wanted, yielded, q15]) ?_ (Below.refl _ _) (fun d hd => by cases hd; exact rfl)
                go_simp
              · obtain ⟨_, q15, rfl⟩ := hG.new 15 (by kernel_rfl) (by kernel_rfl)
                obtain ⟨_, q28, rfl⟩ := hG.new 28 (by kernel_rfl) (by kernel_rfl)
                refine step_value (v := .bool true) (w' := wx) rfl rfl ?_ (Below.refl _ _) (fun d hd => by cases hd; exact rfl)
                go_simp
            intro fv w8 hS8 hV8
            have e29 : fv 29 = .bool true := hV8 29 (by decide)
            simp only [puts, Act.put, List.setIfInBounds_toArray, List.set_cons_succ, List.set_cons_zero]
            clear hV8
            rw [e29]
            go_wp2
            go_ret
            rw [HE.out]
            exact ⟨rfl, DONE.out w8 hS8⟩
    · have HE := Lib.hid (HY.out fun i h => HG.out i h (by rw [HL.out] at h; omega))
      go_wp2
      go_ret
      rw [HE.out]
      exact ⟨rfl, hbr⟩

end Go.Proofs.Ytgpjbajfkagdbaa
