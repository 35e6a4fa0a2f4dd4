/- The walk of the law StretchPicks. -/
import Derived.Test.YtmbcmacegncnmaaWPick
import Derived.Test.YtmbcmacegncnmaaLNone
import Derived.Test.YtmbcmacegncnmaaInv
namespace Go.Proofs.Ytmbcmacegncnmaa
open Go.RowKit

theorem pick_comm (a b : Rng) (l : List Pr) : pickL b (pickL a l) = pickL a (pickL b l) := by
  unfold pickL; rw [List.filter_filter, List.filter_filter]; congr 1; funext p; exact Bool.and_comm _ _
theorem pick_meet (a b : Rng) (l : List Pr) : pickL (meetL [a, b]) l = pickL a (pickL b l) := by
  unfold pickL; rw [List.filter_filter]; congr 1; funext p; rw [in_meetL]; simp
theorem pick_all (l : List Pr) : pickL allR l = l := by
  unfold pickL; rw [List.filter_eq_self]; intro p _; exact in_all p.k
theorem pick_len {l : List Pr} (r : Rng) (h : l.length ≤ 1000000) : (pickL r l).length ≤ 1000000 := by
  have h1 := List.length_filter_le (fun p => inB r p.k) l
  unfold pickL; omega

/-- A value that is a slice of these pairs. -/
def PV (w : World) (v : Value) (l : List Pr) : Prop := ∃ A c, v = .slice A l.length c ∧ Prs w w.heap.size A l
theorem PV.on {w w' : World} {v : Value} {l : List Pr} (h : PV w v l) (hb : Below w.heap.size w w') : PV w' v l := by
  obtain ⟨A, c, e, hp⟩ := h
  exact ⟨A, c, e, hp.on hb⟩
theorem PV.push {w : World} {v : Value} {l : List Pr} (h : PV w v l) (o : Obj) : PV (w.alloc o) v l := h.on ((Below.refl _ w).alloc (Nat.le_refl _) o)
theorem pick_pv (lo hi : ByteArray) (op : Bool) {v : Value} {l : List Pr} {w : World} (h : PV w v l) (hn : l.length ≤ 1000000) :
    Calls Try.prog 17 #[.agg #[.string lo, .string hi, .bool op], v] w fun e w' => ∃ v', e = .returned v' ∧ PV w' v' (pickL ⟨lo, hi, op⟩ l) ∧ Below w.heap.size w w' := by
  obtain ⟨A, c, rfl, hp⟩ := h
  refine (pick_any lo hi op A c l w hp hn).mono fun e w' ⟨A2, c2, he, hp2, hb⟩ => ⟨_, he, ⟨A2, c2, rfl, hp2⟩, hb⟩
theorem same_pv {v u : Value} {l : List Pr} {w : World} (h : PV w v l) (g : PV w u l) (hn : l.length ≤ 1000000) :
    Calls Try.prog 18 #[v, u] w fun e w' => e = .returned (.bool true) ∧ Below w.heap.size w w' := by
  obtain ⟨A, c, rfl, hp⟩ := h
  obtain ⟨B, d, rfl, hq⟩ := g
  have h := same_any A B c d l l w hp hq (by unfold maxLen; omega)
  rwa [decide_eq_true rfl] at h

/-- What each slot of the two lines that pick twice holds. -/
def PicksV3 (al ah bl bh : ByteArray) (ao bo : Bool) (A : Option Addr) (n c : Nat) (l : List Pr) (t : Nat) (v : Value) (w : World) : Prop :=
  match t with
  | 23 => v = (.agg #[.string al, .string ah, .bool ao])
  | 24 => v = (.agg #[.string bl, .string bh, .bool bo])
  | 25 => v = .slice A n c
  | 26 => PV w v (pickL ⟨bl, bh, bo⟩ l)
  | 27 => PV w v (pickL ⟨al, ah, ao⟩ (pickL ⟨bl, bh, bo⟩ l))
  | 7 => PV w v (pickL ⟨al, ah, ao⟩ (pickL ⟨bl, bh, bo⟩ l))
  | _ => True
theorem PicksV3.below {al ah bl bh : ByteArray} {ao bo : Bool} {A : Option Addr} {n c : Nat} {l : List Pr} {t : Nat} {v : Value} {w w' : World} (h : PicksV3 al ah bl bh ao bo A n c l t v w) (hb : Below w.heap.size w w') : PicksV3 al ah bl bh ao bo A n c l t v w' := by
  unfold PicksV3 at *
  split at h <;> first | exact h | exact PV.on h hb
def PicksV4 (al ah bl bh : ByteArray) (ao bo : Bool) (A : Option Addr) (n c : Nat) (l : List Pr) (t : Nat) (v : Value) (w : World) : Prop :=
  match t with
  | 28 => v = (.agg #[.string bl, .string bh, .bool bo])
  | 29 => v = (.agg #[.string al, .string ah, .bool ao])
  | 30 => v = .slice A n c
  | 31 => PV w v (pickL ⟨al, ah, ao⟩ l)
  | 32 => PV w v (pickL ⟨bl, bh, bo⟩ (pickL ⟨al, ah, ao⟩ l))
  | 8 => PV w v (pickL ⟨bl, bh, bo⟩ (pickL ⟨al, ah, ao⟩ l))
  | _ => True
theorem PicksV4.below {al ah bl bh : ByteArray} {ao bo : Bool} {A : Option Addr} {n c : Nat} {l : List Pr} {t : Nat} {v : Value} {w w' : World} (h : PicksV4 al ah bl bh ao bo A n c l t v w) (hb : Below w.heap.size w w') : PicksV4 al ah bl bh ao bo A n c l t v w' := by
  unfold PicksV4 at *
  split at h <;> first | exact h | exact PV.on h hb

set_option maxHeartbeats 4000000 in
set_option maxRecDepth 100000 in
theorem picks_walk (al ah bl bh : ByteArray) (ao bo : Bool) (A : Option Addr) (c : Nat) (l : List Pr) (w : World) (ha : al.size ≤ maxLen ∧ ah.size ≤ maxLen) (hb : bl.size ≤ maxLen ∧ bh.size ≤ maxLen) (hA : Prs w w.heap.size A l) (hn : l.length ≤ maxLen) :
    Calls Try.prog 5 #[.agg #[.string al, .string ah, .bool ao], .agg #[.string bl, .string bh, .bool bo], .slice A l.length c] w fun e w' => e = .returned (.bool true) ∧ Below w.heap.size w w' := by
  unfold maxLen at hn
  have HPV := Lib.hid (show PV w (.slice A l.length c) l from ⟨A, c, rfl, hA⟩)
  generalize hl : l.length = n at *
  have HL := Lib.hid hl
  have Za := Lib.hid ha
  have Zb := Lib.hid hb
  clear ha hb hl hA
  go_enter Try.func5, Try.ntmps5
  go_wp2_with fail
  refine (small_any al ah ao _ Za.out.1 Za.out.2).mono ?_
  rintro e w1 ⟨rfl, hb1⟩
  have hbz : Below w.heap.size w w1 := below2 hb1
  have HX := Lib.hid ((AB.laid w al ah bl bh ao bo).on hb1)
  have HPV := Lib.hid (HPV.out.on hbz)
  clear hb1
  obtain ⟨⟨a1, a2, a3⟩, ⟨b1, b2, b3⟩⟩ := HX.out.cells
  simp only at a1 a2 a3 b1 b2 b3
  generalize smallB ⟨al, ah, ao⟩ = s1
  cases s1 with
  | false =>
    go_wp2_with fail
    refine (awake_true _).mono ?_
    rintro e w9 ⟨rfl, hb9⟩
    go_wp2
    go_ret
    exact ⟨rfl, hbz.trans (hb9.mono hbz.size)⟩
  | true =>
  go_wp2_with fail
  refine (small_any bl bh bo _ Zb.out.1 Zb.out.2).mono ?_
  rintro e w2 ⟨rfl, hb2⟩
  have hbz := hbz.trans (hb2.mono hbz.size)
  have HX := Lib.hid (HX.out.on hb2)
  have HPV := Lib.hid (HPV.out.on hb2)
  clear a1 a2 a3 b1 b2 b3
  clear hb2
  obtain ⟨⟨a1, a2, a3⟩, ⟨b1, b2, b3⟩⟩ := HX.out.cells
  simp only at a1 a2 a3 b1 b2 b3
  generalize smallB ⟨bl, bh, bo⟩ = s2
  cases s2 with
  | false =>
    go_wp2_with fail
    refine (awake_true _).mono ?_
    rintro e w9 ⟨rfl, hb9⟩
    go_wp2
    go_ret
    exact ⟨rfl, hbz.trans (hb9.mono hbz.size)⟩
  | true =>
  by_cases hk3 : 60 < n
  · skip
    go_wp2_with fail
    refine (awake_true _).mono ?_
    rintro e w9 ⟨rfl, hb9⟩
    go_wp2
    go_ret
    exact ⟨rfl, hbz.trans (hb9.mono hbz.size)⟩
  have HN := Lib.hid (show l.length ≤ 1000000 by rw [HL.out]; omega)
  clear a1 a2 a3 b1 b2 b3
  have HCA := Lib.hid (show ∀ w', Below w2.heap.size w2 w' → w'.cell? ⟨w.heap.size, 0, none⟩ = some (.string al) ∧ w'.cell? ⟨w.heap.size, 1, none⟩ = some (.string ah) ∧ w'.cell? ⟨w.heap.size, 2, none⟩ = some (.bool ao) from fun w' h => RBlk.cells (r := ⟨al, ah, ao⟩) (cells_of HX.out.1 h))
  have HCB := Lib.hid (show ∀ w', Below w2.heap.size w2 w' → w'.cell? ⟨w.heap.size + 1, 0, none⟩ = some (.string bl) ∧ w'.cell? ⟨w.heap.size + 1, 1, none⟩ = some (.string bh) ∧ w'.cell? ⟨w.heap.size + 1, 2, none⟩ = some (.bool bo) from fun w' h => RBlk.cells (r := ⟨bl, bh, bo⟩) (cells_of HX.out.2 h))
  have HPL := Lib.hid (show ∀ w', Below w2.heap.size w2 w' → PV w' (.slice A n c) l from fun w' h => HPV.out.on h)
  go_wp2
  refine wp_region_inv [23, 24, 25, 26, 27, 7] (by kernel_rfl) (by kernel_rfl) (fun w' => Below w2.heap.size w2 w') (fun w1 w2 => Below w1.heap.size w1 w2) (PicksV3 al ah bl bh ao bo A n c l) (by kernel_rfl) (fun w1 w2 h1 h2 => h2.trans (h1.mono h2.size)) (fun t v w1 w2 h1 h2 => h2.below h1) (Below.refl _ _).drew (steps_of ?_) ?_
  · refine Steps1.cons (fun ax wx hS hG => ?_) (Steps1.cons (fun ax wx hS hG => ?_) (Steps1.cons (fun ax wx hS hG => ?_) (Steps1.cons (fun ax wx hS hG => ?_) (Steps1.cons (fun ax wx hS hG => ?_) (Steps1.cons (fun ax wx hS hG => ?_) Steps1.nil)))))
    · have q3 := hG.old 3 (by kernel_rfl) (by kernel_rfl)
      obtain ⟨z0, z1, z2⟩ := HCA.out wx hS
      refine step_value (v := (.agg #[.string al, .string ah, .bool ao])) (w' := wx) rfl rfl ?_ (Below.refl _ _) (fun d hd => by cases hd; exact rfl)
      go_simp
    · have q4 := hG.old 4 (by kernel_rfl) (by kernel_rfl)
      obtain ⟨z0, z1, z2⟩ := HCB.out wx hS
      refine step_value (v := (.agg #[.string bl, .string bh, .bool bo])) (w' := wx) rfl rfl ?_ (Below.refl _ _) (fun d hd => by cases hd; exact rfl)
      go_simp
    · have q2 := hG.old 2 (by kernel_rfl) (by kernel_rfl)
      refine step_value (v := .slice A n c) (w' := wx) rfl rfl ?_ (Below.refl _ _) (fun d hd => by cases hd; exact rfl)
      go_simp
    · obtain ⟨_, q24, rfl⟩ := hG.new 24 (by kernel_rfl) (by kernel_rfl)
      obtain ⟨_, q25, rfl⟩ := hG.new 25 (by kernel_rfl) (by kernel_rfl)
      refine step_call (w1 := wx) (f := 17) (args := #[.agg #[.string bl, .string bh, .bool bo], .slice A n c]) rfl rfl ?_ ((pick_pv bl bh bo (HPL.out wx hS) HN.out).mono ?_)
      · go_simp
      · rintro e w' ⟨v', rfl, hv, hq⟩
        exact ⟨_, rfl, hq, fun d hd => by cases hd; exact hv⟩
    · obtain ⟨_, q23, rfl⟩ := hG.new 23 (by kernel_rfl) (by kernel_rfl)
      obtain ⟨v1, q26, h1⟩ := hG.new 26 (by kernel_rfl) (by kernel_rfl)
      have h2 : PV wx v1 (pickL ⟨bl, bh, bo⟩ l) := h1
      refine step_call (w1 := wx) (f := 17) (args := #[.agg #[.string al, .string ah, .bool ao], v1]) rfl rfl ?_ ((pick_pv al ah ao h2 (pick_len _ HN.out)).mono ?_)
      · clear h1 h2
        go_simp
      · rintro e w' ⟨v', rfl, hv, hq⟩
        exact ⟨_, rfl, hq, fun d hd => by cases hd; exact hv⟩
    · obtain ⟨v1, q27, h1⟩ := hG.new 27 (by kernel_rfl) (by kernel_rfl)
      have h2 : PV wx v1 (pickL ⟨al, ah, ao⟩ (pickL ⟨bl, bh, bo⟩ l)) := h1
      refine step_value (v := v1) (w' := wx) rfl rfl ?_ (Below.refl _ _) (fun d hd => by cases hd; exact h2)
      clear h1 h2
      go_simp
  intro f w3 hS3 hV3
  have hv7 : PV w3 (f 7) (pickL ⟨al, ah, ao⟩ (pickL ⟨bl, bh, bo⟩ l)) := hV3 7 (by decide)
  simp only [puts, Act.put, List.setIfInBounds_toArray, List.set_cons_succ, List.set_cons_zero]
  clear hV3
  have hbz := hbz.trans (hS3.mono hbz.size)
  have HX := Lib.hid (HX.out.on hS3)
  have HPV := Lib.hid (HPV.out.on hS3)
  have H7 := Lib.hid hv7
  clear hv7 hS3 HCA HCB HPL
  have HCA := Lib.hid (show ∀ w', Below w3.heap.size w3 w' → w'.cell? ⟨w.heap.size, 0, none⟩ = some (.string al) ∧ w'.cell? ⟨w.heap.size, 1, none⟩ = some (.string ah) ∧ w'.cell? ⟨w.heap.size, 2, none⟩ = some (.bool ao) from fun w' h => RBlk.cells (r := ⟨al, ah, ao⟩) (cells_of HX.out.1 h))
  have HCB := Lib.hid (show ∀ w', Below w3.heap.size w3 w' → w'.cell? ⟨w.heap.size + 1, 0, none⟩ = some (.string bl) ∧ w'.cell? ⟨w.heap.size + 1, 1, none⟩ = some (.string bh) ∧ w'.cell? ⟨w.heap.size + 1, 2, none⟩ = some (.bool bo) from fun w' h => RBlk.cells (r := ⟨bl, bh, bo⟩) (cells_of HX.out.2 h))
  have HPL := Lib.hid (show ∀ w', Below w3.heap.size w3 w' → PV w' (.slice A n c) l from fun w' h => HPV.out.on h)
  go_wp2
  refine wp_region_inv [28, 29, 30, 31, 32, 8] (by kernel_rfl) (by kernel_rfl) (fun w' => Below w3.heap.size w3 w') (fun w1 w2 => Below w1.heap.size w1 w2) (PicksV4 al ah bl bh ao bo A n c l) (by kernel_rfl) (fun w1 w2 h1 h2 => h2.trans (h1.mono h2.size)) (fun t v w1 w2 h1 h2 => h2.below h1) (Below.refl _ _).drew (steps_of ?_) ?_
  · refine Steps1.cons (fun ax wx hS hG => ?_) (Steps1.cons (fun ax wx hS hG => ?_) (Steps1.cons (fun ax wx hS hG => ?_) (Steps1.cons (fun ax wx hS hG => ?_) (Steps1.cons (fun ax wx hS hG => ?_) (Steps1.cons (fun ax wx hS hG => ?_) Steps1.nil)))))
    · have q4 := hG.old 4 (by kernel_rfl) (by kernel_rfl)
      obtain ⟨z0, z1, z2⟩ := HCB.out wx hS
      refine step_value (v := (.agg #[.string bl, .string bh, .bool bo])) (w' := wx) rfl rfl ?_ (Below.refl _ _) (fun d hd => by cases hd; exact rfl)
      go_simp
    · have q3 := hG.old 3 (by kernel_rfl) (by kernel_rfl)
      obtain ⟨z0, z1, z2⟩ := HCA.out wx hS
      refine step_value (v := (.agg #[.string al, .string ah, .bool ao])) (w' := wx) rfl rfl ?_ (Below.refl _ _) (fun d hd => by cases hd; exact rfl)
      go_simp
    · have q2 := hG.old 2 (by kernel_rfl) (by kernel_rfl)
      refine step_value (v := .slice A n c) (w' := wx) rfl rfl ?_ (Below.refl _ _) (fun d hd => by cases hd; exact rfl)
      go_simp
    · obtain ⟨_, q29, rfl⟩ := hG.new 29 (by kernel_rfl) (by kernel_rfl)
      obtain ⟨_, q30, rfl⟩ := hG.new 30 (by kernel_rfl) (by kernel_rfl)
      refine step_call (w1 := wx) (f := 17) (args := #[.agg #[.string al, .string ah, .bool ao], .slice A n c]) rfl rfl ?_ ((pick_pv al ah ao (HPL.out wx hS) HN.out).mono ?_)
      · go_simp
      · rintro e w' ⟨v', rfl, hv, hq⟩
        exact ⟨_, rfl, hq, fun d hd => by cases hd; exact hv⟩
    · obtain ⟨_, q28, rfl⟩ := hG.new 28 (by kernel_rfl) (by kernel_rfl)
      obtain ⟨v1, q31, h1⟩ := hG.new 31 (by kernel_rfl) (by kernel_rfl)
      have h2 : PV wx v1 (pickL ⟨al, ah, ao⟩ l) := h1
      refine step_call (w1 := wx) (f := 17) (args := #[.agg #[.string bl, .string bh, .bool bo], v1]) rfl rfl ?_ ((pick_pv bl bh bo h2 (pick_len _ HN.out)).mono ?_)
      · clear h1 h2
        go_simp
      · rintro e w' ⟨v', rfl, hv, hq⟩
        exact ⟨_, rfl, hq, fun d hd => by cases hd; exact hv⟩
    · obtain ⟨v1, q32, h1⟩ := hG.new 32 (by kernel_rfl) (by kernel_rfl)
      have h2 : PV wx v1 (pickL ⟨bl, bh, bo⟩ (pickL ⟨al, ah, ao⟩ l)) := h1
      refine step_value (v := v1) (w' := wx) rfl rfl ?_ (Below.refl _ _) (fun d hd => by cases hd; exact h2)
      clear h1 h2
      go_simp
  intro g w4 hS4 hV4
  have hv8 : PV w4 (g 8) (pickL ⟨bl, bh, bo⟩ (pickL ⟨al, ah, ao⟩ l)) := hV4 8 (by decide)
  simp only [puts, Act.put, List.setIfInBounds_toArray, List.set_cons_succ, List.set_cons_zero]
  clear hV4
  have hbz := hbz.trans (hS4.mono hbz.size)
  have HX := Lib.hid (HX.out.on hS4)
  have HPV := Lib.hid (HPV.out.on hS4)
  have H7 := Lib.hid (H7.out.on hS4)
  rw [pick_comm] at hv8
  have HMX := Lib.hid (pick_meet ⟨al, ah, ao⟩ ⟨bl, bh, bo⟩ l)
  have HXN := Lib.hid (show (pickL ⟨al, ah, ao⟩ (pickL ⟨bl, bh, bo⟩ l)).length ≤ 1000000 from pick_len _ (pick_len _ HN.out))
  generalize pickL ⟨al, ah, ao⟩ (pickL ⟨bl, bh, bo⟩ l) = X at *
  have H8 := Lib.hid hv8
  clear hv8 hS4 HCA HCB HPL
  generalize f 7 = v7 at *
  generalize g 8 = v8 at *
  obtain ⟨⟨a1, a2, a3⟩, ⟨b1, b2, b3⟩⟩ := HX.out.cells
  simp only at a1 a2 a3 b1 b2 b3
  go_wp2_with fail
  refine (same_pv H7.out H8.out HXN.out).mono ?_
  rintro e w5 ⟨rfl, hb5⟩
  have hbz := hbz.trans (hb5.mono hbz.size)
  have HX := Lib.hid (HX.out.on hb5)
  have HPV := Lib.hid (HPV.out.on hb5)
  have H7 := Lib.hid (H7.out.on hb5)
  clear a1 a2 a3 b1 b2 b3 hb5 H8
  obtain ⟨⟨a1, a2, a3⟩, ⟨b1, b2, b3⟩⟩ := HX.out.cells
  simp only at a1 a2 a3 b1 b2 b3
  have h0 := meet_two al ah bl bh ao bo w5 w5.heap.size rfl
  generalize meetL [⟨al, ah, ao⟩, ⟨bl, bh, bo⟩] = m at *
  obtain ⟨ml, mh, mo⟩ := m
  unfold Rng.v at h0
  go_wp2_with fail
  refine h0.mono ?_
  clear h0
  rintro e w6 ⟨rfl, hb6⟩
  have hbz := hbz.trans (hb6.mono hbz.size)
  have HPV := Lib.hid (HPV.out.on hb6)
  have H7 := Lib.hid (H7.out.on hb6)
  clear a1 a2 a3 b1 b2 b3 hb6
  go_wp2_with fail
  refine (pick_pv ml mh mo HPV.out HN.out).mono ?_
  rintro e w7 ⟨v9, rfl, hv9, hb7⟩
  rw [HMX.out] at hv9
  have hbz := hbz.trans (hb7.mono hbz.size)
  have HPV := Lib.hid (HPV.out.on hb7)
  have H7 := Lib.hid (H7.out.on hb7)
  have H9 := Lib.hid hv9
  clear hb7 hv9
  go_wp2_with fail
  refine (same_pv H7.out H9.out HXN.out).mono ?_
  rintro e w8 ⟨rfl, hb8⟩
  have hbz := hbz.trans (hb8.mono hbz.size)
  have HPV := Lib.hid (HPV.out.on hb8)
  clear hb8 H7 H9
  go_wp2_with fail
  refine (pick_pv ⟨#[]⟩ ⟨#[]⟩ true HPV.out HN.out).mono ?_
  rintro e w9 ⟨va, rfl, hva, hb9⟩
  have hva2 : PV w9 va l := by
    have h := pick_all l
    unfold allR noS at h
    rwa [h] at hva
  have hbz := hbz.trans (hb9.mono hbz.size)
  have HPV := Lib.hid (HPV.out.on hb9)
  have HVA := Lib.hid hva2
  clear hb9 hva hva2
  go_wp2_with fail
  refine (same_pv HVA.out HPV.out HN.out).mono ?_
  rintro e wa ⟨rfl, hba⟩
  have hbz := hbz.trans (hba.mono hbz.size)
  clear hba
  go_wp2_with fail
  refine (awake_true _).mono ?_
  rintro e wb ⟨rfl, hbb⟩
  go_wp2
  go_ret
  exact ⟨rfl, hbz.trans (hbb.mono hbz.size)⟩

end Go.Proofs.Ytmbcmacegncnmaa
