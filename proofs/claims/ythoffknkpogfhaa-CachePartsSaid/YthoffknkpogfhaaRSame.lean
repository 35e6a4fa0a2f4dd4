/- The walks of the document's Same, and of the law's same. -/
import Derived.Test.YthoffknkpogfhaaWCopied
set_option linter.unusedVariables false
set_option linter.unusedSimpArgs false
namespace Go.Proofs.Ythoffknkpogfhaa
open Go.RowKit

set_option maxHeartbeats 2000000 in
set_option maxRecDepth 100000 in
theorem rsame_any (A B : Option Addr) (c d : Nat) (xs ys : List It) (w : World) (ha : Its w w.heap.size A xs) (hb : Its w w.heap.size B ys) (hla : xs.length ≤ maxLen) :
    Calls Try.prog 22 #[.slice A xs.length c, .slice B ys.length d] w fun e w' => e = .returned (.bool (decide (xs = ys))) ∧ Below w.heap.size w w' := by
  unfold maxLen at hla
  by_cases hl : xs.length = ys.length
  · generalize hn : xs.length = n at *
    have Hl := Lib.hid hl.symm
    have Hn := Lib.hid hn
    have hne : ((n : Int) != (n : Int)) = false := by simp
    rw [← hl]
    have Ha := Lib.hid ha
    have Hb := Lib.hid hb
    clear hl hn ha hb
    go_enter Try.func22, Try.ntmps22
    go_wp2
    go_loopw [5] (fun i wr => ∃ (k : Nat), i = .int .i64 k ∧ k ≤ n ∧ Hid (xs.take k = ys.take k) ∧ Below w.heap.size w wr) (fun i _ => (n - intOf i).toNat)
    case atStart => exact ⟨0, rfl, by omega, by show _ = _; simp, Below.refl _ _⟩
    case round =>
      obtain ⟨k, rfl, hk, HT, hbr⟩ := hrel
      by_cases hlt : k < n
      · obtain ⟨a1, rfl, hab, hca⟩ := (Ha.out.below hbr).seeI (by rw [Hn.out]; omega)
        obtain ⟨b1, rfl, hbb, hcb⟩ := (Hb.out.below hbr).seeI (by rw [Hl.out]; omega)
        obtain ⟨c1, c2, c3⟩ := hca k (by rw [Hn.out]; omega)
        obtain ⟨d1, d2, d3⟩ := hcb k (by rw [Hl.out]; omega)
        obtain ⟨x, hx⟩ : ∃ x, x = xs[k]'(by rw [Hn.out]; omega) := ⟨_, rfl⟩
        obtain ⟨y, hy⟩ : ∃ y, y = ys[k]'(by rw [Hl.out]; omega) := ⟨_, rfl⟩
        rw [← hx] at c1 c2 c3
        rw [← hy] at d1 d2 d3
        have HX := Lib.hid hx
        have HY := Lib.hid hy
        clear hx hy hca hcb
        obtain ⟨xa, xt, xd⟩ := x
        obtain ⟨ya, yt, yd⟩ := y
        simp only at c1 c2 c3 d1 d2 d3
        by_cases hxy : (⟨xa, xt, xd⟩ : It) = ⟨ya, yt, yd⟩
        · injection hxy with h1 h2 h3
          subst h1 h2 h3
          go_wp2
          go_quiet (fail)
          go_wp2
          go_roundw
          case rel => exact ⟨k + 1, by go_num, by omega, by show _ = _; rw [List.take_succ_eq_append_getElem (by rw [Hn.out]; omega), List.take_succ_eq_append_getElem (by rw [Hl.out]; omega), HT.out, ← HX.out, ← HY.out], below_drewN hbr _⟩
          case measure => simp [intOf]; omega
        · have HE := Lib.hid (decide_eq_false (show xs ≠ ys from fun h => hxy (by rw [HX.out, HY.out]; simp [h])))
          by_cases h1 : xa = ya
          · subst h1
            by_cases h2 : xt = yt
            · subst h2
              have h3 : xd ≠ yd := fun h => hxy (by rw [h])
              have hz : (xd == yd) = false := by simpa using h3
              clear hxy h3
              go_wp2
              go_quiet (fail)
              go_wp2
              go_ret
              rw [HE.out]
              exact ⟨rfl, below_drewN hbr _⟩
            · have hz := str_ne h2
              clear hxy h2
              go_wp2
              go_quiet (fail)
              go_wp2
              go_ret
              rw [HE.out]
              exact ⟨rfl, below_drewN hbr _⟩
          · have hz : (xa == ya) = false := by simpa using h1
            clear hxy h1
            go_wp2
            go_quiet (fail)
            go_wp2
            go_ret
            rw [HE.out]
            exact ⟨rfl, below_drewN hbr _⟩
      · have hkn : k = n := by omega
        have Hk := Lib.hid hkn
        clear hkn
        go_wp2
        go_ret
        have e : xs = ys := by
          have h := HT.out
          rwa [Hk.out, List.take_of_length_le (by rw [Hn.out]; omega), List.take_of_length_le (by rw [Hl.out]; omega)] at h
        rw [decide_eq_true e]
        exact ⟨rfl, hbr⟩
  · have e : xs ≠ ys := fun h => hl (by rw [h])
    have HE := Lib.hid (decide_eq_false e)
    have hne : ((xs.length : Int) != (ys.length : Int)) = true := by simp; omega
    clear e hl ha hb
    go_enter Try.func22, Try.ntmps22
    go_wp2
    go_ret
    rw [HE.out]
    exact ⟨rfl, Below.refl _ _⟩
theorem rsame_v {v u : Value} {l m : List It} {w : World} (h : IV w v l) (g : IV w u m) (hn : l.length ≤ 10000) :
    Calls Try.prog 22 #[v, u] w fun e w' => e = .returned (.bool (decide (l = m))) ∧ Below w.heap.size w w' := by
  obtain ⟨A, c, rfl, h1, h2, h3⟩ := h
  obtain ⟨B, d, rfl, g1, g2, g3⟩ := g
  exact rsame_any A B c d l m w h1 g1 (by unfold maxLen; omega)

def SmT (g q : Nat) (m k : Int) (b : Bool) (s u : Value) (l : List It) (r : Bool) (p t : Nat) (v : Value) (w : World) : Prop :=
  match t with
  | 5 => v = .pointer (some ⟨g, 0, none⟩)
  | 6 => v = .int .i64 m
  | 7 => v = .pointer (some ⟨q, 0, none⟩)
  | 8 => v = .int .i64 k
  | 9 => v = .bool (m == k)
  | 10 => v = .bool b
  | 11 => v = .pointer (some ⟨g, 1, none⟩)
  | 12 => v = s
  | 13 => IV w v l
  | 14 => v = .pointer (some ⟨q, 1, none⟩)
  | 15 => v = u
  | 16 => v = .bool r
  | 17 => v = .bool r
  | 4 => v = .bool r
  | _ => True
theorem SmT.on {g q : Nat} {m k : Int} {b : Bool} {s u : Value} {l : List It} {r : Bool} {p t : Nat} {v : Value} {w w' : World} (h : SmT g q m k b s u l r p t v w) (hb : Below w.heap.size w w') : SmT g q m k b s u l r p t v w' := by
  unfold SmT at *
  split at h <;> first | exact h | exact h.on hb

def SmF (g q : Nat) (m k : Int) (b : Bool) (s u : Value) (l : List It) (r : Bool) (p t : Nat) (v : Value) (w : World) : Prop :=
  match t with
  | 5 => v = .pointer (some ⟨g, 0, none⟩)
  | 6 => v = .int .i64 m
  | 7 => v = .pointer (some ⟨q, 0, none⟩)
  | 8 => v = .int .i64 k
  | 9 => v = .bool (m == k)
  | 10 => v = .bool b
  | 11 => v = undef
  | 12 => v = undef
  | 13 => v = undef
  | 14 => v = undef
  | 15 => v = undef
  | 16 => v = undef
  | 17 => v = .bool false
  | 4 => v = .bool false
  | _ => True
theorem SmF.on {g q : Nat} {m k : Int} {b : Bool} {s u : Value} {l : List It} {r : Bool} {p t : Nat} {v : Value} {w w' : World} (h : SmF g q m k b s u l r p t v w) (hb : Below w.heap.size w w') : SmF g q m k b s u l r p t v w' := by
  unfold SmF at *
  split at h <;> first | exact h | exact h.on hb

set_option maxHeartbeats 4000000 in
set_option maxRecDepth 100000 in
theorem same_v {s u : Value} {l h : List It} (m k : Int) (w : World) (hv : IV w s l) (hu : IV w u h) (hn : l.length ≤ 1000) :
    Calls Try.prog 18 #[.agg #[.int .i64 m, s], .agg #[.int .i64 k, u]] w fun e w' => e = .returned (.bool (decide (m = k ∧ l = h))) ∧ Below w.heap.size w w' := by
  obtain ⟨A, c, rfl, hv⟩ := (show ∃ A c, s = .slice A l.length c ∧ IV w (.slice A l.length c) l from by obtain ⟨A, c, e, h⟩ := hv; exact ⟨A, c, e, A, c, rfl, h⟩)
  obtain ⟨A2, c2, rfl, hu⟩ := (show ∃ A c, u = .slice A h.length c ∧ IV w (.slice A h.length c) h from by obtain ⟨A, c, e, h⟩ := hu; exact ⟨A, c, e, A, c, rfl, h⟩)
  obtain ⟨n1, hn1⟩ : ∃ n1, n1 = l.length := ⟨_, rfl⟩
  obtain ⟨n2, hn2⟩ : ∃ n2, n2 = h.length := ⟨_, rfl⟩
  rw [← hn1] at hv ⊢
  rw [← hn2] at hu ⊢
  obtain ⟨R, hR⟩ : ∃ R, R = decide (m = k ∧ l = h) := ⟨_, rfl⟩
  rw [← hR]
  have HR := Lib.hid hR
  obtain ⟨b, hb⟩ : ∃ b, b = decide (m = k) := ⟨_, rfl⟩
  have HBB := Lib.hid hb
  have HB := Lib.hid (show (m == k) = b from by rw [hb]; rfl)
  obtain ⟨r, hr⟩ : ∃ r, r = decide (l = h) := ⟨_, rfl⟩
  have HRR := Lib.hid hr
  obtain ⟨w1, hw1⟩ : ∃ w1, w1 = w.alloc (.cells #[.int .i64 m, .slice A n1 c] 24) := ⟨_, rfl⟩
  obtain ⟨wd, hwd⟩ : ∃ wd, wd = w1.alloc (.cells #[.int .i64 k, .slice A2 n2 c2] 32) := ⟨_, rfl⟩
  obtain ⟨g, hg⟩ : ∃ g, g = w.heap.size := ⟨_, rfl⟩
  obtain ⟨q, hq⟩ : ∃ q, q = w1.heap.size := ⟨_, rfl⟩
  have hq1 : g + 1 = q := by rw [hq, hw1, hg]; simp
  have BX := Lib.hid (show Box wd g 24 #[.int .i64 m, .slice A n1 c] from by rw [hwd]; exact Box.push (by rw [hw1]; exact Box.at_ w _ _ hg) _)
  have BQ := Lib.hid (show Box wd q 32 #[.int .i64 k, .slice A2 n2 c2] from by rw [hwd]; exact Box.at_ w1 _ _ hq)
  have hb2 : Below w.heap.size w wd := by rw [hwd, hw1]; exact ((Below.refl _ _).alloc (Nat.le_refl _) _).alloc (by simp) _
  have HS := Lib.hid (hv.on hb2)
  have HU := Lib.hid (hu.on hb2)
  have HBL := Lib.hid hb2
  have HN := Lib.hid hn
  have hsm : ∀ (wx : World) (v : Value), Below wd.heap.size wd wx → IV wx v l → Calls Try.prog 22 #[v, .slice A2 n2 c2] wx fun e w' => e = .returned (.bool r) ∧ Below wx.heap.size wx w' := fun wx v h1 h2 => by rw [HRR.out]; exact rsame_v h2 (HU.out.on h1) (Nat.le_trans HN.out (by decide))
  clear hR hr hb hn hv hu hb2 hn1 hn2
  go_enter Try.func18, Try.ntmps18
  go_upto_region 1 with fail
  rw [← hg, hq1, ← hw1, ← hwd]
  clear hg hq hq1 hw1 hwd
  cases b with
  | true =>
    refine wp_region_phase 14 [5, 6, 7, 8, 9, 10, 11, 12, 13, 14, 15, 16, 17, 4] (by kernel_rfl) [] [] (fun _ _ => True) 0 rfl (by kernel_rfl) (SP (fun wx => Below wd.heap.size wd wx) (fun _ => True) (fun _ => True)) (fun wa wb => Below wa.heap.size wa wb) (SmT g q m k true (.slice A n1 c) (.slice A2 n2 c2) l r) (by kernel_rfl) (SP.on below_grow (fun _ _ _ _ => trivial) (fun _ _ _ _ => trivial)) (fun _ t v wa wb h1 h2 => h2.on h1) (fun _ _ _ _ _ _ _ => trivial) (Below.refl _ _).drew trivial (phase0 ?_) ?_
    · refine Steps1.cons (fun _ ax wx hS _ hG => ?_) (Steps1.cons (fun _ ax wx hS _ hG => ?_) (Steps1.cons (fun _ ax wx hS _ hG => ?_) (Steps1.cons (fun _ ax wx hS _ hG => ?_) (Steps1.cons (fun _ ax wx hS _ hG => ?_) (Steps1.cons (fun _ ax wx hS _ hG => ?_) (Steps1.cons (fun _ ax wx hS _ hG => ?_) (Steps1.cons (fun _ ax wx hS _ hG => ?_) (Steps1.cons (fun _ ax wx hS _ hG => ?_) (Steps1.cons (fun _ ax wx hS _ hG => ?_) (Steps1.cons (fun _ ax wx hS _ hG => ?_) (Steps1.cons (fun _ ax wx hS _ hG => ?_) (Steps1.cons (fun _ ax wx hS _ hG => ?_) (Steps1.cons (fun _ ax wx hS _ hG => ?_) Steps1.nil)))))))))))))
      · have q2 := hG.old 2 (by kernel_rfl) (by kernel_rfl)
        refine step_slot rfl rfl rfl (step_value (v := .pointer (some ⟨g, 0, none⟩)) (w' := wx) rfl rfl ?_ (Below.refl _ _) (fun d hd => by cases hd; exact rfl))
        go_simp
      · obtain ⟨_, q5, rfl⟩ := hG.new 5 (by kernel_rfl) (by kernel_rfl)
        have z0 := Box.cell (BX.out.on hS) 0 rfl
        refine step_slot rfl rfl rfl (step_value (v := .int .i64 m) (w' := wx) rfl rfl ?_ (Below.refl _ _) (fun d hd => by cases hd; exact rfl))
        go_simp
      · have q3 := hG.old 3 (by kernel_rfl) (by kernel_rfl)
        refine step_slot rfl rfl rfl (step_value (v := .pointer (some ⟨q, 0, none⟩)) (w' := wx) rfl rfl ?_ (Below.refl _ _) (fun d hd => by cases hd; exact rfl))
        go_simp
      · obtain ⟨_, q7, rfl⟩ := hG.new 7 (by kernel_rfl) (by kernel_rfl)
        have z0 := Box.cell (BQ.out.on hS) 0 rfl
        refine step_slot rfl rfl rfl (step_value (v := .int .i64 k) (w' := wx) rfl rfl ?_ (Below.refl _ _) (fun d hd => by cases hd; exact rfl))
        go_simp
      · obtain ⟨_, q6, rfl⟩ := hG.new 6 (by kernel_rfl) (by kernel_rfl)
        obtain ⟨_, q8, rfl⟩ := hG.new 8 (by kernel_rfl) (by kernel_rfl)
        refine step_slot rfl rfl rfl (step_value (v := .bool (m == k)) (w' := wx) rfl rfl ?_ (Below.refl _ _) (fun d hd => by cases hd; exact rfl))
        go_simp
      · obtain ⟨_, q9, rfl⟩ := hG.new 9 (by kernel_rfl) (by kernel_rfl)
        refine step_slot rfl rfl rfl (step_value (v := .bool true) (w' := wx) rfl rfl ?_ (Below.refl _ _) (fun d hd => by cases hd; exact rfl))
        have hb := HB.out
        (go_simp; first | done | exact hb | simp [hb])
      · obtain ⟨_, q10, rfl⟩ := hG.new 10 (by kernel_rfl) (by kernel_rfl)
        have q2 := hG.old 2 (by kernel_rfl) (by kernel_rfl)
        refine step_slot rfl rfl rfl (step_value (v := .pointer (some ⟨g, 1, none⟩)) (w' := wx) rfl (by simp [Region.wanted, yielded, q10]) ?_ (Below.refl _ _) (fun d hd => by cases hd; exact rfl))
        go_simp
      · obtain ⟨_, q10, rfl⟩ := hG.new 10 (by kernel_rfl) (by kernel_rfl)
        obtain ⟨_, q11, rfl⟩ := hG.new 11 (by kernel_rfl) (by kernel_rfl)
        have z0 := Box.cell (BX.out.on hS) 1 rfl
        refine step_slot rfl rfl rfl (step_value (v := .slice A n1 c) (w' := wx) rfl (by simp [Region.wanted, yielded, q10]) ?_ (Below.refl _ _) (fun d hd => by cases hd; exact rfl))
        go_simp
      · obtain ⟨_, q10, rfl⟩ := hG.new 10 (by kernel_rfl) (by kernel_rfl)
        obtain ⟨_, q12, rfl⟩ := hG.new 12 (by kernel_rfl) (by kernel_rfl)
        refine step_slot rfl rfl rfl (step_call (w1 := wx) (f := 15) (args := #[.slice A n1 c]) rfl (by simp [Region.wanted, yielded, q10]) ?_ ((refs_v (HS.out.on hS) HN.out).mono ?_))
        · skip
          go_simp
        · rintro e w' ⟨v', rfl, hv, hq⟩
          exact ⟨_, rfl, hq, fun d hd => by cases hd; exact hv⟩
      · obtain ⟨_, q10, rfl⟩ := hG.new 10 (by kernel_rfl) (by kernel_rfl)
        have q3 := hG.old 3 (by kernel_rfl) (by kernel_rfl)
        refine step_slot rfl rfl rfl (step_value (v := .pointer (some ⟨q, 1, none⟩)) (w' := wx) rfl (by simp [Region.wanted, yielded, q10]) ?_ (Below.refl _ _) (fun d hd => by cases hd; exact rfl))
        go_simp
      · obtain ⟨_, q10, rfl⟩ := hG.new 10 (by kernel_rfl) (by kernel_rfl)
        obtain ⟨_, q14, rfl⟩ := hG.new 14 (by kernel_rfl) (by kernel_rfl)
        have z0 := Box.cell (BQ.out.on hS) 1 rfl
        refine step_slot rfl rfl rfl (step_value (v := .slice A2 n2 c2) (w' := wx) rfl (by simp [Region.wanted, yielded, q10]) ?_ (Below.refl _ _) (fun d hd => by cases hd; exact rfl))
        go_simp
      · obtain ⟨_, q10, rfl⟩ := hG.new 10 (by kernel_rfl) (by kernel_rfl)
        obtain ⟨v13, q13, h13⟩ := hG.new 13 (by kernel_rfl) (by kernel_rfl)
        have p13 : IV wx v13 l := h13
        obtain ⟨_, q15, rfl⟩ := hG.new 15 (by kernel_rfl) (by kernel_rfl)
        refine step_slot rfl rfl rfl (step_call (w1 := wx) (f := 22) (args := #[v13, .slice A2 n2 c2]) rfl (by simp [Region.wanted, yielded, q10]) ?_ ((hsm wx v13 hS p13).mono ?_))
        · clear h13 p13
          go_simp
        · rintro e w' ⟨rfl, hq⟩
          exact ⟨_, rfl, hq, fun d hd => by cases hd; exact rfl⟩
      · obtain ⟨_, q10, rfl⟩ := hG.new 10 (by kernel_rfl) (by kernel_rfl)
        obtain ⟨_, q16, rfl⟩ := hG.new 16 (by kernel_rfl) (by kernel_rfl)
        refine step_slot rfl rfl rfl (step_value (v := .bool r) (w' := wx) rfl rfl ?_ (Below.refl _ _) (fun d hd => by cases hd; exact rfl))
        go_simp
      · obtain ⟨_, q17, rfl⟩ := hG.new 17 (by kernel_rfl) (by kernel_rfl)
        refine step_slot rfl rfl rfl (step_value (v := .bool r) (w' := wx) rfl rfl ?_ (Below.refl _ _) (fun d hd => by cases hd; exact rfl))
        go_simp
    intro fv w8 hS8 _ hV8
    have e4 : fv 4 = .bool r := hV8 4 (by decide)
    simp only [puts, Act.put, List.setIfInBounds_toArray, List.set_cons_succ, List.set_cons_zero]
    clear hV8
    rw [e4]
    have HE := Lib.hid (show R = r from by
      have h1 : m = k := of_decide_eq_true HBB.out.symm
      rw [HR.out, HRR.out]
      simp [h1])
    go_wp2
    go_ret
    rw [HE.out]
    exact ⟨rfl, HBL.out.trans ((show Below _ _ _ from hS8).mono HBL.out.size)⟩
  | false =>
    refine wp_region_phase 14 [5, 6, 7, 8, 9, 10, 11, 12, 13, 14, 15, 16, 17, 4] (by kernel_rfl) [] [] (fun _ _ => True) 0 rfl (by kernel_rfl) (SP (fun wx => Below wd.heap.size wd wx) (fun _ => True) (fun _ => True)) (fun wa wb => Below wa.heap.size wa wb) (SmF g q m k false (.slice A n1 c) (.slice A2 n2 c2) l r) (by kernel_rfl) (SP.on below_grow (fun _ _ _ _ => trivial) (fun _ _ _ _ => trivial)) (fun _ t v wa wb h1 h2 => h2.on h1) (fun _ _ _ _ _ _ _ => trivial) (Below.refl _ _).drew trivial (phase0 ?_) ?_
    · refine Steps1.cons (fun _ ax wx hS _ hG => ?_) (Steps1.cons (fun _ ax wx hS _ hG => ?_) (Steps1.cons (fun _ ax wx hS _ hG => ?_) (Steps1.cons (fun _ ax wx hS _ hG => ?_) (Steps1.cons (fun _ ax wx hS _ hG => ?_) (Steps1.cons (fun _ ax wx hS _ hG => ?_) (Steps1.cons (fun _ ax wx hS _ hG => ?_) (Steps1.cons (fun _ ax wx hS _ hG => ?_) (Steps1.cons (fun _ ax wx hS _ hG => ?_) (Steps1.cons (fun _ ax wx hS _ hG => ?_) (Steps1.cons (fun _ ax wx hS _ hG => ?_) (Steps1.cons (fun _ ax wx hS _ hG => ?_) (Steps1.cons (fun _ ax wx hS _ hG => ?_) (Steps1.cons (fun _ ax wx hS _ hG => ?_) Steps1.nil)))))))))))))
      · have q2 := hG.old 2 (by kernel_rfl) (by kernel_rfl)
        refine step_slot rfl rfl rfl (step_value (v := .pointer (some ⟨g, 0, none⟩)) (w' := wx) rfl rfl ?_ (Below.refl _ _) (fun d hd => by cases hd; exact rfl))
        go_simp
      · obtain ⟨_, q5, rfl⟩ := hG.new 5 (by kernel_rfl) (by kernel_rfl)
        have z0 := Box.cell (BX.out.on hS) 0 rfl
        refine step_slot rfl rfl rfl (step_value (v := .int .i64 m) (w' := wx) rfl rfl ?_ (Below.refl _ _) (fun d hd => by cases hd; exact rfl))
        go_simp
      · have q3 := hG.old 3 (by kernel_rfl) (by kernel_rfl)
        refine step_slot rfl rfl rfl (step_value (v := .pointer (some ⟨q, 0, none⟩)) (w' := wx) rfl rfl ?_ (Below.refl _ _) (fun d hd => by cases hd; exact rfl))
        go_simp
      · obtain ⟨_, q7, rfl⟩ := hG.new 7 (by kernel_rfl) (by kernel_rfl)
        have z0 := Box.cell (BQ.out.on hS) 0 rfl
        refine step_slot rfl rfl rfl (step_value (v := .int .i64 k) (w' := wx) rfl rfl ?_ (Below.refl _ _) (fun d hd => by cases hd; exact rfl))
        go_simp
      · obtain ⟨_, q6, rfl⟩ := hG.new 6 (by kernel_rfl) (by kernel_rfl)
        obtain ⟨_, q8, rfl⟩ := hG.new 8 (by kernel_rfl) (by kernel_rfl)
        refine step_slot rfl rfl rfl (step_value (v := .bool (m == k)) (w' := wx) rfl rfl ?_ (Below.refl _ _) (fun d hd => by cases hd; exact rfl))
        go_simp
      · obtain ⟨_, q9, rfl⟩ := hG.new 9 (by kernel_rfl) (by kernel_rfl)
        refine step_slot rfl rfl rfl (step_value (v := .bool false) (w' := wx) rfl rfl ?_ (Below.refl _ _) (fun d hd => by cases hd; exact rfl))
        have hb := HB.out
        (go_simp; first | done | exact hb | simp [hb])
      · obtain ⟨_, q10, rfl⟩ := hG.new 10 (by kernel_rfl) (by kernel_rfl)
        refine step_slot rfl rfl rfl (step_past rfl (by simp [Region.wanted, yielded, q10]) (Below.refl _ _) (fun d hd => by cases hd; exact rfl))
      · obtain ⟨_, q10, rfl⟩ := hG.new 10 (by kernel_rfl) (by kernel_rfl)
        refine step_slot rfl rfl rfl (step_past rfl (by simp [Region.wanted, yielded, q10]) (Below.refl _ _) (fun d hd => by cases hd; exact rfl))
      · obtain ⟨_, q10, rfl⟩ := hG.new 10 (by kernel_rfl) (by kernel_rfl)
        refine step_slot rfl rfl rfl (step_past rfl (by simp [Region.wanted, yielded, q10]) (Below.refl _ _) (fun d hd => by cases hd; exact rfl))
      · obtain ⟨_, q10, rfl⟩ := hG.new 10 (by kernel_rfl) (by kernel_rfl)
        refine step_slot rfl rfl rfl (step_past rfl (by simp [Region.wanted, yielded, q10]) (Below.refl _ _) (fun d hd => by cases hd; exact rfl))
      · obtain ⟨_, q10, rfl⟩ := hG.new 10 (by kernel_rfl) (by kernel_rfl)
        refine step_slot rfl rfl rfl (step_past rfl (by simp [Region.wanted, yielded, q10]) (Below.refl _ _) (fun d hd => by cases hd; exact rfl))
      · obtain ⟨_, q10, rfl⟩ := hG.new 10 (by kernel_rfl) (by kernel_rfl)
        refine step_slot rfl rfl rfl (step_past rfl (by simp [Region.wanted, yielded, q10]) (Below.refl _ _) (fun d hd => by cases hd; exact rfl))
      · obtain ⟨_, q10, rfl⟩ := hG.new 10 (by kernel_rfl) (by kernel_rfl)
        obtain ⟨_, q16, rfl⟩ := hG.new 16 (by kernel_rfl) (by kernel_rfl)
        refine step_slot rfl rfl rfl (step_value (v := .bool false) (w' := wx) rfl rfl ?_ (Below.refl _ _) (fun d hd => by cases hd; exact rfl))
        go_simp
      · obtain ⟨_, q17, rfl⟩ := hG.new 17 (by kernel_rfl) (by kernel_rfl)
        refine step_slot rfl rfl rfl (step_value (v := .bool false) (w' := wx) rfl rfl ?_ (Below.refl _ _) (fun d hd => by cases hd; exact rfl))
        go_simp
    intro fv w8 hS8 _ hV8
    have e4 : fv 4 = .bool false := hV8 4 (by decide)
    simp only [puts, Act.put, List.setIfInBounds_toArray, List.set_cons_succ, List.set_cons_zero]
    clear hV8
    rw [e4]
    have HE := Lib.hid (show R = false from by
      have h1 : ¬ m = k := of_decide_eq_false HBB.out.symm
      rw [HR.out]
      simp [h1])
    go_wp2
    go_ret
    rw [HE.out]
    exact ⟨rfl, HBL.out.trans ((show Below _ _ _ from hS8).mono HBL.out.size)⟩

end Go.Proofs.Ythoffknkpogfhaa
