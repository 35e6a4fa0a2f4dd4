/- The walk of pend.Right. -/
import Derived.Test.YteddjmkoleclpaaNBS
import Derived.Test.YteddjmkoleclpaaPP
set_option linter.unusedVariables false
set_option linter.unusedSimpArgs false
namespace Go.Proofs.Yteddjmkoleclpaa
open Go.RowKit Go.Sort

theorem well_each {l : List Nt} (h : ∀ i (h : i < l.length), rightN l[i] = true ∧ (0 < i → l[i - 1].key < l[i].key)) : wellN l = true := by
  rw [wellN_iff]
  refine ⟨?_, fun i hi h0 => (h i hi).2 h0⟩
  rw [List.all_eq_true]
  intro x hx
  obtain ⟨i, hi, rfl⟩ := List.getElem_of_mem hx
  exact (h i hi).1
theorem well_not {l : List Nt} (i : Nat) (h : i < l.length) (hn : ¬ (rightN l[i] = true ∧ (0 < i → l[i - 1].key < l[i].key))) : wellN l = false := by
  cases e : wellN l with
  | false => rfl
  | true => exact absurd ⟨List.all_eq_true.1 (wellN_right e) _ (List.getElem_mem h), fun h0 => ((wellN_iff l).1 e).2 i h h0⟩ hn

def PRightFV (xe pk : ByteArray) (g k kp n : Nat) (AG SL PA PB : Value) (t : Nat) (v : Value) (w : World) : Prop :=
  match t with
  | 12 => v = AG
  | 13 => v = .bool false
  | 14 => v = .bool true
  | 15 => v = .bool true
  | 16 => v = undef
  | 17 => v = undef
  | 18 => v = undef
  | 19 => v = undef
  | 20 => v = undef
  | 21 => v = undef
  | 22 => v = undef
  | 23 => v = undef
  | 24 => v = undef
  | 25 => v = undef
  | 26 => v = undef
  | 27 => v = undef
  | 28 => v = undef
  | 29 => v = .bool true
  | _ => True
theorem PRightFV.on {xe pk : ByteArray} {g k kp n : Nat} {AG SL PA PB : Value} {t : Nat} {v : Value} {w w' : World} (h : PRightFV xe pk g k kp n AG SL PA PB t v w) (_ : Below w.heap.size w w') : PRightFV xe pk g k kp n AG SL PA PB t v w' := by
  unfold PRightFV at *
  split at h <;> exact h

def PRightZV (xe pk : ByteArray) (g k kp n : Nat) (AG SL PA PB : Value) (t : Nat) (v : Value) (w : World) : Prop :=
  match t with
  | 12 => v = AG
  | 13 => v = .bool true
  | 14 => v = .bool false
  | 15 => v = .bool false
  | 16 => v = .int .i64 k
  | 17 => v = .bool false
  | 18 => v = .bool false
  | 19 => v = undef
  | 20 => v = undef
  | 21 => v = undef
  | 22 => v = undef
  | 23 => v = undef
  | 24 => v = undef
  | 25 => v = undef
  | 26 => v = undef
  | 27 => v = undef
  | 28 => v = .bool false
  | 29 => v = .bool false
  | _ => True
theorem PRightZV.on {xe pk : ByteArray} {g k kp n : Nat} {AG SL PA PB : Value} {t : Nat} {v : Value} {w w' : World} (h : PRightZV xe pk g k kp n AG SL PA PB t v w) (_ : Below w.heap.size w w') : PRightZV xe pk g k kp n AG SL PA PB t v w' := by
  unfold PRightZV at *
  split at h <;> exact h

def PRightGV (xe pk : ByteArray) (g k kp n : Nat) (AG SL PA PB : Value) (t : Nat) (v : Value) (w : World) : Prop :=
  match t with
  | 12 => v = AG
  | 13 => v = .bool true
  | 14 => v = .bool false
  | 15 => v = .bool false
  | 16 => v = .int .i64 k
  | 17 => v = .bool true
  | 18 => v = .bool true
  | 19 => v = SL
  | 20 => v = .int .i64 k
  | 21 => v = .int .i64 kp
  | 22 => v = PA
  | 23 => v = PB
  | 24 => v = .string pk
  | 25 => v = .pointer (some ⟨g, 1, none⟩)
  | 26 => v = .string xe
  | 27 => v = .bool false
  | 28 => v = .bool false
  | 29 => v = .bool false
  | _ => True
theorem PRightGV.on {xe pk : ByteArray} {g k kp n : Nat} {AG SL PA PB : Value} {t : Nat} {v : Value} {w w' : World} (h : PRightGV xe pk g k kp n AG SL PA PB t v w) (_ : Below w.heap.size w w') : PRightGV xe pk g k kp n AG SL PA PB t v w' := by
  unfold PRightGV at *
  split at h <;> exact h

def PRightBV (xe pk : ByteArray) (g k kp n : Nat) (AG SL PA PB : Value) (t : Nat) (v : Value) (w : World) : Prop :=
  match t with
  | 12 => v = AG
  | 13 => v = .bool true
  | 14 => v = .bool false
  | 15 => v = .bool false
  | 16 => v = .int .i64 k
  | 17 => v = .bool true
  | 18 => v = .bool true
  | 19 => v = SL
  | 20 => v = .int .i64 k
  | 21 => v = .int .i64 kp
  | 22 => v = PA
  | 23 => v = PB
  | 24 => v = .string pk
  | 25 => v = .pointer (some ⟨g, 1, none⟩)
  | 26 => v = .string xe
  | 27 => v = .bool true
  | 28 => v = .bool true
  | 29 => v = .bool true
  | _ => True
theorem PRightBV.on {xe pk : ByteArray} {g k kp n : Nat} {AG SL PA PB : Value} {t : Nat} {v : Value} {w w' : World} (h : PRightBV xe pk g k kp n AG SL PA PB t v w) (_ : Below w.heap.size w w') : PRightBV xe pk g k kp n AG SL PA PB t v w' := by
  unfold PRightBV at *
  split at h <;> exact h

set_option maxHeartbeats 2000000 in
set_option maxRecDepth 100000 in
theorem pright_any (A : Option Addr) (c : Nat) (l : List Nt) (w : World) (hA : Nts w w.heap.size A l) (hn : l.length ≤ maxLen) :
    Calls Try.prog 34 #[.slice A l.length c] w fun e w' => e = .returned (.bool (wellN l)) ∧ Below w.heap.size w w' := by
  unfold maxLen at hn
  obtain ⟨R, hR⟩ : ∃ R, R = wellN l := ⟨_, rfl⟩
  rw [← hR]
  have HY := Lib.hid (show (∀ i (h : i < l.length), rightN l[i] = true ∧ (0 < i → l[i - 1].key < l[i].key)) → R = true from fun h => by rw [hR]; exact well_each h)
  have HNo := Lib.hid (show ∀ i (h : i < l.length), ¬ (rightN l[i] = true ∧ (0 < i → l[i - 1].key < l[i].key)) → R = false from fun i h hn => by rw [hR]; exact well_not i h hn)
  clear hR
  obtain ⟨n, hl⟩ : ∃ n, l.length = n := ⟨_, rfl⟩
  rw [hl] at hn ⊢
  have HL := Lib.hid hl
  have HA := Lib.hid hA
  clear hl hA
  go_enter Try.func34, Try.ntmps34
  go_wp2
  go_loopw [7] (fun i wr => ∃ (k : Nat), i = .int .i64 k ∧ k ≤ n ∧ Hid (∀ i (h : i < l.length), i < k → rightN l[i] = true ∧ (0 < i → l[i - 1].key < l[i].key)) ∧ Below w.heap.size w wr) (fun i _ => (n - intOf i).toNat)
  case atStart => exact ⟨0, rfl, by omega, fun i h h0 => by omega, Below.refl _ _⟩
  case round =>
    obtain ⟨k, rfl, hk, HG, hbr⟩ := hrel
    by_cases hlt : k < n
    · obtain ⟨ad, rfl, hab, hca⟩ := (HA.out.below hbr).seeN (by rw [HL.out]; omega)
      obtain ⟨c1, c2, c3, c4⟩ := hca k (by rw [HL.out]; omega)
      have hkl : k < l.length := by rw [HL.out]; exact hlt
      obtain ⟨x, hx⟩ : ∃ x, x = l[k]'hkl := ⟨_, rfl⟩
      rw [← hx] at c1 c2 c3 c4
      have HX := Lib.hid hx
      clear hx
      obtain ⟨xk, xe, xv, xn⟩ := x
      simp only at c1 c2 c3 c4
      have hlt3 : (ad.add (k * 4)).block < w.heap.size := by rw [block_of_add]; exact hab
      have hbs := hbr.size
      have HCA := Lib.hid hca
      clear hca
      go_upto_region 4 with fail
      obtain ⟨g, hg⟩ : ∃ g, g = wr.heap.size := ⟨_, rfl⟩
      rw [← hg]
      obtain ⟨w1, hw1⟩ : ∃ w1, w1 = wr.alloc (.cells #[.int .i64 xk, .string xe, .string xv, .int .u64 (xn.toNat : Int)] 52) := ⟨_, rfl⟩
      rw [← hw1]
      have hb1 : Below w.heap.size w w1 := by rw [hw1]; exact hbr.alloc hbs _
      have hgw : g < w1.heap.size := by rw [hw1, hg]; simp
      have hbx : NBlk w1 g ⟨xk, xe, xv, xn⟩ := by rw [hw1]; exact Box.at_ wr _ _ hg
      have HCB := Lib.hid (show ∀ wx, Below w1.heap.size w1 wx → _ from fun wx hS => NBlk.cells (NBlk.on hbx hS))
      have hfc := fun wx => right_any xk xe xv xn wx
      have HC := Lib.hid (show ∀ i (h : i < l.length), ∀ wx, Below w1.heap.size w1 wx → wx.cell? ⟨(ad.add (i * 4)).block, (ad.add (i * 4)).off + 1, none⟩ = some (.string l[i].key) ∧ True from fun i h wx hS => by
        obtain ⟨_, h1, _, _⟩ := HCA.out i h
        have hb2 := ((Below.refl _ wr).alloc (Nat.le_refl _) (.cells #[.int .i64 xk, .string xe, .string xv, .int .u64 (xn.toNat : Int)] 52))
        rw [← hw1] at hb2
        have hb3 := hb2.trans (hS.mono hb2.size)
        exact ⟨(hb3.cell (lt_of_cell h1)).trans h1, trivial⟩)
      have hsz := hb1.size
      clear hw1 hg c1 c2 c3 c4 hbx
      have DONE := Lib.hid (show ∀ wx, Below w1.heap.size w1 wx → Below w.heap.size w wx from fun wx hS => hb1.trans (hS.mono hsz))
      cases hf : rightN ⟨xk, xe, xv, xn⟩ with
      | false =>
        rw [hf] at hfc
        have HFC := Lib.hid hfc
        clear hfc
        have HE := Lib.hid (HNo.out k hkl (by rw [← HX.out, hf]; simp))
        clear hf
        refine wp_region_inv [12, 13, 14, 15, 16, 17, 18, 19, 20, 21, 22, 23, 24, 25, 26, 27, 28, 29] (by kernel_rfl) (by kernel_rfl) (fun w' => Below w1.heap.size w1 w') (fun wa wb => Below wa.heap.size wa wb) (PRightFV xe xe g k k n (.agg #[.int .i64 xk, .string xe, .string xv, .int .u64 (xn.toNat : Int)]) (.slice (some ad) n c) (.bool true) (.bool true)) (by kernel_rfl) (fun wa wb h1 h2 => h2.trans (h1.mono h2.size)) (fun t v wa wb h1 h2 => h2.on h1) (Below.refl _ _).drew (steps_of ?_) ?_
        · skip
          refine Steps1.cons (fun ax wx hS hG => ?_) (Steps1.cons (fun ax wx hS hG => ?_) (Steps1.cons (fun ax wx hS hG => ?_) (Steps1.cons (fun ax wx hS hG => ?_) (Steps1.cons (fun ax wx hS hG => ?_) (Steps1.cons (fun ax wx hS hG => ?_) (Steps1.cons (fun ax wx hS hG => ?_) (Steps1.cons (fun ax wx hS hG => ?_) (Steps1.cons (fun ax wx hS hG => ?_) (Steps1.cons (fun ax wx hS hG => ?_) (Steps1.cons (fun ax wx hS hG => ?_) (Steps1.cons (fun ax wx hS hG => ?_) (Steps1.cons (fun ax wx hS hG => ?_) (Steps1.cons (fun ax wx hS hG => ?_) (Steps1.cons (fun ax wx hS hG => ?_) (Steps1.cons (fun ax wx hS hG => ?_) (Steps1.cons (fun ax wx hS hG => ?_) (Steps1.cons (fun ax wx hS hG => ?_) Steps1.nil)))))))))))))))))
          · have q4 := hG.old 4 (by kernel_rfl) (by kernel_rfl)
            obtain ⟨z0, z1, z2, z3⟩ := HCB.out wx hS
            refine step_value (v := .agg #[.int .i64 xk, .string xe, .string xv, .int .u64 (xn.toNat : Int)]) (w' := wx) rfl rfl ?_ (Below.refl _ _) (fun d hd => by cases hd; exact rfl)
            go_simp
          · obtain ⟨_, q12, rfl⟩ := hG.new 12 (by kernel_rfl) (by kernel_rfl)
            refine step_call (w1 := wx) (f := 64) (args := #[.agg #[.int .i64 xk, .string xe, .string xv, .int .u64 (xn.toNat : Int)]]) rfl rfl ?_ ((HFC.out wx).mono ?_)
            · skip
              go_simp
            · rintro e w' ⟨rfl, hq⟩
              exact ⟨_, rfl, hq, fun d hd => by cases hd; exact rfl⟩
          · obtain ⟨_, q13, rfl⟩ := hG.new 13 (by kernel_rfl) (by kernel_rfl)
            refine step_value (v := .bool true) (w' := wx) rfl rfl ?_ (Below.refl _ _) (fun d hd => by cases hd; exact rfl)
            go_simp
          · obtain ⟨_, q14, rfl⟩ := hG.new 14 (by kernel_rfl) (by kernel_rfl)
            refine step_value (v := .bool true) (w' := wx) rfl rfl ?_ (Below.refl _ _) (fun d hd => by cases hd; exact rfl)
            go_simp
          · obtain ⟨_, q15, rfl⟩ := hG.new 15 (by kernel_rfl) (by kernel_rfl)
            refine step_past rfl (by simp [Region.wanted, yielded, q15]) (Below.refl _ _) (fun d hd => by cases hd; exact rfl)
          · obtain ⟨_, q15, rfl⟩ := hG.new 15 (by kernel_rfl) (by kernel_rfl)
            refine step_past rfl (by simp [Region.wanted, yielded, q15]) (Below.refl _ _) (fun d hd => by cases hd; exact rfl)
          · obtain ⟨_, q15, rfl⟩ := hG.new 15 (by kernel_rfl) (by kernel_rfl)
            refine step_past rfl (by simp [Region.wanted, yielded, q15]) (Below.refl _ _) (fun d hd => by cases hd; exact rfl)
          · obtain ⟨_, q18, rfl⟩ := hG.new 18 (by kernel_rfl) (by kernel_rfl)
            refine step_past rfl (by simp [Region.wanted, yielded, q18, undef]) (Below.refl _ _) (fun d hd => by cases hd; exact rfl)
          · obtain ⟨_, q18, rfl⟩ := hG.new 18 (by kernel_rfl) (by kernel_rfl)
            refine step_past rfl (by simp [Region.wanted, yielded, q18, undef]) (Below.refl _ _) (fun d hd => by cases hd; exact rfl)
          · obtain ⟨_, q18, rfl⟩ := hG.new 18 (by kernel_rfl) (by kernel_rfl)
            refine step_past rfl (by simp [Region.wanted, yielded, q18, undef]) (Below.refl _ _) (fun d hd => by cases hd; exact rfl)
          · obtain ⟨_, q18, rfl⟩ := hG.new 18 (by kernel_rfl) (by kernel_rfl)
            refine step_past rfl (by simp [Region.wanted, yielded, q18, undef]) (Below.refl _ _) (fun d hd => by cases hd; exact rfl)
          · obtain ⟨_, q18, rfl⟩ := hG.new 18 (by kernel_rfl) (by kernel_rfl)
            refine step_past rfl (by simp [Region.wanted, yielded, q18, undef]) (Below.refl _ _) (fun d hd => by cases hd; exact rfl)
          · obtain ⟨_, q18, rfl⟩ := hG.new 18 (by kernel_rfl) (by kernel_rfl)
            refine step_past rfl (by simp [Region.wanted, yielded, q18, undef]) (Below.refl _ _) (fun d hd => by cases hd; exact rfl)
          · obtain ⟨_, q18, rfl⟩ := hG.new 18 (by kernel_rfl) (by kernel_rfl)
            refine step_past rfl (by simp [Region.wanted, yielded, q18, undef]) (Below.refl _ _) (fun d hd => by cases hd; exact rfl)
          · obtain ⟨_, q18, rfl⟩ := hG.new 18 (by kernel_rfl) (by kernel_rfl)
            refine step_past rfl (by simp [Region.wanted, yielded, q18, undef]) (Below.refl _ _) (fun d hd => by cases hd; exact rfl)
          · obtain ⟨_, q18, rfl⟩ := hG.new 18 (by kernel_rfl) (by kernel_rfl)
            refine step_past rfl (by simp [Region.wanted, yielded, q18, undef]) (Below.refl _ _) (fun d hd => by cases hd; exact rfl)
          · obtain ⟨_, q15, rfl⟩ := hG.new 15 (by kernel_rfl) (by kernel_rfl)
            refine step_past rfl (by simp [Region.wanted, yielded, q15]) (Below.refl _ _) (fun d hd => by cases hd; exact rfl)
          · obtain ⟨_, q15, rfl⟩ := hG.new 15 (by kernel_rfl) (by kernel_rfl)
            obtain ⟨_, q28, rfl⟩ := hG.new 28 (by kernel_rfl) (by kernel_rfl)
            refine step_value (v := .bool true) (w' := wx) rfl rfl ?_ (Below.refl _ _) (fun d hd => by cases hd; exact rfl)
            go_simp
        intro fv w8 hS8 hV8
        have e29 : fv 29 = .bool true := hV8 29 (by decide)
        simp only [puts, Act.put, List.setIfInBounds_toArray, List.set_cons_succ, List.set_cons_zero]
        clear hV8
        rw [e29]
        go_wp2
        go_ret
        rw [HE.out]
        exact ⟨rfl, DONE.out w8 hS8⟩
      | true =>
        rw [hf] at hfc
        have HFC := Lib.hid hfc
        clear hfc
        by_cases h0 : k = 0
        · have HG2 := Lib.hid (show ∀ i (h : i < l.length), i < k + 1 → rightN l[i] = true ∧ (0 < i → l[i - 1].key < l[i].key) from fun i h h1 => by
            have : i = k := by omega
            subst this
            exact ⟨by rw [← HX.out]; exact hf, by omega⟩)
          have HK0 := Lib.hid (show decide (0 < k) = false from decide_eq_false (by omega))
          clear hf HG
          refine wp_region_inv [12, 13, 14, 15, 16, 17, 18, 19, 20, 21, 22, 23, 24, 25, 26, 27, 28, 29] (by kernel_rfl) (by kernel_rfl) (fun w' => Below w1.heap.size w1 w') (fun wa wb => Below wa.heap.size wa wb) (PRightZV xe xe g k k n (.agg #[.int .i64 xk, .string xe, .string xv, .int .u64 (xn.toNat : Int)]) (.slice (some ad) n c) (.bool true) (.bool true)) (by kernel_rfl) (fun wa wb h1 h2 => h2.trans (h1.mono h2.size)) (fun t v wa wb h1 h2 => h2.on h1) (Below.refl _ _).drew (steps_of ?_) ?_
          · skip
            refine Steps1.cons (fun ax wx hS hG => ?_) (Steps1.cons (fun ax wx hS hG => ?_) (Steps1.cons (fun ax wx hS hG => ?_) (Steps1.cons (fun ax wx hS hG => ?_) (Steps1.cons (fun ax wx hS hG => ?_) (Steps1.cons (fun ax wx hS hG => ?_) (Steps1.cons (fun ax wx hS hG => ?_) (Steps1.cons (fun ax wx hS hG => ?_) (Steps1.cons (fun ax wx hS hG => ?_) (Steps1.cons (fun ax wx hS hG => ?_) (Steps1.cons (fun ax wx hS hG => ?_) (Steps1.cons (fun ax wx hS hG => ?_) (Steps1.cons (fun ax wx hS hG => ?_) (Steps1.cons (fun ax wx hS hG => ?_) (Steps1.cons (fun ax wx hS hG => ?_) (Steps1.cons (fun ax wx hS hG => ?_) (Steps1.cons (fun ax wx hS hG => ?_) (Steps1.cons (fun ax wx hS hG => ?_) Steps1.nil)))))))))))))))))
            · have q4 := hG.old 4 (by kernel_rfl) (by kernel_rfl)
              obtain ⟨z0, z1, z2, z3⟩ := HCB.out wx hS
              refine step_value (v := .agg #[.int .i64 xk, .string xe, .string xv, .int .u64 (xn.toNat : Int)]) (w' := wx) rfl rfl ?_ (Below.refl _ _) (fun d hd => by cases hd; exact rfl)
              go_simp
            · obtain ⟨_, q12, rfl⟩ := hG.new 12 (by kernel_rfl) (by kernel_rfl)
              refine step_call (w1 := wx) (f := 64) (args := #[.agg #[.int .i64 xk, .string xe, .string xv, .int .u64 (xn.toNat : Int)]]) rfl rfl ?_ ((HFC.out wx).mono ?_)
              · skip
                go_simp
              · rintro e w' ⟨rfl, hq⟩
                exact ⟨_, rfl, hq, fun d hd => by cases hd; exact rfl⟩
            · obtain ⟨_, q13, rfl⟩ := hG.new 13 (by kernel_rfl) (by kernel_rfl)
              refine step_value (v := .bool false) (w' := wx) rfl rfl ?_ (Below.refl _ _) (fun d hd => by cases hd; exact rfl)
              go_simp
            · obtain ⟨_, q14, rfl⟩ := hG.new 14 (by kernel_rfl) (by kernel_rfl)
              refine step_value (v := .bool false) (w' := wx) rfl rfl ?_ (Below.refl _ _) (fun d hd => by cases hd; exact rfl)
              go_simp
            · have q3 := hG.old 3 (by kernel_rfl) (by kernel_rfl)
              obtain ⟨_, q15, rfl⟩ := hG.new 15 (by kernel_rfl) (by kernel_rfl)
              refine step_value (v := .int .i64 k) (w' := wx) rfl (by simp [Region.wanted, yielded, q15]) ?_ (Below.refl _ _) (fun d hd => by cases hd; exact rfl)
              go_simp
            · obtain ⟨_, q16, rfl⟩ := hG.new 16 (by kernel_rfl) (by kernel_rfl)
              obtain ⟨_, q15, rfl⟩ := hG.new 15 (by kernel_rfl) (by kernel_rfl)
              refine step_value (v := .bool false) (w' := wx) rfl (by simp [Region.wanted, yielded, q15]) ?_ (Below.refl _ _) (fun d hd => by cases hd; exact rfl)
              have hk0 := HK0.out
              (go_simp; first | done | exact hk0 | simp [hk0])
            · obtain ⟨_, q17, rfl⟩ := hG.new 17 (by kernel_rfl) (by kernel_rfl)
              obtain ⟨_, q15, rfl⟩ := hG.new 15 (by kernel_rfl) (by kernel_rfl)
              refine step_value (v := .bool false) (w' := wx) rfl (by simp [Region.wanted, yielded, q15]) ?_ (Below.refl _ _) (fun d hd => by cases hd; exact rfl)
              go_simp
            · obtain ⟨_, q18, rfl⟩ := hG.new 18 (by kernel_rfl) (by kernel_rfl)
              refine step_past rfl (by simp [Region.wanted, yielded, q18, undef]) (Below.refl _ _) (fun d hd => by cases hd; exact rfl)
            · obtain ⟨_, q18, rfl⟩ := hG.new 18 (by kernel_rfl) (by kernel_rfl)
              refine step_past rfl (by simp [Region.wanted, yielded, q18, undef]) (Below.refl _ _) (fun d hd => by cases hd; exact rfl)
            · obtain ⟨_, q18, rfl⟩ := hG.new 18 (by kernel_rfl) (by kernel_rfl)
              refine step_past rfl (by simp [Region.wanted, yielded, q18, undef]) (Below.refl _ _) (fun d hd => by cases hd; exact rfl)
            · obtain ⟨_, q18, rfl⟩ := hG.new 18 (by kernel_rfl) (by kernel_rfl)
              refine step_past rfl (by simp [Region.wanted, yielded, q18, undef]) (Below.refl _ _) (fun d hd => by cases hd; exact rfl)
            · obtain ⟨_, q18, rfl⟩ := hG.new 18 (by kernel_rfl) (by kernel_rfl)
              refine step_past rfl (by simp [Region.wanted, yielded, q18, undef]) (Below.refl _ _) (fun d hd => by cases hd; exact rfl)
            · obtain ⟨_, q18, rfl⟩ := hG.new 18 (by kernel_rfl) (by kernel_rfl)
              refine step_past rfl (by simp [Region.wanted, yielded, q18, undef]) (Below.refl _ _) (fun d hd => by cases hd; exact rfl)
            · obtain ⟨_, q18, rfl⟩ := hG.new 18 (by kernel_rfl) (by kernel_rfl)
              refine step_past rfl (by simp [Region.wanted, yielded, q18, undef]) (Below.refl _ _) (fun d hd => by cases hd; exact rfl)
            · obtain ⟨_, q18, rfl⟩ := hG.new 18 (by kernel_rfl) (by kernel_rfl)
              refine step_past rfl (by simp [Region.wanted, yielded, q18, undef]) (Below.refl _ _) (fun d hd => by cases hd; exact rfl)
            · obtain ⟨_, q18, rfl⟩ := hG.new 18 (by kernel_rfl) (by kernel_rfl)
              refine step_past rfl (by simp [Region.wanted, yielded, q18, undef]) (Below.refl _ _) (fun d hd => by cases hd; exact rfl)
            · obtain ⟨_, q18, rfl⟩ := hG.new 18 (by kernel_rfl) (by kernel_rfl)
              obtain ⟨_, q27, rfl⟩ := hG.new 27 (by kernel_rfl) (by kernel_rfl)
              obtain ⟨_, q15, rfl⟩ := hG.new 15 (by kernel_rfl) (by kernel_rfl)
              refine step_value (v := .bool false) (w' := wx) rfl (by simp [Region.wanted, yielded, q15]) ?_ (Below.refl _ _) (fun d hd => by cases hd; exact rfl)
              go_simp
            · obtain ⟨_, q15, rfl⟩ := hG.new 15 (by kernel_rfl) (by kernel_rfl)
              obtain ⟨_, q28, rfl⟩ := hG.new 28 (by kernel_rfl) (by kernel_rfl)
              refine step_value (v := .bool false) (w' := wx) rfl rfl ?_ (Below.refl _ _) (fun d hd => by cases hd; exact rfl)
              go_simp
          intro fv w8 hS8 hV8
          have e29 : fv 29 = .bool false := hV8 29 (by decide)
          simp only [puts, Act.put, List.setIfInBounds_toArray, List.set_cons_succ, List.set_cons_zero]
          clear hV8
          rw [e29]
          go_wp2
          go_roundw
          case rel => exact ⟨k + 1, by go_num, by omega, HG2.out, DONE.out w8 hS8⟩
          case measure => simp [intOf]; omega
        · have hk1 : k - 1 < l.length := by omega
          obtain ⟨kp, hkp⟩ : ∃ kp, kp = k - 1 := ⟨_, rfl⟩
          have hkpl : kp < l.length := by omega
          have wk : IntKind.i64.wrap ((k : Int) - 1) = (kp : Int) := by rw [IntKind.wrap_i64]; omega
          have hkn : kp < n := by omega
          have HKP := Lib.hid hkp
          clear hkp
          have HCP := Lib.hid (HC.out kp hkpl)
          obtain ⟨pk, hpk⟩ : ∃ pk, pk = (l[kp]'hkpl).key := ⟨_, rfl⟩
          rw [← hpk] at HCP
          have e1 : (l[k - 1]'hk1).key = pk := by rw [hpk]; congr 2; exact HKP.out.symm
          have HK0 := Lib.hid (show 0 < k by omega)
          have HWK := Lib.hid wk
          have HKN := Lib.hid hkn
          by_cases hkk : pk < xe
          · have hles : Op.bytesLess pk.toList xe.toList = true := lt_iff.1 hkk
            have HG2 := Lib.hid (show ∀ i (h : i < l.length), i < k + 1 → rightN l[i] = true ∧ (0 < i → l[i - 1].key < l[i].key) from fun i h h1 => by
              by_cases hi : i < k
              · exact HG.out i h hi
              · have : i = k := by omega
                subst this
                exact ⟨by rw [← HX.out]; exact hf, fun _ => by rw [e1, ← HX.out]; exact hkk⟩)
            have HLE := Lib.hid hles
            clear hf HG hpk e1 hkk hles wk hkn
            refine wp_region_inv [12, 13, 14, 15, 16, 17, 18, 19, 20, 21, 22, 23, 24, 25, 26, 27, 28, 29] (by kernel_rfl) (by kernel_rfl) (fun w' => Below w1.heap.size w1 w') (fun wa wb => Below wa.heap.size wa wb) (PRightGV xe pk g k kp n (.agg #[.int .i64 xk, .string xe, .string xv, .int .u64 (xn.toNat : Int)]) (.slice (some ad) n c) (.pointer (some (ad.add (kp * 4)))) (.pointer (some ⟨(ad.add (kp * 4)).block, (ad.add (kp * 4)).off + 1, none⟩))) (by kernel_rfl) (fun wa wb h1 h2 => h2.trans (h1.mono h2.size)) (fun t v wa wb h1 h2 => h2.on h1) (Below.refl _ _).drew (steps_of ?_) ?_
            · skip
              refine Steps1.cons (fun ax wx hS hG => ?_) (Steps1.cons (fun ax wx hS hG => ?_) (Steps1.cons (fun ax wx hS hG => ?_) (Steps1.cons (fun ax wx hS hG => ?_) (Steps1.cons (fun ax wx hS hG => ?_) (Steps1.cons (fun ax wx hS hG => ?_) (Steps1.cons (fun ax wx hS hG => ?_) (Steps1.cons (fun ax wx hS hG => ?_) (Steps1.cons (fun ax wx hS hG => ?_) (Steps1.cons (fun ax wx hS hG => ?_) (Steps1.cons (fun ax wx hS hG => ?_) (Steps1.cons (fun ax wx hS hG => ?_) (Steps1.cons (fun ax wx hS hG => ?_) (Steps1.cons (fun ax wx hS hG => ?_) (Steps1.cons (fun ax wx hS hG => ?_) (Steps1.cons (fun ax wx hS hG => ?_) (Steps1.cons (fun ax wx hS hG => ?_) (Steps1.cons (fun ax wx hS hG => ?_) Steps1.nil)))))))))))))))))
              · have q4 := hG.old 4 (by kernel_rfl) (by kernel_rfl)
                obtain ⟨z0, z1, z2, z3⟩ := HCB.out wx hS
                refine step_value (v := .agg #[.int .i64 xk, .string xe, .string xv, .int .u64 (xn.toNat : Int)]) (w' := wx) rfl rfl ?_ (Below.refl _ _) (fun d hd => by cases hd; exact rfl)
                go_simp
              · obtain ⟨_, q12, rfl⟩ := hG.new 12 (by kernel_rfl) (by kernel_rfl)
                refine step_call (w1 := wx) (f := 64) (args := #[.agg #[.int .i64 xk, .string xe, .string xv, .int .u64 (xn.toNat : Int)]]) rfl rfl ?_ ((HFC.out wx).mono ?_)
                · skip
                  go_simp
                · rintro e w' ⟨rfl, hq⟩
                  exact ⟨_, rfl, hq, fun d hd => by cases hd; exact rfl⟩
              · obtain ⟨_, q13, rfl⟩ := hG.new 13 (by kernel_rfl) (by kernel_rfl)
                refine step_value (v := .bool false) (w' := wx) rfl rfl ?_ (Below.refl _ _) (fun d hd => by cases hd; exact rfl)
                go_simp
              · obtain ⟨_, q14, rfl⟩ := hG.new 14 (by kernel_rfl) (by kernel_rfl)
                refine step_value (v := .bool false) (w' := wx) rfl rfl ?_ (Below.refl _ _) (fun d hd => by cases hd; exact rfl)
                go_simp
              · have q3 := hG.old 3 (by kernel_rfl) (by kernel_rfl)
                obtain ⟨_, q15, rfl⟩ := hG.new 15 (by kernel_rfl) (by kernel_rfl)
                refine step_value (v := .int .i64 k) (w' := wx) rfl (by simp [Region.wanted, yielded, q15]) ?_ (Below.refl _ _) (fun d hd => by cases hd; exact rfl)
                go_simp
              · obtain ⟨_, q16, rfl⟩ := hG.new 16 (by kernel_rfl) (by kernel_rfl)
                obtain ⟨_, q15, rfl⟩ := hG.new 15 (by kernel_rfl) (by kernel_rfl)
                refine step_value (v := .bool true) (w' := wx) rfl (by simp [Region.wanted, yielded, q15]) ?_ (Below.refl _ _) (fun d hd => by cases hd; exact rfl)
                have hk0 := HK0.out
                (go_simp; first | done | exact hk0 | simp [hk0])
              · obtain ⟨_, q17, rfl⟩ := hG.new 17 (by kernel_rfl) (by kernel_rfl)
                obtain ⟨_, q15, rfl⟩ := hG.new 15 (by kernel_rfl) (by kernel_rfl)
                refine step_value (v := .bool true) (w' := wx) rfl (by simp [Region.wanted, yielded, q15]) ?_ (Below.refl _ _) (fun d hd => by cases hd; exact rfl)
                go_simp
              · have q0 := hG.old 0 (by kernel_rfl) (by kernel_rfl)
                obtain ⟨_, q18, rfl⟩ := hG.new 18 (by kernel_rfl) (by kernel_rfl)
                refine step_value (v := .slice (some ad) n c) (w' := wx) rfl (by simp [Region.wanted, yielded, q18]) ?_ (Below.refl _ _) (fun d hd => by cases hd; exact rfl)
                go_simp
              · have q3 := hG.old 3 (by kernel_rfl) (by kernel_rfl)
                obtain ⟨_, q18, rfl⟩ := hG.new 18 (by kernel_rfl) (by kernel_rfl)
                refine step_value (v := .int .i64 k) (w' := wx) rfl (by simp [Region.wanted, yielded, q18]) ?_ (Below.refl _ _) (fun d hd => by cases hd; exact rfl)
                go_simp
              · obtain ⟨_, q20, rfl⟩ := hG.new 20 (by kernel_rfl) (by kernel_rfl)
                obtain ⟨_, q18, rfl⟩ := hG.new 18 (by kernel_rfl) (by kernel_rfl)
                refine step_value (v := .int .i64 kp) (w' := wx) rfl (by simp [Region.wanted, yielded, q18]) ?_ (Below.refl _ _) (fun d hd => by cases hd; exact rfl)
                have hwk := HWK.out
                go_simp
              · obtain ⟨_, q19, rfl⟩ := hG.new 19 (by kernel_rfl) (by kernel_rfl)
                obtain ⟨_, q21, rfl⟩ := hG.new 21 (by kernel_rfl) (by kernel_rfl)
                obtain ⟨_, q18, rfl⟩ := hG.new 18 (by kernel_rfl) (by kernel_rfl)
                refine step_value (v := .pointer (some (ad.add (kp * 4)))) (w' := wx) rfl (by simp [Region.wanted, yielded, q18]) ?_ (Below.refl _ _) (fun d hd => by cases hd; exact rfl)
                have hkn := HKN.out
                go_simp
              · obtain ⟨_, q22, rfl⟩ := hG.new 22 (by kernel_rfl) (by kernel_rfl)
                obtain ⟨_, q18, rfl⟩ := hG.new 18 (by kernel_rfl) (by kernel_rfl)
                refine step_value (v := .pointer (some ⟨(ad.add (kp * 4)).block, (ad.add (kp * 4)).off + 1, none⟩)) (w' := wx) rfl (by simp [Region.wanted, yielded, q18]) ?_ (Below.refl _ _) (fun d hd => by cases hd; exact rfl)
                go_simp
              · obtain ⟨_, q23, rfl⟩ := hG.new 23 (by kernel_rfl) (by kernel_rfl)
                obtain ⟨_, q18, rfl⟩ := hG.new 18 (by kernel_rfl) (by kernel_rfl)
                obtain ⟨z0, z1⟩ := HCP.out wx hS
                refine step_value (v := .string pk) (w' := wx) rfl (by simp [Region.wanted, yielded, q18]) ?_ (Below.refl _ _) (fun d hd => by cases hd; exact rfl)
                go_simp
              · have q4 := hG.old 4 (by kernel_rfl) (by kernel_rfl)
                obtain ⟨_, q18, rfl⟩ := hG.new 18 (by kernel_rfl) (by kernel_rfl)
                refine step_value (v := .pointer (some ⟨g, 1, none⟩)) (w' := wx) rfl (by simp [Region.wanted, yielded, q18]) ?_ (Below.refl _ _) (fun d hd => by cases hd; exact rfl)
                go_simp
              · obtain ⟨_, q25, rfl⟩ := hG.new 25 (by kernel_rfl) (by kernel_rfl)
                obtain ⟨_, q18, rfl⟩ := hG.new 18 (by kernel_rfl) (by kernel_rfl)
                obtain ⟨z0, z1, z2, z3⟩ := HCB.out wx hS
                refine step_value (v := .string xe) (w' := wx) rfl (by simp [Region.wanted, yielded, q18]) ?_ (Below.refl _ _) (fun d hd => by cases hd; exact rfl)
                go_simp
              · obtain ⟨_, q24, rfl⟩ := hG.new 24 (by kernel_rfl) (by kernel_rfl)
                obtain ⟨_, q26, rfl⟩ := hG.new 26 (by kernel_rfl) (by kernel_rfl)
                obtain ⟨_, q18, rfl⟩ := hG.new 18 (by kernel_rfl) (by kernel_rfl)
                refine step_value (v := .bool false) (w' := wx) rfl (by simp [Region.wanted, yielded, q18]) ?_ (Below.refl _ _) (fun d hd => by cases hd; exact rfl)
                have hss := HLE.out
                go_simp
              · obtain ⟨_, q18, rfl⟩ := hG.new 18 (by kernel_rfl) (by kernel_rfl)
                obtain ⟨_, q27, rfl⟩ := hG.new 27 (by kernel_rfl) (by kernel_rfl)
                obtain ⟨_, q15, rfl⟩ := hG.new 15 (by kernel_rfl) (by kernel_rfl)
                refine step_value (v := .bool false) (w' := wx) rfl (by simp [Region.wanted, yielded, q15]) ?_ (Below.refl _ _) (fun d hd => by cases hd; exact rfl)
                go_simp
              · obtain ⟨_, q15, rfl⟩ := hG.new 15 (by kernel_rfl) (by kernel_rfl)
                obtain ⟨_, q28, rfl⟩ := hG.new 28 (by kernel_rfl) (by kernel_rfl)
                refine step_value (v := .bool false) (w' := wx) rfl rfl ?_ (Below.refl _ _) (fun d hd => by cases hd; exact rfl)
                go_simp
            intro fv w8 hS8 hV8
            have e29 : fv 29 = .bool false := hV8 29 (by decide)
            simp only [puts, Act.put, List.setIfInBounds_toArray, List.set_cons_succ, List.set_cons_zero]
            clear hV8
            rw [e29]
            go_wp2
            go_roundw
            case rel => exact ⟨k + 1, by go_num, by omega, HG2.out, DONE.out w8 hS8⟩
            case measure => simp [intOf]; omega
          · have hles : Op.bytesLess pk.toList xe.toList = false := by
              have h1 : ltS pk xe = false := by rw [ltS_eq]; exact decide_eq_false hkk
              exact h1
            have HE := Lib.hid (HNo.out k hkl (fun h => hkk (by have := h.2 (by omega); rw [e1, ← HX.out] at this; exact this)))
            have HLE := Lib.hid hles
            clear hf HG hpk e1 hkk hles wk hkn
            refine wp_region_inv [12, 13, 14, 15, 16, 17, 18, 19, 20, 21, 22, 23, 24, 25, 26, 27, 28, 29] (by kernel_rfl) (by kernel_rfl) (fun w' => Below w1.heap.size w1 w') (fun wa wb => Below wa.heap.size wa wb) (PRightBV xe pk g k kp n (.agg #[.int .i64 xk, .string xe, .string xv, .int .u64 (xn.toNat : Int)]) (.slice (some ad) n c) (.pointer (some (ad.add (kp * 4)))) (.pointer (some ⟨(ad.add (kp * 4)).block, (ad.add (kp * 4)).off + 1, none⟩))) (by kernel_rfl) (fun wa wb h1 h2 => h2.trans (h1.mono h2.size)) (fun t v wa wb h1 h2 => h2.on h1) (Below.refl _ _).drew (steps_of ?_) ?_
            · skip
              refine Steps1.cons (fun ax wx hS hG => ?_) (Steps1.cons (fun ax wx hS hG => ?_) (Steps1.cons (fun ax wx hS hG => ?_) (Steps1.cons (fun ax wx hS hG => ?_) (Steps1.cons (fun ax wx hS hG => ?_) (Steps1.cons (fun ax wx hS hG => ?_) (Steps1.cons (fun ax wx hS hG => ?_) (Steps1.cons (fun ax wx hS hG => ?_) (Steps1.cons (fun ax wx hS hG => ?_) (Steps1.cons (fun ax wx hS hG => ?_) (Steps1.cons (fun ax wx hS hG => ?_) (Steps1.cons (fun ax wx hS hG => ?_) (Steps1.cons (fun ax wx hS hG => ?_) (Steps1.cons (fun ax wx hS hG => ?_) (Steps1.cons (fun ax wx hS hG => ?_) (Steps1.cons (fun ax wx hS hG => ?_) (Steps1.cons (fun ax wx hS hG => ?_) (Steps1.cons (fun ax wx hS hG => ?_) Steps1.nil)))))))))))))))))
              · have q4 := hG.old 4 (by kernel_rfl) (by kernel_rfl)
                obtain ⟨z0, z1, z2, z3⟩ := HCB.out wx hS
                refine step_value (v := .agg #[.int .i64 xk, .string xe, .string xv, .int .u64 (xn.toNat : Int)]) (w' := wx) rfl rfl ?_ (Below.refl _ _) (fun d hd => by cases hd; exact rfl)
                go_simp
              · obtain ⟨_, q12, rfl⟩ := hG.new 12 (by kernel_rfl) (by kernel_rfl)
                refine step_call (w1 := wx) (f := 64) (args := #[.agg #[.int .i64 xk, .string xe, .string xv, .int .u64 (xn.toNat : Int)]]) rfl rfl ?_ ((HFC.out wx).mono ?_)
                · skip
                  go_simp
                · rintro e w' ⟨rfl, hq⟩
                  exact ⟨_, rfl, hq, fun d hd => by cases hd; exact rfl⟩
              · obtain ⟨_, q13, rfl⟩ := hG.new 13 (by kernel_rfl) (by kernel_rfl)
                refine step_value (v := .bool false) (w' := wx) rfl rfl ?_ (Below.refl _ _) (fun d hd => by cases hd; exact rfl)
                go_simp
              · obtain ⟨_, q14, rfl⟩ := hG.new 14 (by kernel_rfl) (by kernel_rfl)
                refine step_value (v := .bool false) (w' := wx) rfl rfl ?_ (Below.refl _ _) (fun d hd => by cases hd; exact rfl)
                go_simp
              · have q3 := hG.old 3 (by kernel_rfl) (by kernel_rfl)
                obtain ⟨_, q15, rfl⟩ := hG.new 15 (by kernel_rfl) (by kernel_rfl)
                refine step_value (v := .int .i64 k) (w' := wx) rfl (by simp [Region.wanted, yielded, q15]) ?_ (Below.refl _ _) (fun d hd => by cases hd; exact rfl)
                go_simp
              · obtain ⟨_, q16, rfl⟩ := hG.new 16 (by kernel_rfl) (by kernel_rfl)
                obtain ⟨_, q15, rfl⟩ := hG.new 15 (by kernel_rfl) (by kernel_rfl)
                refine step_value (v := .bool true) (w' := wx) rfl (by simp [Region.wanted, yielded, q15]) ?_ (Below.refl _ _) (fun d hd => by cases hd; exact rfl)
                have hk0 := HK0.out
                (go_simp; first | done | exact hk0 | simp [hk0])
              · obtain ⟨_, q17, rfl⟩ := hG.new 17 (by kernel_rfl) (by kernel_rfl)
                obtain ⟨_, q15, rfl⟩ := hG.new 15 (by kernel_rfl) (by kernel_rfl)
                refine step_value (v := .bool true) (w' := wx) rfl (by simp [Region.wanted, yielded, q15]) ?_ (Below.refl _ _) (fun d hd => by cases hd; exact rfl)
                go_simp
              · have q0 := hG.old 0 (by kernel_rfl) (by kernel_rfl)
                obtain ⟨_, q18, rfl⟩ := hG.new 18 (by kernel_rfl) (by kernel_rfl)
                refine step_value (v := .slice (some ad) n c) (w' := wx) rfl (by simp [Region.wanted, yielded, q18]) ?_ (Below.refl _ _) (fun d hd => by cases hd; exact rfl)
                go_simp
              · have q3 := hG.old 3 (by kernel_rfl) (by kernel_rfl)
                obtain ⟨_, q18, rfl⟩ := hG.new 18 (by kernel_rfl) (by kernel_rfl)
                refine step_value (v := .int .i64 k) (w' := wx) rfl (by simp [Region.wanted, yielded, q18]) ?_ (Below.refl _ _) (fun d hd => by cases hd; exact rfl)
                go_simp
              · obtain ⟨_, q20, rfl⟩ := hG.new 20 (by kernel_rfl) (by kernel_rfl)
                obtain ⟨_, q18, rfl⟩ := hG.new 18 (by kernel_rfl) (by kernel_rfl)
                refine step_value (v := .int .i64 kp) (w' := wx) rfl (by simp [Region.wanted, yielded, q18]) ?_ (Below.refl _ _) (fun d hd => by cases hd; exact rfl)
                have hwk := HWK.out
                go_simp
              · obtain ⟨_, q19, rfl⟩ := hG.new 19 (by kernel_rfl) (by kernel_rfl)
                obtain ⟨_, q21, rfl⟩ := hG.new 21 (by kernel_rfl) (by kernel_rfl)
                obtain ⟨_, q18, rfl⟩ := hG.new 18 (by kernel_rfl) (by kernel_rfl)
                refine step_value (v := .pointer (some (ad.add (kp * 4)))) (w' := wx) rfl (by simp [Region.wanted, yielded, q18]) ?_ (Below.refl _ _) (fun d hd => by cases hd; exact rfl)
                have hkn := HKN.out
                go_simp
              · obtain ⟨_, q22, rfl⟩ := hG.new 22 (by kernel_rfl) (by kernel_rfl)
                obtain ⟨_, q18, rfl⟩ := hG.new 18 (by kernel_rfl) (by kernel_rfl)
                refine step_value (v := .pointer (some ⟨(ad.add (kp * 4)).block, (ad.add (kp * 4)).off + 1, none⟩)) (w' := wx) rfl (by simp [Region.wanted, yielded, q18]) ?_ (Below.refl _ _) (fun d hd => by cases hd; exact rfl)
                go_simp
              · obtain ⟨_, q23, rfl⟩ := hG.new 23 (by kernel_rfl) (by kernel_rfl)
                obtain ⟨_, q18, rfl⟩ := hG.new 18 (by kernel_rfl) (by kernel_rfl)
                obtain ⟨z0, z1⟩ := HCP.out wx hS
                refine step_value (v := .string pk) (w' := wx) rfl (by simp [Region.wanted, yielded, q18]) ?_ (Below.refl _ _) (fun d hd => by cases hd; exact rfl)
                go_simp
              · have q4 := hG.old 4 (by kernel_rfl) (by kernel_rfl)
                obtain ⟨_, q18, rfl⟩ := hG.new 18 (by kernel_rfl) (by kernel_rfl)
                refine step_value (v := .pointer (some ⟨g, 1, none⟩)) (w' := wx) rfl (by simp [Region.wanted, yielded, q18]) ?_ (Below.refl _ _) (fun d hd => by cases hd; exact rfl)
                go_simp
              · obtain ⟨_, q25, rfl⟩ := hG.new 25 (by kernel_rfl) (by kernel_rfl)
                obtain ⟨_, q18, rfl⟩ := hG.new 18 (by kernel_rfl) (by kernel_rfl)
                obtain ⟨z0, z1, z2, z3⟩ := HCB.out wx hS
                refine step_value (v := .string xe) (w' := wx) rfl (by simp [Region.wanted, yielded, q18]) ?_ (Below.refl _ _) (fun d hd => by cases hd; exact rfl)
                go_simp
              · obtain ⟨_, q24, rfl⟩ := hG.new 24 (by kernel_rfl) (by kernel_rfl)
                obtain ⟨_, q26, rfl⟩ := hG.new 26 (by kernel_rfl) (by kernel_rfl)
                obtain ⟨_, q18, rfl⟩ := hG.new 18 (by kernel_rfl) (by kernel_rfl)
                refine step_value (v := .bool true) (w' := wx) rfl (by simp [Region.wanted, yielded, q18]) ?_ (Below.refl _ _) (fun d hd => by cases hd; exact rfl)
                have hss := HLE.out
                go_simp
              · obtain ⟨_, q18, rfl⟩ := hG.new 18 (by kernel_rfl) (by kernel_rfl)
                obtain ⟨_, q27, rfl⟩ := hG.new 27 (by kernel_rfl) (by kernel_rfl)
                obtain ⟨_, q15, rfl⟩ := hG.new 15 (by kernel_rfl) (by kernel_rfl)
                refine step_value (v := .bool true) (w' := wx) rfl (by simp [Region.wanted, yielded, q15]) ?_ (Below.refl _ _) (fun d hd => by cases hd; exact rfl)
                go_simp
              · obtain ⟨_, q15, rfl⟩ := hG.new 15 (by kernel_rfl) (by kernel_rfl)
                obtain ⟨_, q28, rfl⟩ := hG.new 28 (by kernel_rfl) (by kernel_rfl)
                refine step_value (v := .bool true) (w' := wx) rfl rfl ?_ (Below.refl _ _) (fun d hd => by cases hd; exact rfl)
                go_simp
            intro fv w8 hS8 hV8
            have e29 : fv 29 = .bool true := hV8 29 (by decide)
            simp only [puts, Act.put, List.setIfInBounds_toArray, List.set_cons_succ, List.set_cons_zero]
            clear hV8
            rw [e29]
            go_wp2
            go_ret
            rw [HE.out]
            exact ⟨rfl, DONE.out w8 hS8⟩
    · have HE := Lib.hid (HY.out fun i h => HG.out i h (by rw [HL.out] at h; omega))
      go_wp2
      go_ret
      rw [HE.out]
      exact ⟨rfl, hbr⟩

theorem pright_v {v : Value} {l : List Nt} {w : World} (h : NV w v l) (hn : l.length ≤ maxLen) :
    Calls Try.prog 34 #[v] w fun e w' => e = .returned (.bool (wellN l)) ∧ Below w.heap.size w w' := by
  obtain ⟨A, c, rfl, h1, _, _⟩ := h
  exact pright_any A c l w h1 hn

end Go.Proofs.Yteddjmkoleclpaa

namespace Go.Proofs.Yteddjmkoleclpaa
open Go.RowKit Go.Sort Go.Lib

set_option maxHeartbeats 1000000 in
theorem closureP (xk : Int) (xe xv : ByteArray) (xn : UInt64) (key : ByteArray) (w : World) : Calls Try.prog 96 #[.agg #[.int .i64 xk, .string xe, .string xv, .int .u64 (xn.toNat : Int)], .string key] w fun e w' => e = .returned (.int .i64 (cmpS xe key)) ∧ Below w.heap.size w w' := by
  have hcon := fun W' => Try.strings_Compare xe key W'
  change ∀ W', Calls Try.prog 40 _ _ (fun e w' => e = .returned (.int .i64 (cmpS xe key)) ∧ w' = W') at hcon
  generalize cmpS xe key = r at hcon ⊢
  go_enter Try.func96, Try.ntmps96
  go_wp2_with (go_at_call 40; refine (hcon _).mono ?_; rintro e w' ⟨rfl, rfl⟩)
  go_ret
  exact ⟨rfl, (Below.refl _ _).alloc (Nat.le_refl _) _⟩

/-- Is it there? -/
def hasN (l : List Nt) (k : ByteArray) : Bool := (getN l k).isSome

set_option maxHeartbeats 2000000 in
set_option maxRecDepth 100000 in
theorem searchN_any (A : Option Addr) (c : Nat) (l : List Nt) (key : ByteArray) (w : World) (hA : Nts w w.heap.size A l) (hn : l.length ≤ 1000000) (hs : SortedN l) :
    Calls Try.prog 95 #[.slice A l.length c, .string key, .func (.func 96) #[] #[]] w fun e w' => e = .returned (.tuple #[.int .i64 (underN l key), .bool (hasN l key)]) ∧ Below w.heap.size w w' := by
  obtain ⟨Z, hZ⟩ : ∃ Z, Z = underN l key := ⟨_, rfl⟩
  obtain ⟨T, hT⟩ : ∃ T, T = hasN l key := ⟨_, rfl⟩
  have HB := Lib.hid (show ∀ i (h : i < l.length), l[i].key < key ↔ i < Z from fun i h => by
    rw [hZ]
    have h1 := under_placeN hs i h
    constructor
    · intro h2
      rcases Nat.lt_or_ge i (underN l key) with h3 | h3
      · exact h3
      · exfalso
        have h4 := drop_underN hs key
        have h5 : l[i] ∈ l.drop (underN l key) := by
          rw [List.mem_iff_getElem]
          exact ⟨i - underN l key, by simp; omega, by rw [List.getElem_drop]; congr 1; omega⟩
        rw [h4] at h5
        have h6 := (List.mem_filter.1 h5).2
        simp only [decide_eq_true_eq] at h6
        grind
    · intro h2
      have h4 := take_underN hs key
      have h5 : l[i] ∈ l.take (underN l key) := by
        rw [List.mem_iff_getElem]
        exact ⟨i, by simp; omega, by rw [List.getElem_take]⟩
      rw [h4] at h5
      have h6 := (List.mem_filter.1 h5).2
      simpa using h6)
  have HT := Lib.hid (show T = true ↔ ∃ h : Z < l.length, l[Z].key = key from by rw [hT, hZ]; exact under_atN hs key)
  have hZn : Z ≤ l.length := by rw [hZ]; exact underN_le l key
  rw [← hZ, ← hT]
  clear hZ hT hs
  obtain ⟨n, hl⟩ : ∃ n, l.length = n := ⟨_, rfl⟩
  rw [hl] at hn hZn ⊢
  have HL := Lib.hid hl
  have HA := Lib.hid hA
  have HZN := Lib.hid hZn
  clear hl hA hZn
  go_enter Try.func95, Try.ntmps95
  go_wp2
  go_loopw [9, 10] (fun iv jv wr => ∃ (i j : Nat), iv = .int .i64 i ∧ jv = .int .i64 j ∧ i ≤ j ∧ j ≤ n ∧ Hid (i ≤ Z ∧ Z ≤ j) ∧ Below w.heap.size w wr) (fun iv jv _ => (intOf jv - intOf iv).toNat)
  case atStart => exact ⟨0, n, rfl, rfl, by omega, by omega, ⟨Nat.zero_le _, HZN.out⟩, Below.refl _ _⟩
  case round =>
    obtain ⟨i, j, rfl, rfl, hij, hjn, HI, hbr⟩ := hrel
    by_cases hlt : i < j
    · obtain ⟨ad, rfl, hab, hca⟩ := (HA.out.below hbr).seeN (by rw [HL.out]; omega)
      obtain ⟨h', hh'⟩ : ∃ h', h' = (i + j) / 2 := ⟨_, rfl⟩
      have wh : ((i : Int) + (j : Int)) / 2 = (h' : Int) := by omega
      have hx1 : h' < l.length := by rw [HL.out]; omega
      obtain ⟨c1, c2, c3, c4⟩ := hca h' hx1
      have HBH := Lib.hid (HB.out h' hx1)
      obtain ⟨x, hx⟩ : ∃ x, x = l[h']'hx1 := ⟨_, rfl⟩
      rw [← hx] at c1 c2 c3 c4 HBH
      have hhn : h' < n := by omega
      have HH := Lib.hid (show i ≤ h' ∧ h' < j by omega)
      clear hx hca hh' hx1
      obtain ⟨xk, xe, xv, xn⟩ := x
      simp only at c1 c2 c3 c4 HBH
      have hbs := hbr.size
      obtain ⟨r, hr⟩ : ∃ r, r = cmpS xe key := ⟨_, rfl⟩
      by_cases hlk : xe < key
      · have hrl : r < 0 := by rw [hr]; exact (cmpS_lt _ _).2 hlk
        have HZH := Lib.hid (show h' < Z from HBH.out.1 hlk)
        have hc := fun w => closureP xk xe xv xn key w
        rw [← hr] at hc
        clear hr
        go_wp2_with fail
        refine (hc _).mono ?_
        rintro e w1 ⟨rfl, hb1⟩
        have hbr1 := hbr.trans (hb1.mono hbs)
        clear hb1 c1 c2 c3 c4 hc
        go_wp2
        go_roundw
        case rel => exact ⟨h' + 1, j, by go_num, rfl, by have := HH.out; omega, hjn, ⟨HZH.out, HI.out.2⟩, hbr1⟩
        case measure => have := HH.out; simp [intOf]; omega
      · have hrl : ¬ r < 0 := by rw [hr]; exact fun h => hlk ((cmpS_lt _ _).1 h)
        have HZH := Lib.hid (show Z ≤ h' from Nat.not_lt.1 fun h => hlk (HBH.out.2 h))
        have hc := fun w => closureP xk xe xv xn key w
        rw [← hr] at hc
        clear hr
        go_wp2_with fail
        refine (hc _).mono ?_
        rintro e w1 ⟨rfl, hb1⟩
        have hbr1 := hbr.trans (hb1.mono hbs)
        clear hb1 c1 c2 c3 c4 hc
        go_wp2
        go_roundw
        case rel => exact ⟨i, h', rfl, by go_num, HH.out.1, by omega, ⟨HI.out.1, HZH.out⟩, hbr1⟩
        case measure => have := HH.out; simp [intOf]; omega
    · have hiz : i = Z := by have := HI.out; omega
      have HIZ := Lib.hid hiz
      clear hiz
      by_cases hin : i < n
      · obtain ⟨ad, rfl, hab, hca⟩ := (HA.out.below hbr).seeN (by rw [HL.out]; omega)
        have hx1 : i < l.length := by rw [HL.out]; omega
        obtain ⟨c1, c2, c3, c4⟩ := hca i hx1
        obtain ⟨x, hx⟩ : ∃ x, x = l[i]'hx1 := ⟨_, rfl⟩
        rw [← hx] at c1 c2 c3 c4
        have HTI := Lib.hid (show T = true ↔ x.key = key from by
          rw [HT.out, hx]
          have e := HIZ.out
          subst e
          exact ⟨fun h => h.2, fun h => ⟨hx1, h⟩⟩)
        clear hx hca hx1
        obtain ⟨xk, xe, xv, xn⟩ := x
        simp only at c1 c2 c3 c4 HTI
        have hbs := hbr.size
        obtain ⟨r, hr⟩ : ∃ r, r = cmpS xe key := ⟨_, rfl⟩
        have HTR := Lib.hid (show (r == 0) = T from by
          rw [Bool.eq_iff_iff, beq_iff_eq, HTI.out, hr]
          exact cmpS_zero xe key)
        have hc := fun w => closureP xk xe xv xn key w
        rw [← hr] at hc
        clear hr
        go_wp2_with fail
        refine (hc _).mono ?_
        rintro e w1 ⟨rfl, hb1⟩
        have hbr1 := hbr.trans (hb1.mono hbs)
        clear hb1 c1 c2 c3 c4 hc
        go_wp2
        go_ret2
        exact ⟨by rw [HTR.out, HIZ.out]; rfl, hbr1⟩
      · have HF := Lib.hid (show T = false from by
          cases e : T with
          | false => rfl
          | true =>
            obtain ⟨h1, _⟩ := HT.out.1 e
            exfalso
            have h2 := HIZ.out
            have h3 := HL.out
            omega)
        go_wp2
        go_ret2
        exact ⟨by rw [HF.out, HIZ.out]; rfl, hbr⟩

set_option maxHeartbeats 1000000 in
set_option maxRecDepth 100000 in
theorem findN_any (A : Option Addr) (c : Nat) (l : List Nt) (key : ByteArray) (w : World) (hA : Nts w w.heap.size A l) (hn : l.length ≤ 1000000) (hs : SortedN l) :
    Calls Try.prog 78 #[.slice A l.length c, .string key] w fun e w' => e = .returned (.tuple #[.int .i64 (underN l key), .bool (hasN l key)]) ∧ Below w.heap.size w w' := by
  have hc := searchN_any A c l key w hA hn hs
  clear hA hs
  generalize underN l key = Z at *
  generalize hasN l key = T at *
  generalize l.length = n at *
  go_enter Try.func78, Try.ntmps78
  go_wp2_with fail
  refine hc.mono ?_
  clear hc
  rintro e w1 ⟨rfl, hb1⟩
  go_wp2
  go_ret2
  exact ⟨rfl, hb1⟩

set_option maxHeartbeats 2000000 in
set_option maxRecDepth 100000 in
theorem pfind_any (A : Option Addr) (c : Nat) (l : List Nt) (key : ByteArray) (w : World) (hA : Nts w w.heap.size A l) (hn : l.length ≤ 1000000) :
    Calls Try.prog 54 #[.slice A l.length c, .string key] w fun e w' => e = .returned (.tuple #[(findA l key).1.v, .bool (findA l key).2]) ∧ Below w.heap.size w w' := by
  obtain ⟨g, hg⟩ : ∃ g, g = w.heap.size := ⟨_, rfl⟩
  obtain ⟨w1, hw1⟩ : ∃ w1, w1 = w.alloc (.cells #[.int .i64 0, .string noB, .string noB, .int .u64 0] 52) := ⟨_, rfl⟩
  have hb1 : Below w.heap.size w w1 := by rw [hw1]; exact (Below.refl _ _).alloc (Nat.le_refl _) _
  have HB1 := Lib.hid hb1
  have HG := Lib.hid hg
  have HBX := Lib.hid (show NBlk w1 g nt0 by rw [hw1]; exact Box.at_ w _ _ hg)
  have hr := pright_any A c l w1 (hA.on hb1) (by unfold maxLen; omega)
  have HA := Lib.hid (show Nts w1 w1.heap.size A l from hA.on hb1)
  -- what Find answers without a note
  cases hw : wellN l with
  | false =>
    have e1 : findA l key = (nt0, false) := by unfold findA; rw [hw]; rfl
    rw [e1]
    rw [hw] at hr
    clear hA e1 hw hb1
    generalize l.length = n at *
    go_enter Try.func54, Try.ntmps54
    go_upto_region 1 with fail
    rw [← hg, ← hw1]
    clear hg hw1
    go_wp2_with fail
    refine hr.mono ?_
    clear hr
    rintro e w2 ⟨rfl, hb2⟩
    have hbx := HBX.out.on hb2
    have HB2 := Lib.hid (HB1.out.trans (hb2.mono HB1.out.size))
    have HX2 := Lib.hid hbx
    have f0 := Box.free hbx 0
    have f1 := Box.free hbx 1
    have f2 := Box.free hbx 2
    have f3 := Box.free hbx 3
    obtain ⟨k0, k1, k2, k3⟩ := NBlk.cells hbx
    clear hb2 hbx HBX
    go_wp2
    obtain ⟨wx, hx⟩ : ∃ wx, wx = ((((w2.setCell ⟨g, 0, none⟩ (.int .i64 0)).setCell ⟨g, 1, none⟩ (.string noB)).setCell ⟨g, 2, none⟩ (.string noB)).setCell ⟨g, 3, none⟩ (.int .u64 0)) := ⟨_, rfl⟩
    have hq : NBlk wx g nt0 := by rw [hx]; exact NBlk.put HX2.out nt0
    have hw : Below w.heap.size w wx := by rw [hx]; exact below_put HB2.out (Nat.le_of_eq HG.out.symm) _ _ _ _
    rw [← hx]
    obtain ⟨p0, p1, p2, p3⟩ := NBlk.cells hq
    exact bodyPost_ret (v := .tuple #[nt0.v, .bool false]) (by simp [results, Try.results54, go_sem, Nt.v, p0, p1, p2, p3]) rfl ⟨rfl, hw⟩
  | true =>
    have hs := wellN_sorted hw
    have hf := fun wx hA => findN_any A c l key wx hA hn hs
    have e1 : findA l key = (match getN l key with | some x => (x, true) | none => (nt0, false)) := by unfold findA; rw [hw]; rfl
    rw [e1]
    rw [hw] at hr
    cases hgn : getN l key with
    | none =>
      have e2 : hasN l key = false := by unfold hasN; rw [hgn]; rfl
      rw [e2] at hf
      have HF := Lib.hid hf
      simp only
      generalize underN l key = Z at *
      clear hA e1 e2 hw hs hgn hf hb1
      obtain ⟨n, hl⟩ : ∃ n, l.length = n := ⟨_, rfl⟩
      rw [hl] at hr HF ⊢
      clear hl
      go_enter Try.func54, Try.ntmps54
      go_upto_region 1 with fail
      rw [← hg, ← hw1]
      clear hg hw1
      go_wp2_with fail
      refine hr.mono ?_
      clear hr
      rintro e w2 ⟨rfl, hb2⟩
      have hc := HF.out w2 (HA.out.on hb2)
      have HB2 := Lib.hid (HB1.out.trans (hb2.mono HB1.out.size))
      have HX2 := Lib.hid (HBX.out.on hb2)
      clear hb2
      go_wp2_with fail
      refine hc.mono ?_
      clear hc
      rintro e w3 ⟨rfl, hb3⟩
      have hbx := HX2.out.on hb3
      have HB3 := Lib.hid (HB2.out.trans (hb3.mono HB2.out.size))
      have HX3 := Lib.hid hbx
      have f0 := Box.free hbx 0
      have f1 := Box.free hbx 1
      have f2 := Box.free hbx 2
      have f3 := Box.free hbx 3
      obtain ⟨k0, k1, k2, k3⟩ := NBlk.cells hbx
      clear hb3 hbx HBX HX2 HB2
      go_wp2
      obtain ⟨wx, hx⟩ : ∃ wx, wx = ((((w3.setCell ⟨g, 0, none⟩ (.int .i64 0)).setCell ⟨g, 1, none⟩ (.string noB)).setCell ⟨g, 2, none⟩ (.string noB)).setCell ⟨g, 3, none⟩ (.int .u64 0)) := ⟨_, rfl⟩
      have hq : NBlk wx g nt0 := by rw [hx]; exact NBlk.put HX3.out nt0
      have hw : Below w.heap.size w wx := by rw [hx]; exact below_put HB3.out (Nat.le_of_eq HG.out.symm) _ _ _ _
      rw [← hx]
      obtain ⟨p0, p1, p2, p3⟩ := NBlk.cells hq
      exact bodyPost_ret (v := .tuple #[nt0.v, .bool false]) (by simp [results, Try.results54, go_sem, Nt.v, p0, p1, p2, p3]) rfl ⟨rfl, hw⟩
    | some x =>
      have e2 : hasN l key = true := by unfold hasN; rw [hgn]; rfl
      obtain ⟨hz, hz2, _⟩ := under_thereN hs key x hgn
      rw [e2] at hf
      have HF := Lib.hid hf
      obtain ⟨Z, hZ⟩ : ∃ Z, Z = underN l key := ⟨_, rfl⟩
      have HZ2 := Lib.hid (show ∃ h : Z < l.length, l[Z] = x from by subst hZ; exact ⟨hz, hz2⟩)
      rw [← hZ] at HF
      simp only
      clear hA e1 e2 hw hs hgn hf hz hz2 hZ hb1
      obtain ⟨n, hl⟩ : ∃ n, l.length = n := ⟨_, rfl⟩
      have hzn : Z < n := by rw [← hl]; exact HZ2.out.1
      rw [hl] at hr HF ⊢
      have HL := Lib.hid hl
      clear hl
      go_enter Try.func54, Try.ntmps54
      go_upto_region 1 with fail
      rw [← hg, ← hw1]
      clear hg hw1
      go_wp2_with fail
      refine hr.mono ?_
      clear hr
      rintro e w2 ⟨rfl, hb2⟩
      have hc := HF.out w2 (HA.out.on hb2)
      have HB2 := Lib.hid (HB1.out.trans (hb2.mono HB1.out.size))
      have HX2 := Lib.hid (HBX.out.on hb2)
      have HA2 := Lib.hid (HA.out.on hb2)
      clear hb2
      go_wp2_with fail
      refine hc.mono ?_
      clear hc
      rintro e w3 ⟨rfl, hb3⟩
      have hbx := HX2.out.on hb3
      have HB3 := Lib.hid (HB2.out.trans (hb3.mono HB2.out.size))
      have HX3 := Lib.hid hbx
      have f0 := Box.free hbx 0
      have f1 := Box.free hbx 1
      have f2 := Box.free hbx 2
      have f3 := Box.free hbx 3
      obtain ⟨k0, k1, k2, k3⟩ := NBlk.cells hbx
      obtain ⟨ad, rfl, hab, hca⟩ := (HA2.out.on hb3).seeN (by rw [HL.out]; omega)
      obtain ⟨c1, c2, c3, c4⟩ := hca Z HZ2.out.1
      rw [HZ2.out.2] at c1 c2 c3 c4
      obtain ⟨xk, xe, xv, xn⟩ := x
      simp only at c1 c2 c3 c4
      clear hb3 hbx HBX HX2 HB2 hca
      go_wp2
      obtain ⟨wx, hx⟩ : ∃ wx, wx = ((((w3.setCell ⟨g, 0, none⟩ (.int .i64 xk)).setCell ⟨g, 1, none⟩ (.string xe)).setCell ⟨g, 2, none⟩ (.string xv)).setCell ⟨g, 3, none⟩ (.int .u64 (xn.toNat : Int))) := ⟨_, rfl⟩
      have hq : NBlk wx g ⟨xk, xe, xv, xn⟩ := by rw [hx]; exact NBlk.put HX3.out ⟨xk, xe, xv, xn⟩
      have hw : Below w.heap.size w wx := by rw [hx]; exact below_put HB3.out (Nat.le_of_eq HG.out.symm) _ _ _ _
      rw [← hx]
      obtain ⟨p0, p1, p2, p3⟩ := NBlk.cells hq
      exact bodyPost_ret (v := .tuple #[(⟨xk, xe, xv, xn⟩ : Nt).v, .bool true]) (by simp [results, Try.results54, go_sem, Nt.v, p0, p1, p2, p3]) rfl ⟨rfl, hw⟩
theorem pfind_v {v : Value} {l : List Nt} {w : World} (h : NV w v l) (key : ByteArray) (hn : l.length ≤ 1000) :
    Calls Try.prog 54 #[v, .string key] w fun e w' => e = .returned (.tuple #[(findA l key).1.v, .bool (findA l key).2]) ∧ Below w.heap.size w w' := by
  obtain ⟨A, c, rfl, h1, _, _⟩ := h
  exact pfind_any A c l key w h1 (by omega)

end Go.Proofs.Yteddjmkoleclpaa
