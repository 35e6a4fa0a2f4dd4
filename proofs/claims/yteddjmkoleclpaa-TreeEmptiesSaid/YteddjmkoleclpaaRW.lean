/- The walk of the document's Right of what waits. -/
import Derived.Test.YteddjmkoleclpaaAS
import Derived.Test.YteddjmkoleclpaaRD
import Derived.Test.YteddjmkoleclpaaPP
import Derived.Test.YteddjmkoleclpaaRB
import Derived.Test.YteddjmkoleclpaaRL
import Derived.Test.YteddjmkoleclpaaWNote
set_option linter.unusedVariables false
set_option linter.unusedSimpArgs false
namespace Go.Proofs.Yteddjmkoleclpaa
open Go.RowKit

set_option maxHeartbeats 2000000 in
set_option maxRecDepth 100000 in
theorem dwell_any (A : Option Addr) (c : Nat) (l : List Nt) (w : World) (hA : Nts w w.heap.size A l) (hn : l.length ≤ maxLen) :
    Calls Try.prog 50 #[.slice A l.length c] w fun e w' => e = .returned (.bool (wellN l)) ∧ Below w.heap.size w w' := by
  have hal := dall_any A c l w hA hn
  unfold maxLen at hn
  obtain ⟨R, hR⟩ : ∃ R, R = wellN l := ⟨_, rfl⟩
  obtain ⟨R1, hR1⟩ : ∃ R1, R1 = l.all rightN := ⟨_, rfl⟩
  rw [← hR]
  rw [← hR1] at hal
  have HY := Lib.hid (show (∀ i (h : i < l.length), 0 < i → l[i - 1].key < l[i].key) → R = R1 from fun h => by
    rw [hR, hR1, Bool.eq_iff_iff, wellN_iff]
    exact ⟨fun h1 => h1.1, fun h1 => ⟨h1, h⟩⟩)
  have HNo := Lib.hid (show ∀ i (h : i < l.length), 0 < i → ¬ l[i - 1].key < l[i].key → R = false from fun i h h0 hn => by
    rw [hR]
    cases e : wellN l with
    | false => rfl
    | true => exact absurd (((wellN_iff l).1 e).2 i h h0) hn)
  clear hR hR1
  obtain ⟨n, hl⟩ : ∃ n, l.length = n := ⟨_, rfl⟩
  rw [hl] at hn hal ⊢
  have HL := Lib.hid hl
  have HA := Lib.hid hA
  clear hl hA
  go_enter Try.func50, Try.ntmps50
  go_wp2_with fail
  refine hal.mono ?_
  clear hal
  rintro e w1 ⟨rfl, hb1⟩
  have HB1 := Lib.hid hb1
  clear hb1
  go_wp2
  go_loopw [4] (fun i wr => ∃ (k : Nat), i = .int .i64 k ∧ 1 ≤ k ∧ Hid (∀ i (h : i < l.length), 0 < i → i < k → l[i - 1].key < l[i].key) ∧ Below w.heap.size w wr) (fun i _ => (n - intOf i).toNat)
  case atStart => exact ⟨1, rfl, by omega, fun i h h0 h1 => by omega, HB1.out⟩
  case round =>
    obtain ⟨k, rfl, hk, HG, hbr⟩ := hrel
    by_cases hlt : k < n
    · obtain ⟨ad, rfl, hab, hca⟩ := (HA.out.below hbr).seeN (by rw [HL.out]; omega)
      have hkl : k < l.length := by rw [HL.out]; exact hlt
      have c2 := (hca k hkl).2.1
      have hk1 : k - 1 < l.length := by omega
      obtain ⟨kp, hkp⟩ : ∃ kp, kp = k - 1 := ⟨_, rfl⟩
      have hkpl : kp < l.length := by omega
      have wk : IntKind.i64.wrap ((k : Int) - 1) = (kp : Int) := by rw [IntKind.wrap_i64]; omega
      have hkn : kp < n := by omega
      have d2 := (hca kp hkpl).2.1
      obtain ⟨xe, hxe⟩ : ∃ x, x = (l[k]'hkl).key := ⟨_, rfl⟩
      obtain ⟨pe, hpe⟩ : ∃ x, x = (l[kp]'hkpl).key := ⟨_, rfl⟩
      rw [← hxe] at c2
      rw [← hpe] at d2
      have HX := Lib.hid hxe
      have HP := Lib.hid (show (l[k - 1]'hk1).key = pe from by rw [hpe]; congr 2; exact hkp.symm)
      clear hxe hpe hca hkp
      by_cases hkk : pe < xe
      · have hles : Op.bytesLess pe.toList xe.toList = true := lt_iff.1 hkk
        have HG2 := Lib.hid (show ∀ i (h : i < l.length), 0 < i → i < k + 1 → l[i - 1].key < l[i].key from fun i h h0 h1 => by
          by_cases hi : i < k
          · exact HG.out i h h0 hi
          · have : i = k := by omega
            subst this
            rw [HP.out, ← HX.out]; exact hkk)
        clear HG hkk
        go_wp2
        go_quiet (fail)
        go_wp2
        go_roundw
        case rel => exact ⟨k + 1, by go_num, by omega, HG2.out, below_drewN hbr _⟩
        case measure => simp [intOf]; omega
      · have hles : Op.bytesLess pe.toList xe.toList = false := by
          have h1 : ltS pe xe = false := by rw [ltS_eq]; exact decide_eq_false hkk
          exact h1
        have HE := Lib.hid (HNo.out k hkl (by omega) (by rw [HP.out, ← HX.out]; exact hkk))
        clear HG hkk
        go_wp2
        go_quiet (fail)
        go_wp2
        go_ret
        rw [HE.out]
        exact ⟨rfl, below_drewN hbr _⟩
    · have HE := Lib.hid (HY.out fun i h h0 => HG.out i h h0 (by rw [HL.out] at h; omega))
      go_wp2
      go_ret
      rw [HE.out]
      exact ⟨rfl, hbr⟩
theorem dwell_v {v : Value} {l : List Nt} {w : World} (h : NV w v l) (hn : l.length ≤ maxLen) :
    Calls Try.prog 50 #[v] w fun e w' => e = .returned (.bool (wellN l)) ∧ Below w.heap.size w w' := by
  obtain ⟨A, c, rfl, h1, h2, h3⟩ := h
  exact dwell_any A c l w h1 hn

end Go.Proofs.Yteddjmkoleclpaa

namespace Go.Proofs.Yteddjmkoleclpaa
open Go.RowKit Go.Sort

def TWellV (SL PA P3 P4 NVv PVv : Value) (i : Nat) (q1 q2 q3 : Bool) (t : Nat) (v : Value) (w : World) : Prop :=
  match t with
  | 33 => v = SL
  | 34 => v = .int .i64 i
  | 35 => v = PA
  | 36 => v = P3
  | 37 => v = NVv
  | 38 => v = .bool q1
  | 39 => v = SL
  | 40 => v = .int .i64 i
  | 41 => v = PA
  | 42 => v = P4
  | 43 => v = PVv
  | 44 => v = .bool q2
  | 45 => v = SL
  | 46 => v = .int .i64 i
  | 47 => v = .bool q3
  | 4 => v = .bool q1
  | 5 => v = .bool q2
  | 6 => v = .bool q3
  | _ => True
theorem TWellV.on {SL PA P3 P4 NVv PVv : Value} {i : Nat} {q1 q2 q3 : Bool} {t : Nat} {v : Value} {w w' : World} (h : TWellV SL PA P3 P4 NVv PVv i q1 q2 q3 t v w) (_ : Below w.heap.size w w') : TWellV SL PA P3 P4 NVv PVv i q1 q2 q3 t v w' := by
  unfold TWellV at *
  split at h <;> exact h

theorem node_false {l : List In} {i : Nat} (hi : i < l.length) (h : nodeI l i = false) : wellI l = false := by
  unfold wellI
  rw [Bool.and_eq_false_iff]
  right
  rw [List.all_eq_false]
  exact ⟨i, List.mem_range.2 hi, by rw [h]; simp⟩

set_option maxHeartbeats 8000000 in
set_option maxRecDepth 100000 in
theorem twell_any (A : Option Addr) (n c : Nat) (l : List In) (w : World) (hA : IV w (.slice A n c) l) (hn : n = l.length) (hm : n ≤ 100000000) (hk : ∀ x ∈ l, x.kids ≤ 1000000) (hln : ∀ x ∈ l, x.notes.length ≤ 1000000 ∧ x.pairs.length ≤ 1000000) :
    Calls Try.prog 28 #[.slice A n c] w fun e w' => e = .returned (.bool (wellI l)) ∧ Below w.heap.size w w' := by
  obtain ⟨R, hR⟩ : ∃ R, R = wellI l := ⟨_, rfl⟩
  rw [← hR]
  have HR := Lib.hid hR
  have HL := Lib.hid hn
  have HLN := Lib.hid hln
  have HA := Lib.hid hA
  have CD := Lib.hid (fun (wx : World) (h : IV wx (.slice A n c) l) => deepest_any A n c l wx h hn (by unfold maxLen; omega))
  have CE := Lib.hid (fun (wx : World) (h : IV wx (.slice A n c) l) => show Calls Try.prog 48 #[.slice A n c, .int .i64 0, .int .i64 0, .int .i64 (deepI l)] wx fun e w' => e = .returned (.int .i64 (codeO (endI l 0 0 (deepI l)))) ∧ Below wx.heap.size wx w' from by
    have h1 := end_any A n c l (deepI l) hn hm hk (n + 1) 0 0 wx h (by omega) (by omega) (by omega) (by omega)
    have e : endI l 0 0 (deepI l) = endF l (deepI l) (n + 1) 0 0 := by unfold endI; rw [hn]; rfl
    rw [e]; exact h1)
  have CB := Lib.hid (fun (wx : World) (i : Nat) (h : IV wx (.slice A n c) l) (hi : i < n) => between_any A n c l i wx h hn hm hi hln)
  clear hR hn hln hA hk
  by_cases h0 : n = 0
  · have HE := Lib.hid (show R = false from by
      rw [HR.out]
      have h1 : l = [] := List.length_eq_zero_iff.1 (by rw [← HL.out]; exact h0)
      rw [h1]; rfl)
    subst h0
    go_enter Try.func28, Try.ntmps28
    go_wp2
    go_ret
    rw [HE.out]
    exact ⟨rfl, Below.refl _ _⟩
  have hz0 : ((n : Int) == 0) = false := by simp; omega
  have hn0 : 0 < n := by omega
  have hl0 : 0 < l.length := by rw [← HL.out]; exact hn0
  obtain ⟨ad, nv, pv, rfl, hab, c0, c1, c2, c3, c4, _, _⟩ := HA.out.at_ hl0
  rw [Nat.zero_mul, Addr.add_zero'] at c2
  have hg0 : l[0]? = some (l[0]'hl0) := List.getElem?_eq_getElem hl0
  obtain ⟨xl, hxl⟩ : ∃ x, x = (l[0]'hl0).low := ⟨_, rfl⟩
  rw [← hxl] at c2
  have HX := Lib.hid (show firstI l = decide (xl = noB) from by unfold firstI; rw [hg0, hxl])
  clear hg0 hxl c0 c1 c3 c4 h0
  by_cases hx0 : xl = noB
  case neg =>
    have hs1 := str_some hx0
    have HE := Lib.hid (show R = false from by
      rw [HR.out]; unfold wellI; rw [HX.out, decide_eq_false hx0]; rfl)
    clear hx0
    go_enter Try.func28, Try.ntmps28
    go_wp2
    go_ret
    rw [HE.out]
    exact ⟨rfl, Below.refl _ _⟩
  subst hx0
  obtain ⟨T, hT⟩ : ∃ T, T = endI l 0 0 (deepI l) := ⟨_, rfl⟩
  obtain ⟨D, hD⟩ : ∃ D, D = deepI l := ⟨_, rfl⟩
  rw [← hT, ← hD] at CE
  rw [← hD] at CD
  have HT := Lib.hid hT
  have HDD := Lib.hid hD
  clear hT hD
  go_enter Try.func28, Try.ntmps28
  go_wp2_with fail
  refine (CD.out _ HA.out).mono ?_
  clear CD c2
  rintro e w1 ⟨rfl, hb1⟩
  have HB1 := Lib.hid hb1
  have HA1 := Lib.hid (HA.out.on hb1)
  clear hb1
  go_wp2_with fail
  refine (CE.out _ HA1.out).mono ?_
  clear CE
  rintro e w2 ⟨rfl, hb2⟩
  have HB2 := Lib.hid (HB1.out.trans (hb2.mono HB1.out.size))
  have HA2 := Lib.hid (HA1.out.on hb2)
  clear hb2 HB1 HA1
  by_cases hTn : T = some n
  case neg =>
    have hzc : (codeO T != (n : Int)) = true := by
      rw [bne_iff_ne]
      cases T with
      | none => show (-1 : Int) ≠ (n : Int); omega
      | some b => show (b : Int) ≠ (n : Int); intro h; exact hTn (by congr 1; omega)
    have HE := Lib.hid (show R = false from by
      rw [HR.out]; unfold wellI
      have h1 : decide (endI l 0 0 (deepI l) = some l.length) = false := decide_eq_false (by rw [← HT.out, ← HL.out]; exact hTn)
      rw [h1, Bool.and_false]; rfl)
    generalize codeO T = z at *
    clear hTn
    go_wp2
    go_ret
    rw [HE.out]
    exact ⟨rfl, HB2.out⟩
  have hcn : codeO T = (n : Int) := by rw [hTn]; rfl
  rw [hcn]
  have hzc : ((n : Int) != (n : Int)) = false := by simp
  have HYES := Lib.hid (show (∀ i, i < l.length → nodeI l i = true) → R = true from fun h => by
    rw [HR.out]; unfold wellI
    rw [HX.out]
    have h1 : decide (endI l 0 0 (deepI l) = some l.length) = true := decide_eq_true (by
      rw [← HT.out, ← HL.out]; exact hTn)
    rw [h1]
    show (List.range l.length).all (nodeI l) = true
    rw [List.all_eq_true]
    exact fun i hi => h i (List.mem_range.1 hi))
  clear hTn hcn HT HDD
  go_wp2
  go_loopw [3] (fun vi wr => ∃ (i : Nat), vi = .int .i64 i ∧ i ≤ n ∧ Hid (∀ (j : Nat), j < l.length → j < i → nodeI l j = true) ∧ Below w.heap.size w wr) (fun vi _ => (n - intOf vi).toNat)
  case atStart => exact ⟨0, rfl, by omega, fun j h h0 => by omega, HB2.out⟩
  case round =>
    clear HB2 HA2 hzc hz0
    obtain ⟨i, rfl, hi, HG, hbr⟩ := hrel
    by_cases hlt : i < n
    · have hil : i < l.length := by rw [← HL.out]; exact hlt
      obtain ⟨ad', nv, pv, e1, hab2, c0, c1, c2, c3, c4, hnv, hpv⟩ := (HA.out.on hbr).at_ hil
      injection e1 with e1
      subst e1
      have hgi : l[i]? = some (l[i]'hil) := List.getElem?_eq_getElem hil
      obtain ⟨hl1, hl2⟩ := HLN.out (l[i]'hil) (List.getElem_mem hil)
      obtain ⟨x, hx⟩ : ∃ x, x = l[i]'hil := ⟨_, rfl⟩
      rw [← hx] at c0 c1 c2 hnv hpv hgi hl1 hl2
      obtain ⟨q1, hq1⟩ : ∃ q, q = wellN x.notes := ⟨_, rfl⟩
      obtain ⟨q2, hq2⟩ : ∃ q, q = wellL x.pairs := ⟨_, rfl⟩
      obtain ⟨q3, hq3⟩ : ∃ q, q = betweenI l i := ⟨_, rfl⟩
      have HND := Lib.hid (show nodeI l i = (q1 && q2 && q3 && (l.drop (i + 1)).all fun y => !lowBad x y) from by unfold nodeI; rw [hgi, hq1, hq2, hq3])
      obtain ⟨wq, hwq⟩ : ∃ wx, wx = wr := ⟨_, rfl⟩
      rw [← hwq] at hbr c0 c1 c2 c3 c4 hnv hpv ⊢
      have HBR := Lib.hid hbr
      have hw1 := fun (wx : World) (h : Below wq.heap.size wq wx) => dwell_v (hnv.on h) (by unfold maxLen; omega)
      obtain ⟨Bn, dn, rfl, _⟩ := hnv
      obtain ⟨Bp, dp, rfl, hpr, _⟩ := hpv
      have hw2 := fun (wx : World) (h : Below wq.heap.size wq wx) => dright_pr Bp dp x.pairs wx (hpr.on h) (by unfold maxLen; omega)
      have hw3 := fun (wx : World) (h : Below wq.heap.size wq wx) => CB.out wx i (HA.out.on (hbr.trans (h.mono hbr.size))) hlt
      rw [← hq1] at hw1
      rw [← hq2] at hw2
      rw [← hq3] at hw3
      generalize x.notes.length = an at *
      generalize x.pairs.length = ap at *
      have HW1 := Lib.hid hw1
      have HW2 := Lib.hid hw2
      have HW3 := Lib.hid hw3
      have HC3 := Lib.hid (show ∀ wx, Below wq.heap.size wq wx → wx.cell? ⟨(ad.add (i * 5)).block, (ad.add (i * 5)).off + 3, none⟩ = some (.slice Bn an dn) ∧ True from fun wx h => ⟨(h.cell (lt_of_cell c3)).trans c3, trivial⟩)
      have HC4 := Lib.hid (show ∀ wx, Below wq.heap.size wq wx → wx.cell? ⟨(ad.add (i * 5)).block, (ad.add (i * 5)).off + 4, none⟩ = some (.slice Bp ap dp) ∧ True from fun wx h => ⟨(h.cell (lt_of_cell c4)).trans c4, trivial⟩)
      have HIN := Lib.hid hlt
      have HLW := Lib.hid (show wq.cell? ⟨(ad.add (i * 5)).block, (ad.add (i * 5)).off + 2, none⟩ = some (.string x.low) ∧ wq.cell? (ad.add (i * 5)) = some (.int .i64 x.depth) from ⟨c2, c0⟩)
      clear hgi hl1 hl2 hx hq1 hq2 hq3 hw1 hw2 hw3 hwq c0 c1 c2 c3 c4 hpr hbr hil
      go_wp2
      refine wp_region_inv [33, 34, 35, 36, 37, 38, 39, 40, 41, 42, 43, 44, 45, 46, 47, 4, 5, 6] (by kernel_rfl) (by kernel_rfl) (fun w' => Below wq.heap.size wq w') (fun wa wb => Below wa.heap.size wa wb) (TWellV (.slice (some ad) n c) (.pointer (some (ad.add (i * 5)))) (.pointer (some ⟨(ad.add (i * 5)).block, (ad.add (i * 5)).off + 3, none⟩)) (.pointer (some ⟨(ad.add (i * 5)).block, (ad.add (i * 5)).off + 4, none⟩)) (.slice Bn an dn) (.slice Bp ap dp) i q1 q2 q3) (by kernel_rfl) (fun wa wb h1 h2 => h2.trans (h1.mono h2.size)) (fun t v wa wb h1 h2 => h2.on h1) (Below.refl _ _).drew (steps_of ?_) ?_
      · skip
        refine Steps1.cons (fun ax wx hS hG => ?_) (Steps1.cons (fun ax wx hS hG => ?_) (Steps1.cons (fun ax wx hS hG => ?_) (Steps1.cons (fun ax wx hS hG => ?_) (Steps1.cons (fun ax wx hS hG => ?_) (Steps1.cons (fun ax wx hS hG => ?_) (Steps1.cons (fun ax wx hS hG => ?_) (Steps1.cons (fun ax wx hS hG => ?_) (Steps1.cons (fun ax wx hS hG => ?_) (Steps1.cons (fun ax wx hS hG => ?_) (Steps1.cons (fun ax wx hS hG => ?_) (Steps1.cons (fun ax wx hS hG => ?_) (Steps1.cons (fun ax wx hS hG => ?_) (Steps1.cons (fun ax wx hS hG => ?_) (Steps1.cons (fun ax wx hS hG => ?_) (Steps1.cons (fun ax wx hS hG => ?_) (Steps1.cons (fun ax wx hS hG => ?_) (Steps1.cons (fun ax wx hS hG => ?_) Steps1.nil)))))))))))))))))
        · have q0 := hG.old 0 (by kernel_rfl) (by kernel_rfl)
          refine step_value (v := .slice (some ad) n c) (w' := wx) rfl rfl ?_ (Below.refl _ _) (fun d hd => by cases hd; exact rfl)
          go_simp
        · have q3 := hG.old 3 (by kernel_rfl) (by kernel_rfl)
          refine step_value (v := .int .i64 i) (w' := wx) rfl rfl ?_ (Below.refl _ _) (fun d hd => by cases hd; exact rfl)
          go_simp
        · obtain ⟨_, q33, rfl⟩ := hG.new 33 (by kernel_rfl) (by kernel_rfl)
          obtain ⟨_, q34, rfl⟩ := hG.new 34 (by kernel_rfl) (by kernel_rfl)
          refine step_value (v := .pointer (some (ad.add (i * 5)))) (w' := wx) rfl rfl ?_ (Below.refl _ _) (fun d hd => by cases hd; exact rfl)
          have hin := HIN.out
          go_simp
        · obtain ⟨_, q35, rfl⟩ := hG.new 35 (by kernel_rfl) (by kernel_rfl)
          refine step_value (v := .pointer (some ⟨(ad.add (i * 5)).block, (ad.add (i * 5)).off + 3, none⟩)) (w' := wx) rfl rfl ?_ (Below.refl _ _) (fun d hd => by cases hd; exact rfl)
          go_simp
        · obtain ⟨_, q36, rfl⟩ := hG.new 36 (by kernel_rfl) (by kernel_rfl)
          obtain ⟨z0, z1⟩ := HC3.out wx hS
          refine step_value (v := .slice Bn an dn) (w' := wx) rfl rfl ?_ (Below.refl _ _) (fun d hd => by cases hd; exact rfl)
          go_simp
        · obtain ⟨_, q37, rfl⟩ := hG.new 37 (by kernel_rfl) (by kernel_rfl)
          refine step_call (w1 := wx) (f := 50) (args := #[.slice Bn an dn]) rfl rfl ?_ ((HW1.out wx hS).mono ?_)
          · skip
            go_simp
          · rintro e w' ⟨rfl, hq⟩
            exact ⟨_, rfl, hq, fun d hd => by cases hd; exact rfl⟩
        · have q0 := hG.old 0 (by kernel_rfl) (by kernel_rfl)
          refine step_value (v := .slice (some ad) n c) (w' := wx) rfl rfl ?_ (Below.refl _ _) (fun d hd => by cases hd; exact rfl)
          go_simp
        · have q3 := hG.old 3 (by kernel_rfl) (by kernel_rfl)
          refine step_value (v := .int .i64 i) (w' := wx) rfl rfl ?_ (Below.refl _ _) (fun d hd => by cases hd; exact rfl)
          go_simp
        · obtain ⟨_, q39, rfl⟩ := hG.new 39 (by kernel_rfl) (by kernel_rfl)
          obtain ⟨_, q40, rfl⟩ := hG.new 40 (by kernel_rfl) (by kernel_rfl)
          refine step_value (v := .pointer (some (ad.add (i * 5)))) (w' := wx) rfl rfl ?_ (Below.refl _ _) (fun d hd => by cases hd; exact rfl)
          have hin := HIN.out
          go_simp
        · obtain ⟨_, q41, rfl⟩ := hG.new 41 (by kernel_rfl) (by kernel_rfl)
          refine step_value (v := .pointer (some ⟨(ad.add (i * 5)).block, (ad.add (i * 5)).off + 4, none⟩)) (w' := wx) rfl rfl ?_ (Below.refl _ _) (fun d hd => by cases hd; exact rfl)
          go_simp
        · obtain ⟨_, q42, rfl⟩ := hG.new 42 (by kernel_rfl) (by kernel_rfl)
          obtain ⟨z0, z1⟩ := HC4.out wx hS
          refine step_value (v := .slice Bp ap dp) (w' := wx) rfl rfl ?_ (Below.refl _ _) (fun d hd => by cases hd; exact rfl)
          go_simp
        · obtain ⟨_, q43, rfl⟩ := hG.new 43 (by kernel_rfl) (by kernel_rfl)
          refine step_call (w1 := wx) (f := 25) (args := #[.slice Bp ap dp]) rfl rfl ?_ ((HW2.out wx hS).mono ?_)
          · skip
            go_simp
          · rintro e w' ⟨rfl, hq⟩
            exact ⟨_, rfl, hq, fun d hd => by cases hd; exact rfl⟩
        · have q0 := hG.old 0 (by kernel_rfl) (by kernel_rfl)
          refine step_value (v := .slice (some ad) n c) (w' := wx) rfl rfl ?_ (Below.refl _ _) (fun d hd => by cases hd; exact rfl)
          go_simp
        · have q3 := hG.old 3 (by kernel_rfl) (by kernel_rfl)
          refine step_value (v := .int .i64 i) (w' := wx) rfl rfl ?_ (Below.refl _ _) (fun d hd => by cases hd; exact rfl)
          go_simp
        · obtain ⟨_, q45, rfl⟩ := hG.new 45 (by kernel_rfl) (by kernel_rfl)
          obtain ⟨_, q46, rfl⟩ := hG.new 46 (by kernel_rfl) (by kernel_rfl)
          refine step_call (w1 := wx) (f := 51) (args := #[.slice (some ad) n c, .int .i64 i]) rfl rfl ?_ ((HW3.out wx hS).mono ?_)
          · skip
            go_simp
          · rintro e w' ⟨rfl, hq⟩
            exact ⟨_, rfl, hq, fun d hd => by cases hd; exact rfl⟩
        · obtain ⟨_, q38, rfl⟩ := hG.new 38 (by kernel_rfl) (by kernel_rfl)
          refine step_value (v := .bool q1) (w' := wx) rfl rfl ?_ (Below.refl _ _) (fun d hd => by cases hd; exact rfl)
          go_simp
        · obtain ⟨_, q44, rfl⟩ := hG.new 44 (by kernel_rfl) (by kernel_rfl)
          refine step_value (v := .bool q2) (w' := wx) rfl rfl ?_ (Below.refl _ _) (fun d hd => by cases hd; exact rfl)
          go_simp
        · obtain ⟨_, q47, rfl⟩ := hG.new 47 (by kernel_rfl) (by kernel_rfl)
          refine step_value (v := .bool q3) (w' := wx) rfl rfl ?_ (Below.refl _ _) (fun d hd => by cases hd; exact rfl)
          go_simp
      intro fv w8 hS8 hV8
      have e4 : fv 4 = .bool q1 := hV8 4 (by decide)
      have e5 : fv 5 = .bool q2 := hV8 5 (by decide)
      have e6 : fv 6 = .bool q3 := hV8 6 (by decide)
      simp only [puts, Act.put, List.setIfInBounds_toArray, List.set_cons_succ, List.set_cons_zero]
      clear hV8
      rw [e4, e5, e6]
      have hb8 : Below w.heap.size w w8 := HBR.out.trans (hS8.mono HBR.out.size)
      have HB8 := Lib.hid hb8
      have HC2 := Lib.hid (show ∀ wx, Below wq.heap.size wq wx → wx.cell? ⟨(ad.add (i * 5)).block, (ad.add (i * 5)).off + 2, none⟩ = some (.string x.low) ∧ wx.cell? (ad.add (i * 5)) = some (.int .i64 x.depth) from fun wx h => ⟨(h.cell (lt_of_cell HLW.out.1)).trans HLW.out.1, (h.cell (lt_of_cell HLW.out.2)).trans HLW.out.2⟩)
      have HS8 := Lib.hid hS8
      clear e4 e5 e6 hb8 hS8 HW1 HW2 HW3 HC3 HC4
      cases q1 with
      | false =>
        have HE := Lib.hid (show R = false from by rw [HR.out]; exact node_false (by rw [← HL.out]; exact HIN.out) HND.out)
        go_wp2
        go_ret
        rw [HE.out]
        exact ⟨rfl, HB8.out⟩
      | true =>
      cases q2 with
      | false =>
        have HE := Lib.hid (show R = false from by rw [HR.out]; exact node_false (by rw [← HL.out]; exact HIN.out) HND.out)
        go_wp2
        go_ret
        rw [HE.out]
        exact ⟨rfl, HB8.out⟩
      | true =>
      cases q3 with
      | false =>
        have HE := Lib.hid (show R = false from by rw [HR.out]; exact node_false (by rw [← HL.out]; exact HIN.out) HND.out)
        go_wp2
        go_ret
        rw [HE.out]
        exact ⟨rfl, HB8.out⟩
      | true =>
      have HND2 := Lib.hid (show nodeI l i = (l.drop (i + 1)).all fun y => !lowBad x y from HND.out)
      obtain ⟨xl, hxl⟩ : ∃ y, y = x.low := ⟨_, rfl⟩
      obtain ⟨xd, hxd⟩ : ∃ y, y = x.depth := ⟨_, rfl⟩
      rw [← hxl, ← hxd] at HC2
      have HLB := Lib.hid (show ∀ y : In, lowBad x y = (decide (y.low < xl) || (decide (y.low = xl) && decide (y.depth ≤ xd))) from fun y => by rw [hxl, hxd]; rfl)
      clear hxl hxd HND
      go_wp2
      go_loopw [7] (fun vk wr => ∃ (k : Nat), vk = .int .i64 k ∧ i + 1 ≤ k ∧ k ≤ n ∧ Hid (∀ (j : Nat) (h : j < l.length), i < j → j < k → lowBad x l[j] = false) ∧ Below w.heap.size w wr ∧ Hid (Below wq.heap.size wq wr)) (fun vk _ => (n - intOf vk).toNat)
      case atStart => exact ⟨i + 1, by go_num, by omega, by have := HIN.out; omega, fun j h h0 h1 => by omega, HB8.out, HS8.out⟩
      case round =>
        obtain ⟨k, rfl, hk1, hk2, HK, hbr, HBQ⟩ := hrel
        by_cases hkt : k < n
        · have hkl : k < l.length := by rw [← HL.out]; exact hkt
          obtain ⟨ad', nv, pv, e1, hab3, c0, c1, c2, c3, c4, hnv, hpv⟩ := (HA.out.on hbr).at_ hkl
          injection e1 with e1
          subst e1
          obtain ⟨d2, d0⟩ := HC2.out wr HBQ.out
          have hlb := HLB.out (l[k]'hkl)
          obtain ⟨yd, hyd⟩ : ∃ y, y = (l[k]'hkl).depth := ⟨_, rfl⟩
          obtain ⟨yl, hyl⟩ : ∃ y, y = (l[k]'hkl).low := ⟨_, rfl⟩
          rw [← hyd] at c0
          rw [← hyl] at c2
          rw [← hyd, ← hyl] at hlb
          have hin : i < n := by omega
          have HBAD := Lib.hid (show lowBad x (l[k]'hkl) = true → R = false from fun h => by
            rw [HR.out]
            refine node_false (i := i) (by rw [← HL.out]; exact hin) ?_
            rw [HND2.out, List.all_eq_false]
            refine ⟨l[k]'hkl, ?_, by rw [h]; simp⟩
            rw [List.mem_iff_getElem]
            exact ⟨k - (i + 1), by simp; omega, by rw [List.getElem_drop]; congr 1; omega⟩)
          have HGO := Lib.hid (show lowBad x (l[k]'hkl) = false → ∀ (j : Nat) (h : j < l.length), i < j → j < k + 1 → lowBad x l[j] = false from fun h0 j h h1 h2 => by
            by_cases hj : j < k
            · exact HK.out j h h1 hj
            · have : j = k := by omega
              subst this
              exact h0)
          have HLB2 := Lib.hid hlb
          clear hyd hyl c1 c3 c4 hnv hpv hlb HK
          by_cases h1 : yl < xl
          · have hles : Op.bytesLess yl.toList xl.toList = true := lt_iff.1 h1
            have HE := Lib.hid (HBAD.out (by rw [HLB2.out, decide_eq_true h1]; rfl))
            clear h1
            go_wp2
            go_quiet (fail)
            go_wp2
            go_ret
            rw [HE.out]
            exact ⟨rfl, below_drewN hbr _⟩
          have hles : Op.bytesLess yl.toList xl.toList = false := by
            have h3 : ltS yl xl = false := by rw [ltS_eq]; exact decide_eq_false h1
            exact h3
          by_cases h2 : yl = xl
          case neg =>
            have hz := str_ne h2
            have HG2 := Lib.hid (HGO.out (by rw [HLB2.out, decide_eq_false h1, decide_eq_false h2]; rfl))
            clear h1 h2
            go_wp2
            go_quiet (fail)
            go_wp2
            go_roundw
            case rel => exact ⟨k + 1, by go_num, by omega, by omega, HG2, below_drewN hbr _, below_drewN HBQ.out _⟩
            case measure => simp [intOf]; omega
          have hz := str_eq h2
          by_cases h3 : yd ≤ xd
          · have hz3 : decide (yd ≤ xd) = true := decide_eq_true h3
            have HE := Lib.hid (HBAD.out (by rw [HLB2.out, decide_eq_false h1, decide_eq_true h2, hz3]; rfl))
            clear h1 h2 h3
            go_wp2
            go_quiet (fail)
            go_wp2
            go_ret
            rw [HE.out]
            exact ⟨rfl, below_drewN hbr _⟩
          · have hz3 : decide (yd ≤ xd) = false := decide_eq_false h3
            have HG2 := Lib.hid (HGO.out (by rw [HLB2.out, decide_eq_false h1, hz3, Bool.and_false]; rfl))
            clear h1 h2 h3
            go_wp2
            go_quiet (fail)
            go_wp2
            go_roundw
            case rel => exact ⟨k + 1, by go_num, by omega, by omega, HG2, below_drewN hbr _, below_drewN HBQ.out _⟩
            case measure => simp [intOf]; omega
        · have HG2 := Lib.hid (show ∀ (j : Nat), j < l.length → j < i + 1 → nodeI l j = true from fun j h h1 => by
            by_cases hj : j < i
            · exact HG.out j h hj
            · have : j = i := by omega
              subst this
              rw [HND2.out, List.all_eq_true]
              intro y hy
              obtain ⟨q, hq, rfl⟩ := List.getElem_of_mem hy
              have hq2 : q < l.length - (j + 1) := by simpa using hq
              rw [List.getElem_drop, HK.out (j + 1 + q) (by omega) (by omega) (by have := HL.out; omega)]
              rfl)
          clear HK HG
          go_wp2
          go_roundw
          case rel => exact ⟨i + 1, by go_num, by have := HIN.out; omega, HG2, hbr⟩
          case measure => have := HIN.out; simp [intOf]; omega
    · have HE := Lib.hid (HYES.out fun i hi => HG.out i hi (by rw [← HL.out] at hi; omega))
      go_wp2
      go_ret
      rw [HE.out]
      exact ⟨rfl, hbr⟩
theorem twell_v {v : Value} {l : List In} {w : World} (h : IV w v l) (hm : l.length ≤ 100000000) (hk : ∀ x ∈ l, x.kids ≤ 1000000) (hln : ∀ x ∈ l, x.notes.length ≤ 1000000 ∧ x.pairs.length ≤ 1000000) :
    Calls Try.prog 28 #[v] w fun e w' => e = .returned (.bool (wellI l)) ∧ Below w.heap.size w w' := by
  have h0 := h
  obtain ⟨A, c, rfl⟩ := h.shape
  exact twell_any A l.length c l w h0 rfl hm hk hln

end Go.Proofs.Yteddjmkoleclpaa
