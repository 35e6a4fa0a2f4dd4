/- The walk of the law TreeRanges. -/
import Derived.Test.YteddjmkoleclpaaQL
import Derived.Test.YteddjmkoleclpaaPhase
set_option linter.unusedVariables false
set_option linter.unusedSimpArgs false
namespace Go.Proofs.Yteddjmkoleclpaa
open Go.RowKit Go.Sort

theorem filter_two {α : Type} {R : α → α → Prop} (f g : α → Bool) : ∀ {l : List α}, l.Pairwise R → (∀ x ∈ l, g x = !f x) → (∀ x ∈ l, ∀ y ∈ l, R x y → f y = true → f x = true) → l.filter f ++ l.filter g = l
  | [], _, _, _ => rfl
  | x :: r, hp, hg, hd => by
    obtain ⟨h1, h2⟩ := List.pairwise_cons.1 hp
    have hgx := hg x List.mem_cons_self
    cases hf : f x with
    | true =>
      rw [hf] at hgx
      rw [List.filter_cons_of_pos hf, List.filter_cons_of_neg (by rw [hgx]; decide), List.cons_append, filter_two f g h2 (fun y hy => hg y (List.mem_cons_of_mem _ hy)) (fun a ha b hb => hd a (List.mem_cons_of_mem _ ha) b (List.mem_cons_of_mem _ hb))]
    | false =>
      have hall : ∀ y ∈ x :: r, f y = false := fun y hy => by
        rcases List.mem_cons.1 hy with rfl | hy2
        · exact hf
        · cases hfy : f y with
          | false => rfl
          | true =>
            have := hd x List.mem_cons_self y hy (h1 y hy2) hfy
            rw [hf] at this
            cases this
      have e1 : (x :: r).filter f = [] := List.filter_eq_nil_iff.2 fun y hy => by rw [hall y hy]; decide
      have e2 : (x :: r).filter g = x :: r := List.filter_eq_self.2 fun y hy => by rw [hg y hy, hall y hy]; rfl
      rw [e1, e2, List.nil_append]
theorem pick_split {P : List Pr} (s : ByteArray) (hs : Sorted P) : pickL ⟨noS, s, false⟩ P ++ pickL ⟨s, noS, true⟩ P = P := by
  have e1 : ∀ k, inB ⟨noS, s, false⟩ k = decide (k < s) := fun k => by
    rw [Bool.eq_iff_iff, inB_iff, decide_eq_true_eq]
    constructor
    · rintro ⟨_, h | h⟩
      · cases h
      · exact h
    · exact fun h => ⟨noS_le k, .inr h⟩
  have e2 : ∀ k, inB ⟨s, noS, true⟩ k = decide (s ≤ k) := fun k => by
    rw [Bool.eq_iff_iff, inB_iff, decide_eq_true_eq]
    exact ⟨fun h => h.1, fun h => ⟨h, .inl rfl⟩⟩
  unfold pickL
  refine filter_two _ _ hs (fun x _ => ?_) fun x _ y _ hxy hy => ?_
  · rw [e1, e2]
    by_cases h : x.k < s
    · rw [decide_eq_true h, decide_eq_false (by grind)]; rfl
    · rw [decide_eq_false h, decide_eq_true (by grind)]; rfl
  · rw [e1, decide_eq_true_eq] at hy ⊢
    have h1 : x.k < y.k := hxy
    grind

/-- A slice of no pair, in a block of none. -/
def NoneP (base : Nat) (w : World) (v : Value) : Prop := ∃ g, v = .slice (some ⟨g, 0, none⟩) 0 0 ∧ base ≤ g ∧ Box w g 44 #[]
theorem NoneP.on {base : Nat} {w w' : World} {v : Value} (h : NoneP base w v) (hb : Below w.heap.size w w') : NoneP base w' v := by
  obtain ⟨g, e, h1, h2⟩ := h
  exact ⟨g, e, h1, Box.on h2 hb⟩
theorem NoneP.own {base : Nat} {w : World} {v : Value} (h : NoneP base w v) : w.ownsRow base 44 2 v 0 [] := by
  obtain ⟨g, rfl, h1, h2⟩ := h
  exact ⟨rfl, .inr ⟨g, 0, #[], rfl, h1, h2, Nat.zero_le _, by unfold maxLen; omega, rfl, rfl⟩⟩

/-- append(append([]api.Pair{}, a...), b...), and Same of it; Same of Scan and Pick. -/
def RangesV (base : Nat) (av bv cv tv rv : Value) (n1 n2 : Nat) (a b q : List Pr) (p t : Nat) (v : Value) (w : World) : Prop :=
  match t with
  | 50 => p = 0 → NoneP base w v
  | 51 => v = av
  | 52 => p = 1 → w.ownsRow base 44 2 v n1 (a.flatMap Pr.cells)
  | 53 => v = bv
  | 54 => p = 2 → w.ownsRow base 44 2 v (n1 + n2) ((a ++ b).flatMap Pr.cells)
  | 55 => v = cv
  | 56 => v = .bool true
  | 57 => v = .bool true
  | 58 => v = tv
  | 59 => v = rv
  | 60 => p = 2 ∧ PV w v q
  | 61 => v = rv
  | 62 => v = cv
  | 63 => p = 2 ∧ PV w v q
  | 64 => v = .bool true
  | 65 => v = .bool true
  | 66 => v = .bool true
  | 67 => v = .bool true
  | 68 => v = .bool true
  | 6 => v = .bool true
  | _ => True
theorem RangesV.on {base : Nat} {av bv cv tv rv : Value} {n1 n2 : Nat} {a b q : List Pr} {p t : Nat} {v : Value} {w w' : World} (h : RangesV base av bv cv tv rv n1 n2 a b q p t v w) (hb : Below w.heap.size w w') : RangesV base av bv cv tv rv n1 n2 a b q p t v w' := by
  unfold RangesV at *
  split at h <;> first | exact h | exact fun e => (h e).on hb | exact fun e => own_below' (h e) hb | exact ⟨h.1, h.2.on hb⟩

set_option maxHeartbeats 8000000 in
set_option maxRecDepth 100000 in
theorem ranges_walk (v1 : Value) (l : List Nt) (s lo hi : ByteArray) (op : Bool) (w0 : World) (hA : NV w0 v1 l) (hl : l.length ≤ maxLen) :
    Calls Try.prog 7 #[v1, .string s, .agg #[.string lo, .string hi, .bool op]] w0 fun e w' => e = .returned (.bool true) ∧ Below w0.heap.size w0 w' := by
  obtain ⟨w1, hw1⟩ : ∃ wz, wz = w0.alloc (.cells #[.string lo, .string hi, .bool op] 24) := ⟨_, rfl⟩
  obtain ⟨g0, hg0⟩ : ∃ gz, gz = w0.heap.size := ⟨_, rfl⟩
  have hb01 : Below w0.heap.size w0 w1 := by rw [hw1]; exact (Below.refl _ _).alloc (Nat.le_refl _) _
  have RX1 := Lib.hid (show RBlk w1 g0 ⟨lo, hi, op⟩ from by rw [hw1]; exact Box.at_ w0 _ _ hg0)
  have HA1 := Lib.hid (hA.on hb01)
  have HB1 := Lib.hid hb01
  have HW1 := Lib.hid hw1
  have HG0 := Lib.hid hg0
  obtain ⟨A, ca, rfl, _, _, _⟩ := hA
  obtain ⟨nl, hla⟩ : ∃ n, n = l.length := ⟨_, rfl⟩
  rw [← hla] at HA1 ⊢
  have HLA := Lib.hid hla
  have HLM := Lib.hid hl
  clear hl hla hb01 hw1 hg0
  go_enter Try.func7, Try.ntmps7
  have hc := dfew_v HA1.out 60 HLM.out
  rw [← HLA.out] at hc
  go_upto_region 1 with fail
  rw [← HG0.out, ← HW1.out]
  clear HG0 HW1
  go_wp2_with fail
  refine hc.mono ?_
  clear hc
  rintro e w2 ⟨R, rfl, hR, hb⟩
  have HR := Lib.hid hR
  clear hR
  have HB2 := Lib.hid (HB1.out.trans (hb.mono HB1.out.size))
  have HA2 := Lib.hid (HA1.out.on hb)
  have RX2 := Lib.hid (show RBlk w2 g0 ⟨lo, hi, op⟩ from cells_of RX1.out hb)
  clear hb HB1 HA1 RX1 
  cases R with
  | false =>
    go_wp2_with fail
    refine (awake_true _).mono ?_
    rintro e w9 ⟨rfl, hb9⟩
    have HB9 := Lib.hid (HB2.out.trans (hb9.mono HB2.out.size))
    clear hb9
    go_wp2
    go_ret
    exact ⟨rfl, HB9.out⟩
  | true =>
  have hl60 : nl ≤ 60 := HR.out rfl
  clear HR
  obtain ⟨r0, r1, r2⟩ := RBlk.cells RX2.out
  simp only at r0 r1 r2
  by_cases k_s : s.size ≤ 300
  case neg =>
    have hd : decide (300 < (s.size : Int)) = true := by simp; omega
    go_wp2_with fail
    refine (awake_true _).mono ?_
    rintro e w9 ⟨rfl, hb9⟩
    have HB9 := Lib.hid (HB2.out.trans (hb9.mono HB2.out.size))
    clear hb9
    go_wp2
    go_ret
    exact ⟨rfl, HB9.out⟩
  have hd_s : decide (300 < (s.size : Int)) = false := by simp; omega
  by_cases k_lo : lo.size ≤ 300
  case neg =>
    have hd : decide (300 < (lo.size : Int)) = true := by simp; omega
    go_wp2_with fail
    refine (awake_true _).mono ?_
    rintro e w9 ⟨rfl, hb9⟩
    have HB9 := Lib.hid (HB2.out.trans (hb9.mono HB2.out.size))
    clear hb9
    go_wp2
    go_ret
    exact ⟨rfl, HB9.out⟩
  have hd_lo : decide (300 < (lo.size : Int)) = false := by simp; omega
  by_cases k_hi : hi.size ≤ 300
  case neg =>
    have hd : decide (300 < (hi.size : Int)) = true := by simp; omega
    go_wp2_with fail
    refine (awake_true _).mono ?_
    rintro e w9 ⟨rfl, hb9⟩
    have HB9 := Lib.hid (HB2.out.trans (hb9.mono HB2.out.size))
    clear hb9
    go_wp2
    go_ret
    exact ⟨rfl, HB9.out⟩
  have hd_hi : decide (300 < (hi.size : Int)) = false := by simp; omega
  obtain ⟨P, hP⟩ : ∃ P, P = tAppP [] l := ⟨_, rfl⟩
  have hc := tapply_any _ _ [] l 0 0 w2 (tree_none w2) HA2.out (by rw [← HLA.out]; omega)
  rw [← hP] at hc
  have HL60 := Lib.hid hl60
  clear hP
  go_wp2_with fail
  refine (hc).mono ?_
  clear  hc k_s k_lo k_hi r0 r1 r2
  rintro e w3 ⟨v3, rfl, ht, hb⟩
  have HT3 := Lib.hid ht
  clear ht
  have HB3 := Lib.hid (HB2.out.trans (hb.mono HB2.out.size))
  have HA3 := Lib.hid (HA2.out.on hb)
  have RX3 := Lib.hid (show RBlk w3 g0 ⟨lo, hi, op⟩ from cells_of RX2.out hb)
  clear hb HB2 HA2 RX2 
  obtain ⟨lo1, ka1, kn1, kc1, na1, nn1, nc1, pa1, pn1, pc1, rfl⟩ := tree_shape HT3.out
  obtain ⟨w4, hw2⟩ : ∃ wz, wz = w3.alloc (.cells #[.string lo1, .slice ka1 kn1 kc1, .slice na1 nn1 nc1, .slice pa1 pn1 pc1] 32) := ⟨_, rfl⟩
  obtain ⟨g1, hg2⟩ : ∃ gz, gz = w3.heap.size := ⟨_, rfl⟩
  have hb2 : Below w3.heap.size w3 w4 := by rw [hw2]; exact (Below.refl _ _).alloc (Nat.le_refl _) _
  have BX4 := Lib.hid (show TBox w4 g1 ⟨lo1, ⟨ka1, kn1, kc1⟩, ⟨na1, nn1, nc1⟩, ⟨pa1, pn1, pc1⟩⟩ from by rw [hw2]; exact Box.at_ w3 _ _ hg2)
  have HB4 := Lib.hid (HB3.out.trans (hb2.mono HB3.out.size))
  have HA4 := Lib.hid (HA3.out.on hb2)
  have RX4 := Lib.hid (show RBlk w4 g0 ⟨lo, hi, op⟩ from cells_of RX3.out hb2)
  have HT4 := Lib.hid (HT3.out.on hb2)
  clear hb2 HB3 HA3 RX3 HT3 
  go_upto_region 4 with fail
  rw [← hg2, ← hw2]
  clear hg2 hw2
  clear HA4
  have HPS := Lib.hid (tree_len HT4.out)
  have HLN := Lib.hid (show P.length ≤ 60 by have h1 := HPS.out.1; rw [← HLA.out] at h1; have := HL60.out; omega)
  have hc : Calls Try.prog 17 #[.agg #[.string lo1, .slice ka1 kn1 kc1, .slice na1 nn1 nc1, .slice pa1 pn1 pc1], .agg #[.string noB, .string s, .bool false]] w4 fun e w' => ∃ v', e = .returned v' ∧ PV w' v' (pickL ⟨noS, s, false⟩ P) ∧ Below w4.heap.size w4 w' := by
    have h1 := tscan_any _ _ _ _ ⟨noS, s, false⟩ w4 HT4.out (by rw [← HLA.out]; have := HL60.out; omega)
    exact h1
  obtain ⟨b0, b1, b2, b3⟩ := TBox.cells BX4.out
  simp only at b0 b1 b2 b3
  go_wp2_with fail
  refine (hc).mono ?_
  clear b0 b1 b2 b3 hc
  rintro e w5 ⟨v5, rfl, hv, hb⟩
  have HX5 := Lib.hid hv
  clear hv
  have HB5 := Lib.hid (HB4.out.trans (hb.mono HB4.out.size))
  have RX5 := Lib.hid (show RBlk w5 g0 ⟨lo, hi, op⟩ from cells_of RX4.out hb)
  have HT5 := Lib.hid (HT4.out.on hb)
  have BX5 := Lib.hid (show TBox w5 g1 ⟨lo1, ⟨ka1, kn1, kc1⟩, ⟨na1, nn1, nc1⟩, ⟨pa1, pn1, pc1⟩⟩ from BX4.out.on hb)
  clear hb HB4 RX4 HT4 BX4 
  have hc : Calls Try.prog 17 #[.agg #[.string lo1, .slice ka1 kn1 kc1, .slice na1 nn1 nc1, .slice pa1 pn1 pc1], .agg #[.string s, .string noB, .bool true]] w5 fun e w' => ∃ v', e = .returned v' ∧ PV w' v' (pickL ⟨s, noS, true⟩ P) ∧ Below w5.heap.size w5 w' := by
    have h1 := tscan_any _ _ _ _ ⟨s, noS, true⟩ w5 HT5.out (by rw [← HLA.out]; have := HL60.out; omega)
    exact h1
  obtain ⟨b0, b1, b2, b3⟩ := TBox.cells BX5.out
  simp only at b0 b1 b2 b3
  go_wp2_with fail
  refine (hc).mono ?_
  clear b0 b1 b2 b3 hc
  rintro e w6 ⟨v6, rfl, hv, hb⟩
  have HY6 := Lib.hid hv
  clear hv
  have HB6 := Lib.hid (HB5.out.trans (hb.mono HB5.out.size))
  have RX6 := Lib.hid (show RBlk w6 g0 ⟨lo, hi, op⟩ from cells_of RX5.out hb)
  have HT6 := Lib.hid (HT5.out.on hb)
  have BX6 := Lib.hid (show TBox w6 g1 ⟨lo1, ⟨ka1, kn1, kc1⟩, ⟨na1, nn1, nc1⟩, ⟨pa1, pn1, pc1⟩⟩ from BX5.out.on hb)
  have HX6 := Lib.hid (HX5.out.on hb)
  clear hb HB5 RX5 HT5 BX5 HX5 
  have hc : Calls Try.prog 17 #[.agg #[.string lo1, .slice ka1 kn1 kc1, .slice na1 nn1 nc1, .slice pa1 pn1 pc1], .agg #[.string noB, .string noB, .bool true]] w6 fun e w' => ∃ v', e = .returned v' ∧ PV w' v' P ∧ Below w6.heap.size w6 w' := by
    have h1 := tscan_any _ _ _ _ ⟨noS, noS, true⟩ w6 HT6.out (by rw [← HLA.out]; have := HL60.out; omega)
    rw [pick_all] at h1
    exact h1
  obtain ⟨b0, b1, b2, b3⟩ := TBox.cells BX6.out
  simp only at b0 b1 b2 b3
  go_wp2_with fail
  refine (hc).mono ?_
  clear b0 b1 b2 b3 hc
  rintro e w7 ⟨v7, rfl, hv, hb⟩
  have HZ7 := Lib.hid hv
  clear hv
  have HB7 := Lib.hid (HB6.out.trans (hb.mono HB6.out.size))
  have RX7 := Lib.hid (show RBlk w7 g0 ⟨lo, hi, op⟩ from cells_of RX6.out hb)
  have HT7 := Lib.hid (HT6.out.on hb)
  have BX7 := Lib.hid (show TBox w7 g1 ⟨lo1, ⟨ka1, kn1, kc1⟩, ⟨na1, nn1, nc1⟩, ⟨pa1, pn1, pc1⟩⟩ from BX6.out.on hb)
  have HX7 := Lib.hid (HX6.out.on hb)
  have HY7 := Lib.hid (HY6.out.on hb)
  clear hb HB6 RX6 HT6 BX6 HX6 HY6 
  obtain ⟨a, ha⟩ : ∃ a, a = pickL ⟨noS, s, false⟩ P := ⟨_, rfl⟩
  obtain ⟨b, hb2⟩ : ∃ b, b = pickL ⟨s, noS, true⟩ P := ⟨_, rfl⟩
  obtain ⟨q, hq2⟩ : ∃ q, q = pickL ⟨lo, hi, op⟩ P := ⟨_, rfl⟩
  rw [← ha] at HX7
  rw [← hb2] at HY7
  have HAB := Lib.hid (show a ++ b = P by rw [ha, hb2]; exact pick_split s (well_sorted HPS.out.2))
  have HQ := Lib.hid hq2
  have HLL := Lib.hid (show a.length ≤ 60 ∧ b.length ≤ 60 ∧ q.length ≤ 60 by
    have h1 := HLN.out
    refine ⟨?_, ?_, ?_⟩
    · rw [ha]; exact Nat.le_trans (List.length_filter_le _ _) h1
    · rw [hb2]; exact Nat.le_trans (List.length_filter_le _ _) h1
    · rw [hq2]; exact Nat.le_trans (List.length_filter_le _ _) h1)
  clear ha hb2 hq2
  obtain ⟨A1, c1, rfl, hx1, _, hx2⟩ := HX7.out
  obtain ⟨A2, c2, rfl, hy1, _, hy2⟩ := HY7.out
  obtain ⟨A3, c3, rfl, hz1, _, hz2⟩ := HZ7.out
  obtain ⟨n1, hn1⟩ : ∃ n, a.length = n := ⟨_, rfl⟩
  obtain ⟨n2, hn2⟩ : ∃ n, b.length = n := ⟨_, rfl⟩
  obtain ⟨n3, hn3⟩ : ∃ n, P.length = n := ⟨_, rfl⟩
  rw [hn1] at HX7 ⊢
  rw [hn2] at HY7 ⊢
  rw [hn3] at HZ7 ⊢
  have HN1 := Lib.hid hn1
  have HN2 := Lib.hid hn2
  have HX1 := Lib.hid hx1
  have HY1 := Lib.hid hy1
  have HX2 := Lib.hid hx2
  have HY2 := Lib.hid hy2
  clear hx1 hx2 hy1 hy2 hz1 hz2 hn1 hn2 hn3
  go_wp2_with fail
  obtain ⟨wz, hwz⟩ : ∃ w2, w2 = w7 := ⟨_, rfl⟩
  rw [← hwz] at HB7 RX7 HT7 BX7 HX7 HY7 HZ7 HX1 HY1 ⊢
  clear hwz
  have HC1 := Lib.hid (show ∀ wx, Below wz.heap.size wz wx → Prs wx wx.heap.size A1 a from fun wx h => Lies.on HX1.out h)
  have HC2 := Lib.hid (show ∀ wx, Below wz.heap.size wz wx → Prs wx wx.heap.size A2 b from fun wx h => Lies.on HY1.out h)
  have HC3 := Lib.hid (show ∀ wx, Below wz.heap.size wz wx → PV wx (.slice A3 n3 c3) P from fun wx h => HZ7.out.on h)
  have HCT := Lib.hid (show ∀ wx, Below wz.heap.size wz wx → _ from fun wx h => TBox.cells (BX7.out.on h))
  have HCR := Lib.hid (show ∀ wx, Below wz.heap.size wz wx → _ from fun wx h => RBlk.cells (cells_of RX7.out h))
  simp only at HCT HCR
  have HSA := Lib.hid (show ∀ wx v, PV wx v (a ++ b) → PV wx (.slice A3 n3 c3) P → Calls Try.prog 16 #[v, .slice A3 n3 c3] wx fun e w' => e = .returned (.bool true) ∧ Below wx.heap.size wx w' from fun wx v h1 h2 => by
    have h := same_v h1 h2 (by rw [List.length_append]; have := HLL.out; unfold maxLen; omega)
    rw [decide_eq_true HAB.out] at h
    exact h)
  have HSQ := Lib.hid (show ∀ wx v u, PV wx v q → PV wx u q → Calls Try.prog 16 #[v, u] wx fun e w' => e = .returned (.bool true) ∧ Below wx.heap.size wx w' from fun wx v u h1 h2 => by
    have h := same_v h1 h2 (by have := HLL.out; unfold maxLen; omega)
    rw [decide_eq_true rfl] at h
    exact h)
  have HSC := Lib.hid (show ∀ wx, Below wz.heap.size wz wx → Calls Try.prog 17 #[.agg #[.string lo1, .slice ka1 kn1 kc1, .slice na1 nn1 nc1, .slice pa1 pn1 pc1], .agg #[.string lo, .string hi, .bool op]] wx fun e w' => ∃ v', e = .returned v' ∧ PV w' v' q ∧ Below wx.heap.size wx w' from fun wx h => by
    have h1 := tscan_any _ _ _ _ ⟨lo, hi, op⟩ wx (HT7.out.on h) (by rw [← HLA.out]; have := HL60.out; omega)
    rw [← HQ.out] at h1
    exact h1)
  have HPK := Lib.hid (show ∀ wx, Below wz.heap.size wz wx → Calls Try.prog 18 #[.agg #[.string lo, .string hi, .bool op], .slice A3 n3 c3] wx fun e w' => ∃ v', e = .returned v' ∧ PV w' v' q ∧ Below wx.heap.size wx w' from fun wx h => by
    have h1 := rpick_v ⟨lo, hi, op⟩ (HC3.out wx h) (by have := HLN.out; omega)
    rw [← HQ.out] at h1
    exact h1)
  refine wp_region_phase 14 [50, 51, 52, 53, 54, 55, 56, 57, 58, 59, 60, 61, 62, 63, 64, 65, 66, 67, 68, 6] (by kernel_rfl) [2, 4] [] (fun _ _ => True) 2 rfl (by kernel_rfl) (fun _ w' => Below wz.heap.size wz w') (fun wa wb => Below wa.heap.size wa wb) (RangesV wz.heap.size (.slice A1 n1 c1) (.slice A2 n2 c2) (.slice A3 n3 c3) (.agg #[.string lo1, .slice ka1 kn1 kc1, .slice na1 nn1 nc1, .slice pa1 pn1 pc1]) (.agg #[.string lo, .string hi, .bool op]) n1 n2 a b q) (by kernel_rfl) (fun _ wa wb h1 h2 => h2.trans (h1.mono h2.size)) (fun _ t v wa wb h1 h2 => h2.on h1) (fun _ _ _ _ _ _ _ => trivial) (Below.refl _ _).drew trivial (phase2 ?_ ?_ ?_) ?_
  · skip
    refine Steps1.cons (fun _ ax wx hS hJ hG => ?_) (Steps1.cons (fun _ ax wx hS hJ hG => ?_) (Steps1.cons (fun _ ax wx hS hJ hG => ?_) (Steps1.cons (fun _ ax wx hS hJ hG => ?_) (Steps1.cons (fun hin _ _ _ _ _ => out (by kernel_rfl) hin) (Steps1.cons (fun _ ax wx hS hJ hG => ?_) (Steps1.cons (fun hin _ _ _ _ _ => out (by kernel_rfl) hin) (Steps1.cons (fun hin _ _ _ _ _ => out (by kernel_rfl) hin) (Steps1.cons (fun hin _ _ _ _ _ => out (by kernel_rfl) hin) (Steps1.cons (fun hin _ _ _ _ _ => out (by kernel_rfl) hin) (Steps1.cons (fun hin _ _ _ _ _ => out (by kernel_rfl) hin) (Steps1.cons (fun hin _ _ _ _ _ => out (by kernel_rfl) hin) (Steps1.cons (fun hin _ _ _ _ _ => out (by kernel_rfl) hin) (Steps1.cons (fun hin _ _ _ _ _ => out (by kernel_rfl) hin) (Steps1.cons (fun hin _ _ _ _ _ => out (by kernel_rfl) hin) (Steps1.cons (fun hin _ _ _ _ _ => out (by kernel_rfl) hin) (Steps1.cons (fun hin _ _ _ _ _ => out (by kernel_rfl) hin) (Steps1.cons (fun hin _ _ _ _ _ => out (by kernel_rfl) hin) (Steps1.cons (fun hin _ _ _ _ _ => out (by kernel_rfl) hin) (Steps1.cons (fun hin _ _ _ _ _ => out (by kernel_rfl) hin) Steps1.nil)))))))))))))))))))
    · refine step_slot rfl rfl rfl (step_value (v := .slice (some ⟨wx.heap.size, 0, none⟩) 0 0) (w' := wx.alloc (.cells #[] 44)) rfl rfl ?_ ((Below.refl _ _).alloc (Nat.le_refl _) _) (fun d hd => by cases hd; exact fun _ => ⟨_, rfl, hS.size, Box.fresh _ _ _⟩))
      go_simp
    · have q9 := hG.old 9 (by kernel_rfl) (by kernel_rfl)
      refine step_slot rfl rfl rfl (step_value (v := .slice A1 n1 c1) (w' := wx) rfl rfl ?_ (Below.refl _ _) (fun d hd => by cases hd; exact rfl))
      go_simp
    · obtain ⟨v1, q1, h1⟩ := hG.new 50 (by kernel_rfl) (by kernel_rfl)
      obtain ⟨_, q2, rfl⟩ := hG.new 51 (by kernel_rfl) (by kernel_rfl)
      have hno : NoneP wz.heap.size wx v1 := (show 0 = 0 → _ from h1) rfl
      obtain ⟨v2, w2, hr, hown2, hg⟩ := run_append_prs wx 28 wz.heap.size v1 0 [] hno.own wx.heap.size A1 n1 c1 a HN1.out (HC1.out wx hS) HX2.out (by have := HLL.out; have := HN1.out; omega) hS.size
      have hS2 : Below wz.heap.size wz w2 := hS.grown hg hS.size (fun k hk => (hno.own.lt k hk).1)
      refine step_marked (v := v2) (w' := w2) rfl rfl rfl rfl ?_ hS2 trivial ?_ ?_
      · have e1 : ax.eval (.tmp 50) = v1 := by simp [Act.eval, q1]
        have e2 : ax.eval (.tmp 51) = .slice A1 n1 c1 := by simp [Act.eval, q2]
        unfold execOp
        simp only [resolve, invoke, builtin, Sem.run_bind, Sem.run_pure, Result.andThen_ok, List.map_toArray, List.map_cons, List.map_nil, e1, e2, hr]
      · exact fun _ => (by simpa using hown2)
      · intro t u _ ht hu hV
        unfold RangesV at hV ⊢
        split at hV
        · exact fun h => absurd h (by decide)
        · exact hV
        · exact absurd rfl ht
        · exact hV
        · exact fun h => absurd h (by decide)
        · exact hV
        · exact hV
        · exact hV
        · exact hV
        · exact hV
        · exact absurd (hV.1) (by decide)
        · exact hV
        · exact hV
        · exact absurd (hV.1) (by decide)
        · exact hV
        · exact hV
        · exact hV
        · exact hV
        · exact hV
        · exact hV
        · trivial
    · have q10 := hG.old 10 (by kernel_rfl) (by kernel_rfl)
      refine step_slot rfl rfl rfl (step_value (v := .slice A2 n2 c2) (w' := wx) rfl rfl ?_ (Below.refl _ _) (fun d hd => by cases hd; exact rfl))
      go_simp
    · have q11 := hG.old 11 (by kernel_rfl) (by kernel_rfl)
      refine step_slot rfl rfl rfl (step_value (v := .slice A3 n3 c3) (w' := wx) rfl rfl ?_ (Below.refl _ _) (fun d hd => by cases hd; exact rfl))
      go_simp
  · skip
    refine Steps1.cons (fun hin _ _ _ _ _ => out (by kernel_rfl) hin) (Steps1.cons (fun hin _ _ _ _ _ => out (by kernel_rfl) hin) (Steps1.cons (fun hin _ _ _ _ _ => out (by kernel_rfl) hin) (Steps1.cons (fun _ ax wx hS hJ hG => ?_) (Steps1.cons (fun _ ax wx hS hJ hG => ?_) (Steps1.cons (fun _ ax wx hS hJ hG => ?_) (Steps1.cons (fun hin _ _ _ _ _ => out (by kernel_rfl) hin) (Steps1.cons (fun hin _ _ _ _ _ => out (by kernel_rfl) hin) (Steps1.cons (fun hin _ _ _ _ _ => out (by kernel_rfl) hin) (Steps1.cons (fun hin _ _ _ _ _ => out (by kernel_rfl) hin) (Steps1.cons (fun hin _ _ _ _ _ => out (by kernel_rfl) hin) (Steps1.cons (fun hin _ _ _ _ _ => out (by kernel_rfl) hin) (Steps1.cons (fun hin _ _ _ _ _ => out (by kernel_rfl) hin) (Steps1.cons (fun hin _ _ _ _ _ => out (by kernel_rfl) hin) (Steps1.cons (fun hin _ _ _ _ _ => out (by kernel_rfl) hin) (Steps1.cons (fun hin _ _ _ _ _ => out (by kernel_rfl) hin) (Steps1.cons (fun hin _ _ _ _ _ => out (by kernel_rfl) hin) (Steps1.cons (fun hin _ _ _ _ _ => out (by kernel_rfl) hin) (Steps1.cons (fun hin _ _ _ _ _ => out (by kernel_rfl) hin) (Steps1.cons (fun hin _ _ _ _ _ => out (by kernel_rfl) hin) Steps1.nil)))))))))))))))))))
    · have q10 := hG.old 10 (by kernel_rfl) (by kernel_rfl)
      refine step_slot rfl rfl rfl (step_value (v := .slice A2 n2 c2) (w' := wx) rfl rfl ?_ (Below.refl _ _) (fun d hd => by cases hd; exact rfl))
      go_simp
    · obtain ⟨v1, q1, h1⟩ := hG.new 52 (by kernel_rfl) (by kernel_rfl)
      obtain ⟨_, q2, rfl⟩ := hG.new 53 (by kernel_rfl) (by kernel_rfl)
      have hown : wx.ownsRow wz.heap.size 44 2 v1 n1 (a.flatMap Pr.cells) := (show 1 = 1 → _ from h1) rfl
      obtain ⟨v2, w2, hr, hown2, hg⟩ := run_append_prs wx 28 wz.heap.size v1 n1 _ hown wx.heap.size A2 n2 c2 b HN2.out (HC2.out wx hS) HY2.out (by have := HLL.out; have := HN1.out; have := HN2.out; omega) hS.size
      have hS2 : Below wz.heap.size wz w2 := hS.grown hg hS.size (fun k hk => (own_lt hown hk).1)
      refine step_marked (v := v2) (w' := w2) rfl rfl rfl rfl ?_ hS2 trivial ?_ ?_
      · have e1 : ax.eval (.tmp 52) = v1 := by simp [Act.eval, q1]
        have e2 : ax.eval (.tmp 53) = .slice A2 n2 c2 := by simp [Act.eval, q2]
        unfold execOp
        simp only [resolve, invoke, builtin, Sem.run_bind, Sem.run_pure, Result.andThen_ok, List.map_toArray, List.map_cons, List.map_nil, e1, e2, hr]
      · exact fun _ => (by rw [List.flatMap_append]; exact hown2)
      · intro t u _ ht hu hV
        unfold RangesV at hV ⊢
        split at hV
        · exact fun h => absurd h (by decide)
        · exact hV
        · exact fun h => absurd h (by decide)
        · exact hV
        · exact absurd rfl ht
        · exact hV
        · exact hV
        · exact hV
        · exact hV
        · exact hV
        · exact absurd (hV.1) (by decide)
        · exact hV
        · exact hV
        · exact absurd (hV.1) (by decide)
        · exact hV
        · exact hV
        · exact hV
        · exact hV
        · exact hV
        · exact hV
        · trivial
    · have q11 := hG.old 11 (by kernel_rfl) (by kernel_rfl)
      refine step_slot rfl rfl rfl (step_value (v := .slice A3 n3 c3) (w' := wx) rfl rfl ?_ (Below.refl _ _) (fun d hd => by cases hd; exact rfl))
      go_simp
  · skip
    refine Steps1.cons (fun hin _ _ _ _ _ => out (by kernel_rfl) hin) (Steps1.cons (fun hin _ _ _ _ _ => out (by kernel_rfl) hin) (Steps1.cons (fun hin _ _ _ _ _ => out (by kernel_rfl) hin) (Steps1.cons (fun hin _ _ _ _ _ => out (by kernel_rfl) hin) (Steps1.cons (fun hin _ _ _ _ _ => out (by kernel_rfl) hin) (Steps1.cons (fun _ ax wx hS hJ hG => ?_) (Steps1.cons (fun _ ax wx hS hJ hG => ?_) (Steps1.cons (fun _ ax wx hS hJ hG => ?_) (Steps1.cons (fun _ ax wx hS hJ hG => ?_) (Steps1.cons (fun _ ax wx hS hJ hG => ?_) (Steps1.cons (fun _ ax wx hS hJ hG => ?_) (Steps1.cons (fun _ ax wx hS hJ hG => ?_) (Steps1.cons (fun _ ax wx hS hJ hG => ?_) (Steps1.cons (fun _ ax wx hS hJ hG => ?_) (Steps1.cons (fun _ ax wx hS hJ hG => ?_) (Steps1.cons (fun _ ax wx hS hJ hG => ?_) (Steps1.cons (fun _ ax wx hS hJ hG => ?_) (Steps1.cons (fun _ ax wx hS hJ hG => ?_) (Steps1.cons (fun _ ax wx hS hJ hG => ?_) (Steps1.cons (fun _ ax wx hS hJ hG => ?_) Steps1.nil)))))))))))))))))))
    · have q11 := hG.old 11 (by kernel_rfl) (by kernel_rfl)
      refine step_slot rfl rfl rfl (step_value (v := .slice A3 n3 c3) (w' := wx) rfl rfl ?_ (Below.refl _ _) (fun d hd => by cases hd; exact rfl))
      go_simp
    · obtain ⟨v54, q54, h54⟩ := hG.new 54 (by kernel_rfl) (by kernel_rfl)
      obtain ⟨_, q55, rfl⟩ := hG.new 55 (by kernel_rfl) (by kernel_rfl)
      have p54 : PV wx v54 (a ++ b) := PV.own ((show 2 = 2 → wx.ownsRow wz.heap.size 44 2 v54 (n1 + n2) ((a ++ b).flatMap Pr.cells) from h54) rfl) (by rw [List.length_append, HN1.out, HN2.out])
      clear h54
      refine step_slot rfl rfl rfl (step_call (w1 := wx) (f := 16) (args := #[v54, .slice A3 n3 c3]) rfl rfl ?_ ((HSA.out wx v54 p54 (HC3.out wx hS)).mono ?_))
      · clear p54
        go_simp
      · rintro e w' ⟨rfl, hq⟩
        exact ⟨_, rfl, hq, fun d hd => by cases hd; exact rfl⟩
    · obtain ⟨_, q56, rfl⟩ := hG.new 56 (by kernel_rfl) (by kernel_rfl)
      refine step_slot rfl rfl rfl (step_value (v := .bool true) (w' := wx) rfl rfl ?_ (Below.refl _ _) (fun d hd => by cases hd; exact rfl))
      go_simp
    · have q7 := hG.old 7 (by kernel_rfl) (by kernel_rfl)
      obtain ⟨_, q57, rfl⟩ := hG.new 57 (by kernel_rfl) (by kernel_rfl)
      obtain ⟨z0, z1, z2, z3⟩ := HCT.out wx hS
      refine step_slot rfl rfl rfl (step_value (v := .agg #[.string lo1, .slice ka1 kn1 kc1, .slice na1 nn1 nc1, .slice pa1 pn1 pc1]) (w' := wx) rfl (by simp [Region.wanted, yielded, q57]) ?_ (Below.refl _ _) (fun d hd => by cases hd; exact rfl))
      go_simp
    · have q5 := hG.old 5 (by kernel_rfl) (by kernel_rfl)
      obtain ⟨_, q57, rfl⟩ := hG.new 57 (by kernel_rfl) (by kernel_rfl)
      obtain ⟨z0, z1, z2⟩ := HCR.out wx hS
      refine step_slot rfl rfl rfl (step_value (v := .agg #[.string lo, .string hi, .bool op]) (w' := wx) rfl (by simp [Region.wanted, yielded, q57]) ?_ (Below.refl _ _) (fun d hd => by cases hd; exact rfl))
      go_simp
    · obtain ⟨_, q58, rfl⟩ := hG.new 58 (by kernel_rfl) (by kernel_rfl)
      obtain ⟨_, q59, rfl⟩ := hG.new 59 (by kernel_rfl) (by kernel_rfl)
      obtain ⟨_, q57, rfl⟩ := hG.new 57 (by kernel_rfl) (by kernel_rfl)
      refine step_slot rfl rfl rfl (step_call (w1 := wx) (f := 17) (args := #[.agg #[.string lo1, .slice ka1 kn1 kc1, .slice na1 nn1 nc1, .slice pa1 pn1 pc1], .agg #[.string lo, .string hi, .bool op]]) rfl (by simp [Region.wanted, yielded, q57]) ?_ ((HSC.out wx hS).mono ?_))
      · skip
        go_simp
      · rintro e w' ⟨v', rfl, hv, hq⟩
        exact ⟨_, rfl, hq, fun d hd => by cases hd; exact ⟨rfl, hv⟩⟩
    · have q5 := hG.old 5 (by kernel_rfl) (by kernel_rfl)
      obtain ⟨_, q57, rfl⟩ := hG.new 57 (by kernel_rfl) (by kernel_rfl)
      obtain ⟨z0, z1, z2⟩ := HCR.out wx hS
      refine step_slot rfl rfl rfl (step_value (v := .agg #[.string lo, .string hi, .bool op]) (w' := wx) rfl (by simp [Region.wanted, yielded, q57]) ?_ (Below.refl _ _) (fun d hd => by cases hd; exact rfl))
      go_simp
    · have q11 := hG.old 11 (by kernel_rfl) (by kernel_rfl)
      obtain ⟨_, q57, rfl⟩ := hG.new 57 (by kernel_rfl) (by kernel_rfl)
      refine step_slot rfl rfl rfl (step_value (v := .slice A3 n3 c3) (w' := wx) rfl (by simp [Region.wanted, yielded, q57]) ?_ (Below.refl _ _) (fun d hd => by cases hd; exact rfl))
      go_simp
    · obtain ⟨_, q61, rfl⟩ := hG.new 61 (by kernel_rfl) (by kernel_rfl)
      obtain ⟨_, q62, rfl⟩ := hG.new 62 (by kernel_rfl) (by kernel_rfl)
      obtain ⟨_, q57, rfl⟩ := hG.new 57 (by kernel_rfl) (by kernel_rfl)
      refine step_slot rfl rfl rfl (step_call (w1 := wx) (f := 18) (args := #[.agg #[.string lo, .string hi, .bool op], .slice A3 n3 c3]) rfl (by simp [Region.wanted, yielded, q57]) ?_ ((HPK.out wx hS).mono ?_))
      · skip
        go_simp
      · rintro e w' ⟨v', rfl, hv, hq⟩
        exact ⟨_, rfl, hq, fun d hd => by cases hd; exact ⟨rfl, hv⟩⟩
    · obtain ⟨v60, q60, h60⟩ := hG.new 60 (by kernel_rfl) (by kernel_rfl)
      have p60 : PV wx v60 q := (show 2 = 2 ∧ PV wx v60 q from h60).2
      obtain ⟨v63, q63, h63⟩ := hG.new 63 (by kernel_rfl) (by kernel_rfl)
      have p63 : PV wx v63 q := (show 2 = 2 ∧ PV wx v63 q from h63).2
      clear h60 h63
      obtain ⟨_, q57, rfl⟩ := hG.new 57 (by kernel_rfl) (by kernel_rfl)
      refine step_slot rfl rfl rfl (step_call (w1 := wx) (f := 16) (args := #[v60, v63]) rfl (by simp [Region.wanted, yielded, q57]) ?_ ((HSQ.out wx _ _ p60 p63).mono ?_))
      · clear p60 p63
        go_simp
      · rintro e w' ⟨rfl, hq⟩
        exact ⟨_, rfl, hq, fun d hd => by cases hd; exact rfl⟩
    · obtain ⟨_, q57, rfl⟩ := hG.new 57 (by kernel_rfl) (by kernel_rfl)
      obtain ⟨_, q64, rfl⟩ := hG.new 64 (by kernel_rfl) (by kernel_rfl)
      refine step_slot rfl rfl rfl (step_value (v := .bool true) (w' := wx) rfl rfl ?_ (Below.refl _ _) (fun d hd => by cases hd; exact rfl))
      go_simp
    · obtain ⟨_, q65, rfl⟩ := hG.new 65 (by kernel_rfl) (by kernel_rfl)
      refine step_slot rfl rfl rfl (step_value (v := .bool true) (w' := wx) rfl rfl ?_ (Below.refl _ _) (fun d hd => by cases hd; exact rfl))
      go_simp
    · obtain ⟨_, q66, rfl⟩ := hG.new 66 (by kernel_rfl) (by kernel_rfl)
      refine step_slot rfl rfl rfl (step_call (w1 := wx) (f := 9) (args := #[]) rfl (by simp [Region.wanted, yielded, q66]) ?_ ((awake_true wx).mono ?_))
      · skip
        go_simp
      · rintro e w' ⟨rfl, hq⟩
        exact ⟨_, rfl, hq, fun d hd => by cases hd; exact rfl⟩
    · obtain ⟨_, q66, rfl⟩ := hG.new 66 (by kernel_rfl) (by kernel_rfl)
      obtain ⟨_, q67, rfl⟩ := hG.new 67 (by kernel_rfl) (by kernel_rfl)
      refine step_slot rfl rfl rfl (step_value (v := .bool true) (w' := wx) rfl rfl ?_ (Below.refl _ _) (fun d hd => by cases hd; exact rfl))
      go_simp
    · obtain ⟨_, q68, rfl⟩ := hG.new 68 (by kernel_rfl) (by kernel_rfl)
      refine step_slot rfl rfl rfl (step_value (v := .bool true) (w' := wx) rfl rfl ?_ (Below.refl _ _) (fun d hd => by cases hd; exact rfl))
      go_simp
  intro gg wa hSa _ hVa
  have e6 : gg 6 = .bool true := hVa 6 (by decide)
  simp only [puts, Act.put, List.setIfInBounds_toArray, List.set_cons_succ, List.set_cons_zero]
  clear hVa
  rw [e6]
  have HBa := Lib.hid (HB7.out.trans (hSa.mono HB7.out.size))
  clear hSa e6
  go_wp2
  go_ret
  exact ⟨rfl, HBa.out⟩

end Go.Proofs.Yteddjmkoleclpaa
