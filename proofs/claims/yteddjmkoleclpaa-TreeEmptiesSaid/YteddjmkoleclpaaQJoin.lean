/- The walk of joined. -/
import Derived.Test.YteddjmkoleclpaaPP
import Derived.Test.YteddjmkoleclpaaWBoth
import Derived.Test.YteddjmkoleclpaaNBS
import Derived.Test.YteddjmkoleclpaaRStep
import Derived.Lib.SmallJoins
set_option linter.unusedVariables false
set_option linter.unusedSimpArgs false
namespace Go.Proofs.Yteddjmkoleclpaa
open Go.RowKit Go.Lib Go.Sort

def JoinV (SL PA YA XA BA : Value) (p : Nat) (_ t : Nat) (v : Value) (_ : World) : Prop :=
  match t with
  | 28 => v = SL
  | 29 => v = .int .i64 p
  | 30 => v = SL
  | 31 => v = .int .i64 p
  | 32 => v = PA
  | 33 => v = YA
  | 34 => v = XA
  | 35 => v = BA
  | 36 => v = PA
  | _ => True
/-- What holds while the last one is put in: until then the row reads as it did; then it holds what was put. -/
def JoinS (w wd : World) (U : Value) (m : Nat) (xs : List Value) (p : Nat) (wx : World) : Prop := Below w.heap.size w wx ∧ (p = 0 → Below wd.heap.size wd wx) ∧ (p = 1 → wx.ownsRow w.heap.size 52 4 U m xs)
theorem JoinS.on {w wd : World} {U : Value} {m : Nat} {xs : List Value} {p : Nat} {wa wb : World} (h : JoinS w wd U m xs p wa) (hb : Below wa.heap.size wa wb) : JoinS w wd U m xs p wb :=
  ⟨h.1.trans (hb.mono h.1.size), fun e => (h.2.1 e).trans (hb.mono (h.2.1 e).size), fun e => own_below (h.2.2 e) hb⟩
/-- One more that is written over. -/
theorem stored4 {w : World} {base e g cap n k : Nat} {Q : List Value} {a b c d : Value} (h : w.ownsRow base e 4 (.slice (some ⟨g, 0, none⟩) n cap) n (Q ++ [a, b, c, d])) (hk : Q.length = k) (a' b' c' d' : Value) :
    ((((w.setCell ⟨g, k, none⟩ a').setCell ⟨g, k + 1, none⟩ b').setCell ⟨g, k + 2, none⟩ c').setCell ⟨g, k + 3, none⟩ d').ownsRow base e 4 (.slice (some ⟨g, 0, none⟩) n cap) n (Q ++ [a', b', c', d']) := by
  have h1 := (h.stored k a').1
  have h2 := (h1.stored (k + 1) b').1
  have h3 := (h2.stored (k + 2) c').1
  have h4 := (h3.stored (k + 3) d').1
  subst hk
  simpa [List.set_append_right] using h4
theorem below_put4 {w w' : World} {B g k : Nat} (h : Below B w w') (hg : B ≤ g) (a b c d : Value) : Below B w ((((w'.setCell ⟨g, k, none⟩ a).setCell ⟨g, k + 1, none⟩ b).setCell ⟨g, k + 2, none⟩ c).setCell ⟨g, k + 3, none⟩ d) :=
  (((h.setCell hg _).setCell hg _).setCell hg _).setCell hg _

set_option maxHeartbeats 4000000 in
set_option maxRecDepth 100000 in
theorem joined_any (A : Option Addr) (c : Nat) (s : List Nt) (w : World) (hA : Nts w w.heap.size A s) (hr : Rising s) (hn : s.length ≤ 100000) :
    Calls Try.prog 41 #[.slice A s.length c] w fun e w' => ∃ v, e = .returned v ∧ w'.ownsRow w.heap.size 52 4 v (accJ s s.length).length ((accJ s s.length).flatMap Nt.cells) ∧ Below w.heap.size w w' := by
  obtain ⟨n, hl⟩ : ∃ n, s.length = n := ⟨_, rfl⟩
  rw [hl] at hn ⊢
  have HL := Lib.hid hl
  have HA := Lib.hid hA
  have HR := Lib.hid hr
  clear hl hA hr
  go_enter Try.func41, Try.ntmps41
  go_wp2
  go_loopw [3, 9] (fun av iv wr => ∃ (k m : Nat), iv = .int .i64 k ∧ k ≤ n ∧ Hid (m = (accJ s k).length) ∧ Hid (wr.ownsRow w.heap.size 52 4 av m ((accJ s k).flatMap Nt.cells)) ∧ Below w.heap.size w wr) (fun _ iv _ => (n - intOf iv).toNat)
  case atStart => exact ⟨0, 0, rfl, by omega, by show _ = _; rfl, by show World.ownsRow _ _ _ _ _ _ _; exact World.ownsRow_nil _ _ _ _, Below.refl _ _⟩
  case round =>
    obtain ⟨k, m, rfl, hk, HM, HO, hbr⟩ := hrel
    have hbs := hbr.size
    by_cases hlt : k < n
    · have HMB := Lib.hid (show m ≤ 100000 from by have h1 := acc_len s k; have h2 := HM.out; omega)
      have hkl : k < s.length := by rw [HL.out]; exact hlt
      obtain ⟨adr, rfl, hab, hca⟩ := (HA.out.below hbr).seeN (by rw [HL.out]; omega)
      obtain ⟨c1, c2, c3, c4⟩ := hca k hkl
      obtain ⟨x, hx⟩ : ∃ x, x = s[k]'hkl := ⟨_, rfl⟩
      rw [← hx] at c1 c2 c3 c4
      have HX := Lib.hid hx
      clear hx hca
      obtain ⟨xk, xe, xv, xn⟩ := x
      simp only at c1 c2 c3 c4
      obtain ⟨g, hg⟩ : ∃ g, g = wr.heap.size := ⟨_, rfl⟩
      obtain ⟨w1, hw1⟩ : ∃ w1, w1 = wr.alloc (.cells #[.int .i64 xk, .string xe, .string xv, .int .u64 (xn.toNat : Int)] 52) := ⟨_, rfl⟩
      have hb1 : Below w.heap.size w w1 := by rw [hw1]; exact hbr.alloc hbs _
      have BX1 := Lib.hid (show NBlk w1 g (⟨xk, xe, xv, xn⟩ : Nt) from by rw [hw1]; exact Box.at_ wr _ _ hg)
      have O1 := Lib.hid (show w1.ownsRow w.heap.size 52 4 u3 m ((accJ s k).flatMap Nt.cells) from by rw [hw1]; exact HO.out.alloc _)
      by_cases hm0 : m = 0
      · have HST := Lib.hid (show accJ s (k + 1) = accJ s k ++ [(⟨xk, xe, xv, xn⟩ : Nt)] from by
          rw [HX.out]
          refine acc_new HR.out hkl fun q y e => ?_
          have h1 := HM.out
          rw [e] at h1
          simp at h1
          omega)
        have HM0 := Lib.hid hm0
        obtain ⟨A1, c1', rfl⟩ := own_shape HO.out
        have wm : IntKind.i64.wrap ((m : Int) - 1) = -1 := by rw [hm0]; rfl
        have hdn : decide ((0 : Int) ≤ -1) = false := rfl
        clear hm0 HO
        go_upto_region 5 with fail
        rw [← hg, ← hw1]
        clear hg hw1 c1 c2 c3 c4
        obtain ⟨b1, b2, b3, b4⟩ := NBlk.cells BX1.out
        simp only at b1 b2 b3 b4
        go_wp2
        go_quiet (fail)
        obtain ⟨wd, hwd⟩ : ∃ wz, wz = w1.drewN nq := ⟨_, rfl⟩
        rw [← hwd]
        have hbd : Below w.heap.size w wd := by rw [hwd]; exact below_drewN hb1 _
        have D5 := Lib.hid (show wd.ownsRow w.heap.size 52 4 (.slice A1 m c1') m ((accJ s k).flatMap Nt.cells) from by rw [hwd]; exact own_below O1.out (below_drewN (Below.refl _ _) _))
        have NX := Lib.hid (show NBlk wd g (⟨xk, xe, xv, xn⟩ : Nt) from by rw [hwd]; exact NBlk.on BX1.out (below_drewN (Below.refl _ _) _))
        clear hwd
        obtain ⟨b1, b2, b3, b4⟩ := NBlk.cells NX.out
        simp only at b1 b2 b3 b4
        have hownA := D5.out
        have hbsA := hbd.size
        go_wp2_with (at_builtin; refine append_nts _ rfl _ _ rfl w.heap.size _ m ((accJ s k).flatMap Nt.cells) rfl (hownA.alloc _) (wd.heap.size + 1) (some ⟨wd.heap.size, 0, none⟩) 1 1 [(⟨xk, xe, xv, xn⟩ : Nt)] rfl rfl ?a1 (fun h => by cases h) ?a2 ?a3 ?_)
        case a1 => exact Lies.lit Nt.cells4 rfl
        case a2 => have := HMB.out; omega
        case a3 => first | omega | (simp; omega)
        intro v6 wf hown2 hg2
        have hk2 : ∀ k, Value.ownBlock _ = some k → w.heap.size ≤ k := fun k hk => (own_lt hownA hk).1
        have hbf : Below w.heap.size w wf := (hbd.alloc hbsA _).grown hg2 (by simp; omega) hk2
        have F5 := Lib.hid (show wf.ownsRow w.heap.size 52 4 v6 (m + 1) ((accJ s (k + 1)).flatMap Nt.cells) from by show World.ownsRow _ _ _ _ _ _ _; rw [HST.out, List.flatMap_append]; simpa using hown2)
        have M5 := Lib.hid (show m + 1 = (accJ s (k + 1)).length from by rw [HST.out, List.length_append, ← HM.out]; rfl)
        clear hownA hbsA hown2 hg2 hk2 b1 b2 b3 b4 D5 NX
        go_wp2
        go_roundw
        case rel => exact ⟨k + 1, m + 1, by go_num, by omega, M5, F5, hbf⟩
        case measure => simp [intOf]; omega
      · have hmp : 0 < m := by omega
        obtain ⟨g2, cap, rfl⟩ := Joins.ownsRow_form HO.out hmp
        have hga := (HO.out.lt g2 rfl)
        obtain ⟨p, hp⟩ : ∃ p, p = m - 1 := ⟨_, rfl⟩
        have wm : IntKind.i64.wrap ((m : Int) - 1) = (p : Int) := by rw [IntKind.wrap_i64]; have := HMB.out; omega
        have hpm : p < m := by omega
        have hdn : decide ((0 : Int) ≤ (p : Int)) = true := by simp
        obtain ⟨q, y, hqy⟩ : ∃ q y, accJ s k = q ++ [y] := by
          rcases List.eq_nil_or_concat (accJ s k) with h0 | ⟨q, y, h0⟩
          · have h1 := HM.out
            rw [h0] at h1
            simp at h1
            omega
          · exact ⟨q, y, by rw [h0, List.concat_eq_append]⟩
        have hql : q.length = p := by
          have h1 := HM.out
          rw [hqy] at h1
          simp at h1
          omega
        obtain ⟨P, hP⟩ : ∃ P, P = p * 4 := ⟨_, rfl⟩
        obtain ⟨Q, hQ⟩ : ∃ Q, Q = q.flatMap Nt.cells := ⟨_, rfl⟩
        have HQP := Lib.hid (show Q.length = P from by rw [hQ, nts_len, hql, hP])
        have HQY := Lib.hid hqy
        have HQ := Lib.hid hQ
        obtain ⟨ad, had⟩ : ∃ ad, ad = (⟨g2, 0, none⟩ : Addr) := ⟨_, rfl⟩
        have hpa : ad.add (p * 4) = ⟨g2, P, none⟩ := by rw [had, hP]; unfold Addr.add; split <;> simp_all
        have HG2 := Lib.hid hga.1
        obtain ⟨yk, ye, yv, yn⟩ := y
        have hro : (accJ s k).flatMap Nt.cells = Q ++ (⟨yk, ye, yv, yn⟩ : Nt).cells := by rw [hqy, hQ, List.flatMap_append]; simp
        have HRO := Lib.hid hro
        have HCW := Lib.hid (show ∀ wx, Below w1.heap.size w1 wx → wx.cell? ⟨g2, P, none⟩ = some (.int .i64 yk) ∧ wx.cell? ⟨g2, P + 1, none⟩ = some (.string ye) ∧ wx.cell? ⟨g2, P + 2, none⟩ = some (.string yv) ∧ wx.cell? ⟨g2, P + 3, none⟩ = some (.int .u64 (yn.toNat : Int)) from fun wx hS => by
          have h1 := own_below O1.out hS
          rw [HRO.out] at h1
          have hq := HQP.out
          have hl4 : P + 4 = m * 4 := by omega
          refine ⟨?_, ?_, ?_, ?_⟩
          · rw [h1.cellAt P (by omega), List.getElem?_append_right (by omega), hq]; simp [Nt.cells]
          · rw [h1.cellAt (P + 1) (by omega), List.getElem?_append_right (by omega), hq]; simp [Nt.cells]
          · rw [h1.cellAt (P + 2) (by omega), List.getElem?_append_right (by omega), hq]; simp [Nt.cells]
          · rw [h1.cellAt (P + 3) (by omega), List.getElem?_append_right (by omega), hq]; simp [Nt.cells])
        have HAD := Lib.hid had
        rw [← had] at O1 ⊢
        have HPA := Lib.hid hpa
        have HPM := Lib.hid hpm
        clear had hP hQ hqy hql hp hga hro hm0 hmp HO
        go_upto_region 5 with fail
        rw [← hg, ← hw1]
        clear hg hw1 c1 c2 c3 c4
        obtain ⟨b1, b2, b3, b4⟩ := NBlk.cells BX1.out
        obtain ⟨d1, d2, d3, d4⟩ := HCW.out w1 (Below.refl _ _)
        simp only at b1 b2 b3 b4
        by_cases hkk : ye = xe
        · have hz := str_eq hkk
          have HST := Lib.hid (show accJ s (k + 1) = q ++ [bothN (⟨yk, ye, yv, yn⟩ : Nt) (⟨xk, xe, xv, xn⟩ : Nt)] from by
            rw [HX.out]
            exact acc_same hkl HQY.out (by rw [← HX.out]; exact hkk))
          have hboth := fun wx => both_any yk ye yv yn xk xe xv xn wx
          obtain ⟨b, hb⟩ : ∃ b, b = bothN ⟨yk, ye, yv, yn⟩ ⟨xk, xe, xv, xn⟩ := ⟨_, rfl⟩
          rw [← hb] at hboth
          have HBB := Lib.hid hb
          clear hb
          obtain ⟨bk, be, bv, bn⟩ := b
          have HBOTH := Lib.hid hboth
          unfold Nt.v at HBOTH
          simp only at HBOTH
          clear hboth hkk
          go_wp2
          go_quiet (fail)
          obtain ⟨wd, hwd⟩ : ∃ wz, wz = w1.drewN nq := ⟨_, rfl⟩
          rw [← hwd]
          have hbd : Below w.heap.size w wd := by rw [hwd]; exact below_drewN hb1 _
          have D5 := Lib.hid (show wd.ownsRow w.heap.size 52 4 (.slice (some ad) m cap) m (Q ++ (⟨yk, ye, yv, yn⟩ : Nt).cells) from by rw [hwd]; rw [← HRO.out]; exact own_below O1.out (below_drewN (Below.refl _ _) _))
          have NX := Lib.hid (show NBlk wd g (⟨xk, xe, xv, xn⟩ : Nt) from by rw [hwd]; exact NBlk.on BX1.out (below_drewN (Below.refl _ _) _))
          have WDC := Lib.hid (HCW.out wd (by rw [hwd]; exact below_drewN (Below.refl _ _) _))
          clear hwd
          have HCY := Lib.hid (show ∀ wx, JoinS w wd (.slice (some ad) m cap) m (Q ++ (⟨bk, be, bv, bn⟩ : Nt).cells) 0 wx → wx.cell? ⟨g2, P, none⟩ = some (.int .i64 yk) ∧ wx.cell? ⟨g2, P + 1, none⟩ = some (.string ye) ∧ wx.cell? ⟨g2, P + 2, none⟩ = some (.string yv) ∧ wx.cell? ⟨g2, P + 3, none⟩ = some (.int .u64 (yn.toNat : Int)) from fun wx hS => by
            obtain ⟨e1, e2, e3, e4⟩ := WDC.out
            have hS2 := hS.2.1 rfl
            exact ⟨(hS2.cell (lt_of_cell e1)).trans e1, (hS2.cell (lt_of_cell e2)).trans e2, (hS2.cell (lt_of_cell e3)).trans e3, (hS2.cell (lt_of_cell e4)).trans e4⟩)
          have HCN := Lib.hid (show ∀ wx, JoinS w wd (.slice (some ad) m cap) m (Q ++ (⟨bk, be, bv, bn⟩ : Nt).cells) 0 wx → _ from fun wx hS => NBlk.cells (NX.out.on (hS.2.1 rfl)))
          clear b1 b2 b3 b4 d1 d2 d3 d4
          go_wp2
          refine wp_region_phase 12 [28, 29, 30, 31, 32, 33, 34, 35, 36] (by kernel_rfl) [9] [] (fun _ _ => True) 1 rfl (by kernel_rfl) (JoinS w wd (.slice (some ad) m cap) m (Q ++ (⟨bk, be, bv, bn⟩ : Nt).cells)) (fun wa wb => Below wa.heap.size wa wb) (JoinV (.slice (some ad) m cap) (.pointer (some ⟨g2, P, none⟩)) (.agg #[.int .i64 yk, .string ye, .string yv, .int .u64 (yn.toNat : Int)]) (.agg #[.int .i64 xk, .string xe, .string xv, .int .u64 (xn.toNat : Int)]) (.agg #[.int .i64 bk, .string be, .string bv, .int .u64 (bn.toNat : Int)]) p) (by kernel_rfl) (fun _ wa wb h1 h2 => h2.on h1) (fun _ t v wa wb h1 h2 => h2) (fun _ _ _ _ _ _ _ => trivial) ⟨below_drewN hbd _, fun _ => below_drewN (Below.refl _ _) _, fun h => absurd h (by decide)⟩ trivial (phase1 ?_ ?_) ?_
          · skip
            refine Steps1.cons (fun _ ax wx hS hJ hG => ?_) (Steps1.cons (fun _ ax wx hS hJ hG => ?_) (Steps1.cons (fun _ ax wx hS hJ hG => ?_) (Steps1.cons (fun _ ax wx hS hJ hG => ?_) (Steps1.cons (fun _ ax wx hS hJ hG => ?_) (Steps1.cons (fun _ ax wx hS hJ hG => ?_) (Steps1.cons (fun _ ax wx hS hJ hG => ?_) (Steps1.cons (fun _ ax wx hS hJ hG => ?_) (Steps1.cons (fun _ ax wx hS hJ hG => ?_) (Steps1.cons (fun _ ax wx hS hJ hG => ?_) Steps1.nil)))))))))
            · have q3 := hG.old 3 (by kernel_rfl) (by kernel_rfl)
              refine step_slot rfl rfl rfl (step_value (v := .slice (some ad) m cap) (w' := wx) rfl rfl ?_ (Below.refl _ _) (fun d hd => by cases hd; exact rfl))
              go_simp
            · have q6 := hG.old 6 (by kernel_rfl) (by kernel_rfl)
              refine step_slot rfl rfl rfl (step_value (v := .int .i64 p) (w' := wx) rfl rfl ?_ (Below.refl _ _) (fun d hd => by cases hd; exact rfl))
              go_simp
            · have q3 := hG.old 3 (by kernel_rfl) (by kernel_rfl)
              refine step_slot rfl rfl rfl (step_value (v := .slice (some ad) m cap) (w' := wx) rfl rfl ?_ (Below.refl _ _) (fun d hd => by cases hd; exact rfl))
              go_simp
            · have q6 := hG.old 6 (by kernel_rfl) (by kernel_rfl)
              refine step_slot rfl rfl rfl (step_value (v := .int .i64 p) (w' := wx) rfl rfl ?_ (Below.refl _ _) (fun d hd => by cases hd; exact rfl))
              go_simp
            · obtain ⟨_, q30, rfl⟩ := hG.new 30 (by kernel_rfl) (by kernel_rfl)
              obtain ⟨_, q31, rfl⟩ := hG.new 31 (by kernel_rfl) (by kernel_rfl)
              refine step_slot rfl rfl rfl (step_value (v := .pointer (some ⟨g2, P, none⟩)) (w' := wx) rfl rfl ?_ (Below.refl _ _) (fun d hd => by cases hd; exact rfl))
              have hpm := HPM.out
              have hpa := HPA.out
              go_simp
            · obtain ⟨_, q32, rfl⟩ := hG.new 32 (by kernel_rfl) (by kernel_rfl)
              obtain ⟨z0, z1, z2, z3⟩ := HCY.out wx hS
              refine step_slot rfl rfl rfl (step_value (v := .agg #[.int .i64 yk, .string ye, .string yv, .int .u64 (yn.toNat : Int)]) (w' := wx) rfl rfl ?_ (Below.refl _ _) (fun d hd => by cases hd; exact rfl))
              go_simp
            · have q5 := hG.old 5 (by kernel_rfl) (by kernel_rfl)
              obtain ⟨z0, z1, z2, z3⟩ := HCN.out wx hS
              refine step_slot rfl rfl rfl (step_value (v := .agg #[.int .i64 xk, .string xe, .string xv, .int .u64 (xn.toNat : Int)]) (w' := wx) rfl rfl ?_ (Below.refl _ _) (fun d hd => by cases hd; exact rfl))
              go_simp
            · obtain ⟨_, q33, rfl⟩ := hG.new 33 (by kernel_rfl) (by kernel_rfl)
              obtain ⟨_, q34, rfl⟩ := hG.new 34 (by kernel_rfl) (by kernel_rfl)
              refine step_slot rfl rfl rfl (step_call (w1 := wx) (f := 68) (args := #[.agg #[.int .i64 yk, .string ye, .string yv, .int .u64 (yn.toNat : Int)], .agg #[.int .i64 xk, .string xe, .string xv, .int .u64 (xn.toNat : Int)]]) rfl rfl ?_ ((HBOTH.out wx).mono ?_))
              · skip
                go_simp
              · rintro e w' ⟨rfl, hq⟩
                exact ⟨_, rfl, hq, fun d hd => by cases hd; exact rfl⟩
            · obtain ⟨_, q28, rfl⟩ := hG.new 28 (by kernel_rfl) (by kernel_rfl)
              obtain ⟨_, q29, rfl⟩ := hG.new 29 (by kernel_rfl) (by kernel_rfl)
              refine step_slot rfl rfl rfl (step_value (v := .pointer (some ⟨g2, P, none⟩)) (w' := wx) rfl rfl ?_ (Below.refl _ _) (fun d hd => by cases hd; exact rfl))
              have hpm := HPM.out
              have hpa := HPA.out
              go_simp
            · obtain ⟨_, q35, rfl⟩ := hG.new 35 (by kernel_rfl) (by kernel_rfl)
              obtain ⟨_, q36, rfl⟩ := hG.new 36 (by kernel_rfl) (by kernel_rfl)
              have hown := own_below D5.out (hS.2.1 rfl)
              rw [HAD.out] at hown
              have f0 := hown.frozenAt P
              have f1 := hown.frozenAt (P + 1)
              have f2 := hown.frozenAt (P + 2)
              have f3 := hown.frozenAt (P + 3)
              obtain ⟨z0, z1, z2, z3⟩ := HCY.out wx hS
              refine step_store (w' := ((((wx.setCell ⟨g2, P, none⟩ (.int .i64 bk)).setCell ⟨g2, P + 1, none⟩ (.string be)).setCell ⟨g2, P + 2, none⟩ (.string bv)).setCell ⟨g2, P + 3, none⟩ (.int .u64 (bn.toNat : Int)))) rfl rfl rfl rfl ?_ (show JoinS w wd (.slice (some ad) m cap) m (Q ++ (⟨bk, be, bv, bn⟩ : Nt).cells) 1 _ from ⟨below_put4 hS.1 HG2.out _ _ _ _, fun h => absurd h (by decide), fun _ => by rw [HAD.out]; exact stored4 (k := P) hown HQP.out _ _ _ _⟩) trivial ?_
              · clear hown hS
                go_simp
              · intro t u _ hu hV
                exact hV
          · skip
            refine Steps1.cons (fun hin _ _ _ _ _ => out (by kernel_rfl) hin) (Steps1.cons (fun hin _ _ _ _ _ => out (by kernel_rfl) hin) (Steps1.cons (fun hin _ _ _ _ _ => out (by kernel_rfl) hin) (Steps1.cons (fun hin _ _ _ _ _ => out (by kernel_rfl) hin) (Steps1.cons (fun hin _ _ _ _ _ => out (by kernel_rfl) hin) (Steps1.cons (fun hin _ _ _ _ _ => out (by kernel_rfl) hin) (Steps1.cons (fun hin _ _ _ _ _ => out (by kernel_rfl) hin) (Steps1.cons (fun hin _ _ _ _ _ => out (by kernel_rfl) hin) (Steps1.cons (fun hin _ _ _ _ _ => out (by kernel_rfl) hin) (Steps1.cons (fun hin _ _ _ _ _ => out (by kernel_rfl) hin) Steps1.nil)))))))))
          intro gg wa hSa _ hVa
          simp only [puts, Act.put, List.setIfInBounds_toArray, List.set_cons_succ, List.set_cons_zero]
          clear hVa
          generalize gg 28 = f28 at *
          generalize gg 29 = f29 at *
          generalize gg 30 = f30 at *
          generalize gg 31 = f31 at *
          generalize gg 32 = f32 at *
          generalize gg 33 = f33 at *
          generalize gg 34 = f34 at *
          generalize gg 35 = f35 at *
          generalize gg 36 = f36 at *
          have hown5 := Lib.hid (hSa.2.2 rfl)
          have hba : Below w.heap.size w wa := hSa.1
          clear hSa
          go_wp2
          go_roundw
          case rel => exact ⟨k + 1, m, by go_num, by omega, by show _ = _; rw [HST.out, HM.out, HQY.out]; simp, by show World.ownsRow _ _ _ _ _ _ _; rw [HST.out, ← HBB.out, List.flatMap_append, ← HQ.out]; simpa using hown5.out, hba⟩
          case measure => simp [intOf]; omega
        · have hz := str_ne hkk
          have HST := Lib.hid (show accJ s (k + 1) = accJ s k ++ [(⟨xk, xe, xv, xn⟩ : Nt)] from by
            rw [HX.out]
            refine acc_new HR.out hkl fun q' y' e => ?_
            rw [HQY.out] at e
            have e1 := List.append_inj_right' e rfl
            injection e1 with e1
            rw [← e1, ← HX.out]
            exact hkk)
          clear hkk
          go_wp2
          go_quiet (fail)
          obtain ⟨wd, hwd⟩ : ∃ wz, wz = w1.drewN nq := ⟨_, rfl⟩
          rw [← hwd]
          have hbd : Below w.heap.size w wd := by rw [hwd]; exact below_drewN hb1 _
          have D5 := Lib.hid (show wd.ownsRow w.heap.size 52 4 (.slice (some ad) m cap) m ((accJ s k).flatMap Nt.cells) from by rw [hwd]; exact own_below O1.out (below_drewN (Below.refl _ _) _))
          have NX := Lib.hid (show NBlk wd g (⟨xk, xe, xv, xn⟩ : Nt) from by rw [hwd]; exact NBlk.on BX1.out (below_drewN (Below.refl _ _) _))
          clear hwd
          obtain ⟨b1, b2, b3, b4⟩ := NBlk.cells NX.out
          simp only at b1 b2 b3 b4
          have hownA := D5.out
          have hbsA := hbd.size
          go_wp2_with (at_builtin; refine append_nts _ rfl _ _ rfl w.heap.size _ m ((accJ s k).flatMap Nt.cells) rfl (hownA.alloc _) (wd.heap.size + 1) (some ⟨wd.heap.size, 0, none⟩) 1 1 [(⟨xk, xe, xv, xn⟩ : Nt)] rfl rfl ?a1 (fun h => by cases h) ?a2 ?a3 ?_)
          case a1 => exact Lies.lit Nt.cells4 rfl
          case a2 => have := HMB.out; omega
          case a3 => first | omega | (simp; omega)
          intro v6 wf hown2 hg2
          have hk2 : ∀ k, Value.ownBlock _ = some k → w.heap.size ≤ k := fun k hk => (own_lt hownA hk).1
          have hbf : Below w.heap.size w wf := (hbd.alloc hbsA _).grown hg2 (by simp; omega) hk2
          have F5 := Lib.hid (show wf.ownsRow w.heap.size 52 4 v6 (m + 1) ((accJ s (k + 1)).flatMap Nt.cells) from by show World.ownsRow _ _ _ _ _ _ _; rw [HST.out, List.flatMap_append]; simpa using hown2)
          have M5 := Lib.hid (show m + 1 = (accJ s (k + 1)).length from by rw [HST.out, List.length_append, ← HM.out]; rfl)
          clear hownA hbsA hown2 hg2 hk2 b1 b2 b3 b4 D5 NX
          go_wp2
          go_roundw
          case rel => exact ⟨k + 1, m + 1, by go_num, by omega, M5, F5, hbf⟩
          case measure => simp [intOf]; omega
    · have hkn : k = n := by omega
      have HE := Lib.hid (show m = (accJ s n).length ∧ wr.ownsRow w.heap.size 52 4 u3 m ((accJ s n).flatMap Nt.cells) from by rw [← hkn]; exact ⟨HM.out, HO.out⟩)
      clear hkn HM HO
      go_wp2
      go_ret
      exact ⟨_, rfl, by rw [← HE.out.1]; exact HE.out.2, hbr⟩

end Go.Proofs.Yteddjmkoleclpaa
