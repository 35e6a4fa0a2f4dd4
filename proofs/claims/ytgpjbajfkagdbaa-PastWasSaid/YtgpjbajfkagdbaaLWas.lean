/- The walk of PastWas. -/
import Derived.Test.YtgpjbajfkagdbaaAW
import Derived.Test.YtgpjbajfkagdbaaAL
set_option linter.unusedVariables false
set_option linter.unusedSimpArgs false
namespace Go.Proofs.Ytgpjbajfkagdbaa
open Go.RowKit

theorem NVB.take {B : Nat} {w : World} {A : Option Addr} {n c : Nat} {ps : List (List Nt)} (h : NVB B w (.slice A n c) ps) {k : Nat} (hk : k ≤ ps.length) : NVB B w (.slice A k c) (ps.take k) := by
  obtain ⟨A', c', vs, e, hl, hp, h2, h3, h4⟩ := h
  injection e with e1 e2 e3
  subst e1 e3
  refine ⟨A, c, vs.take k, by rw [List.length_take, Nat.min_eq_left hk], by rw [List.length_take, List.length_take, hl], hp.take k, fun i hi => ?_, by rw [List.length_take]; omega, h4⟩
  rw [List.length_take] at hi
  obtain ⟨u, h5, h6⟩ := h2 i (by omega)
  exact ⟨u, by rw [List.getElem?_take, if_pos (by omega)]; exact h5, by rw [List.getElem_take]; exact h6⟩
theorem out_right {bs : List (List Nt)} (h : outE [] 0 bs = 0) : RInv [] 0 (goR (rs0 [] 0) bs) := (all_inv (RInv.start rfl (Int.le_refl _) (by omega)) h).1
theorem inv_trail {l : List Pr} {s : Int} {r : Rs} (h : RInv l s r) : trailB r.C = true := by
  refine trail_t.2 ⟨doL_rights h.does, List.pairwise_iff_getElem.2 fun i j hi hj hij => ?_⟩
  rw [h.nums i hi, h.nums j hj]
  omega
theorem was_facts {bs : List (List Nt)} (h : outE [] 0 bs = 0) :
    (outN [] 0 bs).length = bs.length ∧ (outC [] 0 bs).length ≤ 8 * bs.length ∧ (outP [] 0 bs).length ≤ 8 * bs.length ∧
    (∀ i (_ : i < bs.length) (h2 : i < (outN [] 0 bs).length), outE [] 0 (bs.take (i + 1)) = 0 ∧ pastE (outP [] 0 bs) (outC [] 0 bs) 0 (outN [] 0 bs)[i] = 0 ∧ pastL (outP [] 0 bs) (outC [] 0 bs) 0 (outN [] 0 bs)[i] = outP [] 0 (bs.take (i + 1)) ∧ (outP [] 0 (bs.take (i + 1))).length ≤ 8 * bs.length) ∧
    pastE (outP [] 0 bs) (outC [] 0 bs) 0 0 = 0 ∧ pastL (outP [] 0 bs) (outC [] 0 bs) 0 0 = [] ∧
    pastE (outP [] 0 bs) (outC [] 0 bs) 0 ((outC [] 0 bs).length + 5) = 0 ∧ pastL (outP [] 0 bs) (outC [] 0 bs) 0 ((outC [] 0 bs).length + 5) = outP [] 0 bs := by
  obtain ⟨y1, y2, y3⟩ := out_yes h
  have hi := out_right h
  have hl := out_len [] 0 bs
  have hw : wellL (outP [] 0 bs) = true := by rw [y2]; exact hi.pwell
  have ht : trailB (outC [] 0 bs) = true := by rw [y1]; exact inv_trail hi
  refine ⟨by rw [y3]; exact endsR_len _ _, hl.1, by have := hl.2.1; simpa using this, fun i h1 h2 => ?_, ?_⟩
  · obtain ⟨a1, a2⟩ := was_at (l0 := []) (s0 := 0) rfl (Int.le_refl _) (by omega) h h1 h2
    have hpos : 0 ≤ (outN [] 0 bs)[i] := by
      have e : (outN [] 0 bs)[i] = (goR (rs0 [] 0) (bs.take (i + 1))).s := by
        simp only [y3]
        exact ends_at _ _ i (by rw [endsR_len]; exact h1)
      rw [e]
      exact (out_right a1).pos
    obtain ⟨b1, b2⟩ := pastE_is hw ht hpos a2
    refine ⟨a1, b1, b2, ?_⟩
    have := (out_len [] 0 (bs.take (i + 1))).2.1
    rw [List.length_take] at this
    simp at this
    omega
  · have hd : doL [] (outC [] 0 bs) = some (outP [] 0 bs) := by rw [y1, y2]; exact hi.does
    have hn : ∀ c ∈ outC [] 0 bs, 0 < c.seq ∧ c.seq ≤ (outC [] 0 bs).length := by
      intro c hc
      rw [y1] at hc ⊢
      obtain ⟨i, hil, rfl⟩ := List.getElem_of_mem hc
      rw [hi.nums i hil]
      omega
    have c1 : asU (outP [] 0 bs) (outC [] 0 bs) 0 = some [] := as_cut (m := 0) (l0 := []) rfl hd (by rw [List.take_zero]; rfl) (fun c hc => by rw [List.take_zero] at hc; cases hc) (fun c hc => by rw [List.drop_zero] at hc; exact (hn c hc).1)
    have c2 : asU (outP [] 0 bs) (outC [] 0 bs) ((outC [] 0 bs).length + 5) = some (outP [] 0 bs) := as_cut (m := (outC [] 0 bs).length) (l0 := []) rfl hd (by rw [List.take_length]; exact hd) (fun c hc => by rw [List.take_length] at hc; have := (hn c hc).2; omega) (fun c hc => by rw [List.drop_length] at hc; cases hc)
    have d1 := pastE_is hw ht (Int.le_refl 0) c1
    have d2 := pastE_is (fl := 0) hw ht (by omega) c2
    exact ⟨d1.1, d1.2, d2.1, d2.2⟩

set_option maxRecDepth 100000 in
set_option maxHeartbeats 8000000 in
theorem was_walk (u : Value) (bs : List (List Nt)) (w0 : World) (hu : NVV w0 u bs) (hm : ∀ b ∈ bs, b.length ≤ maxLen) :
    Calls Try.prog 4 #[u] w0 fun e w' => e = .returned (.bool true) ∧ Below w0.heap.size w0 w' := by
  obtain ⟨A, n, c, rfl, hn⟩ : ∃ A n c, u = .slice A n c ∧ bs.length = n := by obtain ⟨A, c, e⟩ := NVB.shape hu; exact ⟨A, _, c, e, rfl⟩
  have HU0 := Lib.hid hu
  have HM := Lib.hid hm
  have HNL := Lib.hid hn
  have HB0 := Lib.hid (Below.refl w0.heap.size w0)
  clear hu hm hn
  go_enter Try.func4, Try.ntmps4
  by_cases h10 : n ≤ 10
  case neg =>
    have hd : decide (10 < n) = true := by simp; omega
    have hd2 : decide (10 < (n : Int)) = true := by simp; omega
    go_wp2_with fail
    refine (awake_true _).mono ?_
    rintro e w1 ⟨rfl, hb⟩
    have HB1 := Lib.hid (HB0.out.trans (hb.mono HB0.out.size))
    clear hb HB0 
    go_wp2
    go_ret
    exact ⟨rfl, HB1.out⟩
  have hd : decide (10 < n) = false := by simp; omega
  have hd2 : decide (10 < (n : Int)) = false := by simp; omega
  have HN10 := Lib.hid h10
  go_wp2
  clear hd hd2
  go_loopw [29] (fun i wr => ∃ (k : Nat), i = .int .i64 k ∧ k ≤ n ∧ Below w0.heap.size w0 wr) (fun i _ => (n - intOf i).toNat)
  case atStart => exact ⟨0, rfl, by omega, Below.refl _ _⟩
  case round =>
    obtain ⟨k, rfl, hk, hbr⟩ := hrel
    obtain ⟨wo, hwo⟩ : ∃ q, q = wr := ⟨_, rfl⟩
    subst hwo
    have HBo := Lib.hid hbr
    by_cases hlt : k < n
    · have hkl : k < bs.length := by rw [HNL.out]; exact hlt
      obtain ⟨A', c', e', hel⟩ := (HU0.out.on hbr).part
      injection e' with e1 e2 e3
      subst e1 e3
      obtain ⟨ad, bv, rfl, hab, hcell, hnb⟩ := hel k hkl
      obtain ⟨BA, bd, rfl⟩ : ∃ A d, bv = .slice A (bs[k]'hkl).length d := by obtain ⟨A, d, e, _⟩ := hnb; exact ⟨A, d, e⟩
      have hmx := HM.out _ (List.getElem_mem hkl)
      unfold maxLen at hmx
      obtain ⟨b, hb⟩ : ∃ b, bs[k]'hkl = b := ⟨_, rfl⟩
      rw [hb] at hcell hnb hmx
      have HNB := Lib.hid (show Nts wo wo.heap.size BA b from by
        obtain ⟨A'', c'', e'', h, _⟩ := hnb
        injection e'' with e1 e2 e3
        rw [e1]; exact h)
      obtain ⟨m, hm⟩ : ∃ q, b.length = q := ⟨_, rfl⟩
      rw [hm] at hcell hmx
      have HML := Lib.hid hm
      clear hel hnb e2 hb hm hbr
      go_wp2
      clear hcell
      go_loopw [35] (fun i wi => ∃ (j : Nat), i = .int .i64 j ∧ j ≤ m ∧ Below wo.heap.size wo wi) (fun i _ => (m - intOf i).toNat)
      case atStart => exact ⟨0, rfl, by omega, Below.refl _ _⟩
      case round =>
        obtain ⟨j, rfl, hj, hbi⟩ := hrel
        by_cases hlj : j < m
        · obtain ⟨ad2, rfl, hab2, hca⟩ := (HNB.out.below hbi).seeN (by rw [HML.out]; omega)
          obtain ⟨c1, c2, c3, c4⟩ := hca j (by rw [HML.out]; omega)
          obtain ⟨x, hx⟩ : ∃ x, x = b[j]'(by rw [HML.out]; omega) := ⟨_, rfl⟩
          rw [← hx] at c1 c2 c3 c4
          clear hx hca
          obtain ⟨xk, xkey, xval, xn⟩ := x
          simp only at c1 c2 c3 c4
          have hlt3 : (ad2.add (j * 4)).block < wo.heap.size := by rw [block_of_add]; exact hab2
          have HBn := Lib.hid (HBo.out.trans ((hbi.alloc hbi.size (.cells #[.int .i64 xk, .string xkey, .string xval, .int .u64 (xn.toNat : Int)] 48)).mono HBo.out.size))
          by_cases h1 : xkey.size ≤ 300
          · have hd1 : decide (300 < (xkey.size : Int)) = false := by simp; omega
            by_cases h2 : xval.size ≤ 300
            · have hd2 : decide (300 < (xval.size : Int)) = false := by simp; omega
              go_wp2
              go_roundw
              case rel => exact ⟨j + 1, by go_num, by omega, hbi.alloc hbi.size _⟩
              case measure => simp [intOf]; omega
            · have hd2 : decide (300 < (xval.size : Int)) = true := by simp; omega
              go_wp2_with fail
              refine (awake_true _).mono ?_
              rintro e w2 ⟨rfl, hb⟩
              have HBz := Lib.hid (HBn.out.trans (hb.mono HBn.out.size))
              clear hb
              go_wp2
              go_ret
              exact ⟨rfl, HBz.out⟩
          · have hd1 : decide (300 < (xkey.size : Int)) = true := by simp; omega
            go_wp2_with fail
            refine (awake_true _).mono ?_
            rintro e w2 ⟨rfl, hb⟩
            have HBz := Lib.hid (HBn.out.trans (hb.mono HBn.out.size))
            clear hb
            go_wp2
            go_ret
            exact ⟨rfl, HBz.out⟩
        · have HBi := Lib.hid (HBo.out.trans (hbi.mono HBo.out.size))
          clear hbi
          go_wp2
          go_roundw
          case rel => exact ⟨k + 1, by go_num, by omega, HBi.out⟩
          case measure => simp [intOf]; omega
    · have HUo := Lib.hid (HU0.out.on hbr)
      clear hbr
      have hr := all_any 0 (PV.nil wo) HUo.out (by simp) (by rw [HNL.out]; have := HN10.out; omega) HM.out
      obtain ⟨E, hE⟩ : ∃ q, outE [] 0 bs = q := ⟨_, rfl⟩
      rw [hE] at hr
      go_wp2_with fail
      refine (hr).mono ?_
      rintro e w2 ⟨cv, pv, nv, rfl, hc, hp, hi, hb⟩
      have HC2 := Lib.hid hc
      clear hc
      have HP2 := Lib.hid hp
      clear hp
      have HI2 := Lib.hid hi
      clear hi
      have HB2 := Lib.hid (HBo.out.trans (hb.mono HBo.out.size))
      have HU2 := Lib.hid (HUo.out.on hb)
      clear hb HBo HUo hr
      by_cases hE0 : E = 0
      case neg =>
        go_wp2_with fail
        refine (awake_true _).mono ?_
        rintro e w3 ⟨rfl, hb⟩
        have HB3 := Lib.hid (HB2.out.trans (hb.mono HB2.out.size))
        clear hb HB2 
        go_wp2
        go_ret
        exact ⟨rfl, HB3.out⟩
      subst hE0
      have HF := Lib.hid (was_facts hE)
      obtain ⟨C, hC⟩ : ∃ q, outC [] 0 bs = q := ⟨_, rfl⟩
      obtain ⟨L, hL⟩ : ∃ q, outP [] 0 bs = q := ⟨_, rfl⟩
      obtain ⟨N, hN⟩ : ∃ q, outN [] 0 bs = q := ⟨_, rfl⟩
      rw [hC, hL, hN] at HF
      rw [hC] at HC2
      rw [hL] at HP2
      rw [hN] at HI2
      clear hC hL hN hE
      obtain ⟨IA, ic, rfl, hsee⟩ := HI2.out.see
      obtain ⟨f1, f2, f3, _, _⟩ := HF.out
      have hNL : N.length = n := by rw [f1, HNL.out]
      have HSE := Lib.hid hsee
      clear hsee
      rw [hNL] at HI2 ⊢
      obtain ⟨CA, p, cc, rfl, hcl⟩ : ∃ A p c, cv = .slice A p c ∧ C.length = p := by obtain ⟨A, c, e, _⟩ := HC2.out; exact ⟨A, _, c, e, rfl⟩
      have HCL := Lib.hid hcl
      have hp80 : p ≤ 80 := by rw [← hcl]; have := HN10.out; have := HNL.out; omega
      clear f1 f2 f3 hcl
      have HNN := Lib.hid hNL
      clear hNL
      go_wp2
      go_loopw [64] (fun i wr => ∃ (k : Nat), i = .int .i64 k ∧ k ≤ n ∧ Below w2.heap.size w2 wr) (fun i _ => (n - intOf i).toNat)
      case atStart => exact ⟨0, rfl, by omega, Below.refl _ _⟩
      case round =>
        obtain ⟨k, rfl, hk, hbr⟩ := hrel
        by_cases hlt : k < n
        · have hkl : k < bs.length := by rw [HNL.out]; exact hlt
          have hkN : k < N.length := by rw [HNN.out]; exact hlt
          obtain ⟨ad, rfl, hab, hcell⟩ := HSE.out k hkN
          have hcell := (hbr.cell (p := ad.add k) (by rw [block_of_add]; exact hab)).trans hcell
          have HAT := Lib.hid (HF.out.2.2.2.1 k hkl hkN)
          obtain ⟨x, hx⟩ : ∃ x, N[k]'hkN = x := ⟨_, rfl⟩
          rw [hx] at hcell HAT
          have HBr := Lib.hid (HB2.out.trans (hbr.mono HB2.out.size))
          have HUr := Lib.hid (HU2.out.on hbr)
          have HCr := Lib.hid (HC2.out.on hbr)
          have HPr := Lib.hid (HP2.out.on hbr)
          have HKr := Lib.hid hbr
          have hr := all_any 0 (PV.nil wr) (NVB.take HUr.out (show k + 1 ≤ bs.length from hkl)) (by simp) (by rw [List.length_take]; have := HN10.out; omega) (fun b hb => HM.out b (List.mem_of_mem_take hb))
          rw [HAT.out.1] at hr
          have hcn : k + 1 ≤ c := by
            obtain ⟨A', c', vs, e', _, _, _, h, _⟩ := HUr.out
            injection e' with e1 e2 e3
            rw [HNL.out] at h
            omega
          clear hx hbr
          go_wp2_with fail
          refine (hr).mono ?_
          rintro e w4 ⟨cv2, pv2, nv2, rfl, _, hp, _, hb⟩
          have HQ4 := Lib.hid hp
          clear hp
          have HB4 := Lib.hid (HBr.out.trans (hb.mono HBr.out.size))
          have HU4 := Lib.hid (HUr.out.on hb)
          have HC4 := Lib.hid (HCr.out.on hb)
          have HP4 := Lib.hid (HPr.out.on hb)
          have HK4 := Lib.hid (HKr.out.trans (hb.mono HKr.out.size))
          clear hb HBr HUr HCr HPr HKr hr hcell hab
          have hr := past_v 0 x HP4.out HC4.out (by have := HF.out.2.2.1; have := HN10.out; have := HNL.out; omega) (by rw [HCL.out]; omega)
          rw [HAT.out.2.1, HAT.out.2.2.1] at hr
          go_wp2_with fail
          refine (hr).mono ?_
          rintro e w5 ⟨gv, rfl, hg, hb⟩
          have HG5 := Lib.hid hg
          clear hg
          have HB5 := Lib.hid (HB4.out.trans (hb.mono HB4.out.size))
          have HU5 := Lib.hid (HU4.out.on hb)
          have HC5 := Lib.hid (HC4.out.on hb)
          have HP5 := Lib.hid (HP4.out.on hb)
          have HK5 := Lib.hid (HK4.out.trans (hb.mono HK4.out.size))
          have HQ5 := Lib.hid (HQ4.out.on hb)
          clear hb HB4 HU4 HC4 HP4 HK4 HQ4 hr
          have hr := same_v HG5.out HQ5.out (by have := HAT.out.2.2.2; have := HN10.out; have := HNL.out; unfold maxLen; omega)
          rw [decide_eq_true rfl] at hr
          go_wp2_with fail
          refine (hr).mono ?_
          rintro e w6 ⟨rfl, hb⟩
          have HB6 := Lib.hid (HB5.out.trans (hb.mono HB5.out.size))
          have HU6 := Lib.hid (HU5.out.on hb)
          have HC6 := Lib.hid (HC5.out.on hb)
          have HP6 := Lib.hid (HP5.out.on hb)
          have HK6 := Lib.hid (HK5.out.trans (hb.mono HK5.out.size))
          have HQ6 := Lib.hid (HQ5.out.on hb)
          have HG6 := Lib.hid (HG5.out.on hb)
          clear hb HB5 HU5 HC5 HP5 HK5 HQ5 HG5 hr
          go_wp2
          go_roundw
          case rel => exact ⟨k + 1, by go_num, by omega, HK6.out⟩
          case measure => simp [intOf]; omega
        · have HBr := Lib.hid (HB2.out.trans (hbr.mono HB2.out.size))
          have HCr := Lib.hid (HC2.out.on hbr)
          have HPr := Lib.hid (HP2.out.on hbr)
          clear hbr
          obtain ⟨g1, g2, g3, g4⟩ := HF.out.2.2.2.2
          have HG3 := Lib.hid (And.intro g3 g4)
          have hr := past_v 0 0 HPr.out HCr.out (by have := HF.out.2.2.1; have := HN10.out; have := HNL.out; omega) (by rw [HCL.out]; omega)
          rw [g1, g2] at hr
          clear g1 g2 g3 g4
          go_wp2_with fail
          refine (hr).mono ?_
          rintro e w7 ⟨zv, rfl, hz, hb⟩
          have HZ7 := Lib.hid hz
          clear hz
          have HB7 := Lib.hid (HBr.out.trans (hb.mono HBr.out.size))
          have HC7 := Lib.hid (HCr.out.on hb)
          have HP7 := Lib.hid (HPr.out.on hb)
          clear hb HBr HCr HPr hr
          obtain ⟨ZA, zc, rfl⟩ := HZ7.out.none_len
          have hr := past_v 0 (p + 5) HP7.out HC7.out (by have := HF.out.2.2.1; have := HN10.out; have := HNL.out; omega) (by rw [HCL.out]; omega)
          rw [← HCL.out, HG3.out.1, HG3.out.2, HCL.out] at hr
          go_wp2_with fail
          refine (hr).mono ?_
          rintro e w8 ⟨yv, rfl, hy, hb⟩
          have HY8 := Lib.hid hy
          clear hy
          have HB8 := Lib.hid (HB7.out.trans (hb.mono HB7.out.size))
          have HC8 := Lib.hid (HC7.out.on hb)
          have HP8 := Lib.hid (HP7.out.on hb)
          have HZ8 := Lib.hid (HZ7.out.on hb)
          clear hb HB7 HC7 HP7 HZ7 hr
          have hr := same_v HY8.out HP8.out (by have := HF.out.2.2.1; have := HN10.out; have := HNL.out; unfold maxLen; omega)
          rw [decide_eq_true rfl] at hr
          go_wp2_with fail
          refine (hr).mono ?_
          rintro e w9 ⟨rfl, hb⟩
          have HB9 := Lib.hid (HB8.out.trans (hb.mono HB8.out.size))
          have HC9 := Lib.hid (HC8.out.on hb)
          have HP9 := Lib.hid (HP8.out.on hb)
          have HZ9 := Lib.hid (HZ8.out.on hb)
          have HY9 := Lib.hid (HY8.out.on hb)
          clear hb HB8 HC8 HP8 HZ8 HY8 hr
          go_wp2_with fail
          refine (awake_true _).mono ?_
          rintro e w10 ⟨rfl, hb⟩
          have HB10 := Lib.hid (HB9.out.trans (hb.mono HB9.out.size))
          clear hb HB9 
          go_wp2
          go_ret
          exact ⟨rfl, HB10.out⟩

end Go.Proofs.Ytgpjbajfkagdbaa
