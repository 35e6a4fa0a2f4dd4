/- The walk of Since. -/
import Derived.Test.YtidigbjlglomhaaWDrop
import Derived.Test.YtidigbjlglomhaaMt
set_option linter.unusedVariables false
set_option linter.unusedSimpArgs false
namespace Go.Proofs.Ytidigbjlglomhaa
open Go.RowKit

theorem filter_take (p : Ch → Bool) (l : List Ch) {k : Nat} (h : k < l.length) : (l.take (k + 1)).filter p = (l.take k).filter p ++ (if p l[k] then [l[k]] else []) := by
  rw [take_snoc h, List.filter_append, List.filter_cons, List.filter_nil]
theorem filter_take_le (p : Ch → Bool) (l : List Ch) (k : Nat) : ((l.take k).filter p).length ≤ k := by
  have h1 := List.length_filter_le p (l.take k)
  rw [List.length_take] at h1
  omega
theorem row_step {w : World} {base m : Nat} {v : Value} {p : Ch → Bool} {l : List Ch} {k : Nat} {x : Ch} {t : TypeId} (h : w.ownsRow base t 6 v (m + 1) (((l.take k).filter p).flatMap Ch.cells ++ x.cells)) (e : (l.take (k + 1)).filter p = (l.take k).filter p ++ [x]) : w.ownsRow base t 6 v (m + 1) (((l.take (k + 1)).filter p).flatMap Ch.cells) := by
  rw [e, List.flatMap_append]
  simpa using h

set_option maxRecDepth 100000 in
set_option maxHeartbeats 8000000 in
theorem since_o {v rv : Value} {l : List Ch} {rs : List Rng} (s most : Int) {w : World} (h : CV w v l) (hr : RgV w rv rs) (hn : l.length ≤ 1000) (hrn : rs.length ≤ maxLen) :
    Calls Try.prog 11 #[v, .int .i64 s, .int .i64 most, rv] w fun e w' => ∃ v', e = .returned v' ∧ w'.ownsRow w.heap.size 30 6 v' (sinceL l s most rs).length ((sinceL l s most rs).flatMap Ch.cells) ∧ Below w.heap.size w w' := by
  have hrt := right_v h (by unfold maxLen; omega)
  obtain ⟨R, hR⟩ : ∃ R, trailB l = R := ⟨_, rfl⟩
  rw [hR] at hrt
  have HV := Lib.hid h
  have HRV := Lib.hid hr
  have HR := Lib.hid hrt
  have HN := Lib.hid hn
  have HRN := Lib.hid hrn
  obtain ⟨A, n, c, rfl⟩ : ∃ A n c, v = .slice A n c := by obtain ⟨A, c, e, _⟩ := h; exact ⟨A, _, c, e⟩
  obtain ⟨Ar, nr, cr, rfl⟩ : ∃ A n c, rv = .slice A n c := by obtain ⟨A, c, e, _⟩ := hr; exact ⟨A, _, c, e⟩
  cases R with
  | false =>
    have HE := Lib.hid (show sinceL l s most rs = [] from by unfold sinceL; rw [hR]; rfl)
    clear hr hrt hR h hn hrn
    go_enter Try.func11, Try.ntmps11
    go_wp2_with fail
    refine HR.out.mono ?_
    rintro e w1 ⟨rfl, hb⟩
    go_wp2
    go_ret
    rw [HE.out]
    exact ⟨_, rfl, World.ownsRow_nil _ _ _ _, hb⟩
  | true =>
    have HE := Lib.hid (show sinceL l s most rs = ((aboveL l s).filter fun c => inB (meetL rs) c.key).take most.toNat from by unfold sinceL; rw [hR]; rfl)
    clear hr hrt hR h hn hrn
    go_enter Try.func11, Try.ntmps11
    go_wp2_with fail
    refine HR.out.mono ?_
    rintro e w1 ⟨rfl, hb⟩
    have HB1 := Lib.hid hb
    have HV1 := Lib.hid (HV.out.on hb)
    have hmt := meet_v (HRV.out.on hb) HRN.out
    clear hb HV HR HRV
    obtain ⟨K, hK⟩ : ∃ K, meetL rs = K := ⟨_, rfl⟩
    rw [hK] at hmt
    have HK := Lib.hid hK
    clear hK
    go_wp2_with fail
    refine hmt.mono ?_
    clear hmt
    rintro e w2 ⟨rfl, hb⟩
    have HB2 := Lib.hid (HB1.out.trans (hb.mono HB1.out.size))
    have HV2 := Lib.hid (HV1.out.on hb)
    clear hb HB1 HV1
    obtain ⟨klo, khi, kop⟩ := K
    unfold Rng.v
    simp only
    go_upto_region 4 with fail
    obtain ⟨gk, hgk⟩ : ∃ gk, gk = w2.heap.size := ⟨_, rfl⟩
    obtain ⟨w3, hw3⟩ : ∃ w3, w3 = w2.alloc (.cells #[.string klo, .string khi, .bool kop] 35) := ⟨_, rfl⟩
    rw [← hgk, ← hw3]
    have hb : Below w2.heap.size w2 w3 := by rw [hw3]; exact (Below.refl _ _).alloc (Nat.le_refl _) _
    have BK3 := Lib.hid (show RBlk w3 gk ⟨klo, khi, kop⟩ from by rw [hw3]; exact Box.at_ w2 _ _ hgk)
    have HB3 := Lib.hid (HB2.out.trans (hb.mono HB2.out.size))
    have hab := above_any s w3 (HV2.out.on hb) (by have := HN.out; unfold maxLen; omega)
    have HLN := Lib.hid (show (aboveL l s).length ≤ 1000 from Nat.le_trans (above_sub l s).length_le HN.out)
    obtain ⟨L, hL⟩ : ∃ L, aboveL l s = L := ⟨_, rfl⟩
    rw [hL] at hab HLN
    have HL := Lib.hid hL
    clear hb hL hgk hw3 HB2 HV2
    go_wp2_with fail
    refine hab.mono ?_
    clear hab
    rintro e w4 ⟨v4, rfl, hv4, hb⟩
    have HB4 := Lib.hid (HB3.out.trans (hb.mono HB3.out.size))
    have BK4 := Lib.hid (show RBlk w4 gk ⟨klo, khi, kop⟩ from Box.on BK3.out hb)
    obtain ⟨A4, c4, rfl, hA4, _⟩ := hv4
    have HA := Lib.hid hA4
    obtain ⟨m4, hm4⟩ : ∃ m4, L.length = m4 := ⟨_, rfl⟩
    rw [hm4]
    have HML := Lib.hid hm4
    have hmn : m4 ≤ 1000 := by rw [← hm4]; exact HLN.out
    clear hb hA4 hm4 HB3 BK3
    have hgk4 := Box.lt BK4.out
    go_wp2
    go_loopw [10, 22] (fun v i wr => ∃ (k m : Nat), i = .int .i64 k ∧ k ≤ m4 ∧ Hid (m = ((L.take k).filter fun c => inB ⟨klo, khi, kop⟩ c.key).length ∧ m ≤ most.toNat ∧ m ≤ k) ∧ Hid (wr.ownsRow w4.heap.size 30 6 v m (((L.take k).filter fun c => inB ⟨klo, khi, kop⟩ c.key).flatMap Ch.cells)) ∧ Hid (RBlk wr gk ⟨klo, khi, kop⟩) ∧ Below w4.heap.size w4 wr) (fun _ i _ => (m4 - intOf i).toNat)
    case atStart => exact ⟨0, 0, rfl, by omega, (show _ ∧ _ from ⟨rfl, by omega, by omega⟩), (show World.ownsRow _ _ _ _ _ _ _ from World.ownsRow_nil _ _ _ _), BK4, Below.refl _ _⟩
    case round =>
      obtain ⟨k, m, rfl, hk, HM, HO, HBK, hbr⟩ := hrel
      obtain ⟨A2, c2, rfl⟩ := own_shape HO.out
      have hbs := hbr.size
      by_cases hlt : k < m4
      · have hkl : k < L.length := by rw [HML.out]; exact hlt
        obtain ⟨ad, rfl, hab, hca⟩ := (HA.out.below hbr).seeC (by rw [HML.out]; omega)
        obtain ⟨c0, c1, c2', c3, c4', c5⟩ := hca k hkl
        have HT := Lib.hid (filter_take (fun c => inB ⟨klo, khi, kop⟩ c.key) L hkl)
        obtain ⟨x, hx⟩ : ∃ x, x = L[k]'hkl := ⟨_, rfl⟩
        rw [← hx] at c0 c1 c2' c3 c4' c5 HT
        clear hx hca
        obtain ⟨xs, xk, xh, xb, xg, xa⟩ := x
        simp only at c0 c1 c2' c3 c4' c5 HT
        go_upto_region 8 with fail
        obtain ⟨gx, hgx⟩ : ∃ gx, gx = wr.heap.size := ⟨_, rfl⟩
        obtain ⟨wz, hwz⟩ : ∃ wz, wz = wr.alloc (.cells #[.int .i64 xs, .string xk, .bool xh, .string xb, .bool xg, .string xa] 30) := ⟨_, rfl⟩
        rw [← hgx, ← hwz]
        have hb : Below wr.heap.size wr wz := by rw [hwz]; exact (Below.refl _ _).alloc (Nat.le_refl _) _
        have BX := Lib.hid (show Box wz gx 30 #[.int .i64 xs, .string xk, .bool xh, .string xb, .bool xg, .string xa] from by rw [hwz]; exact Box.at_ wr _ _ hgx)
        have HOz := Lib.hid (own_on HO.out hb)
        have BKz := Lib.hid (show RBlk wz gk ⟨klo, khi, kop⟩ from Box.on HBK.out hb)
        have HBz := Lib.hid (hbr.trans (hb.mono hbs))
        clear hb hgx hwz c0 c1 c2' c3 c4' c5 hab hbr HO HBK
        by_cases hfull : most ≤ (m : Int)
        · have hf : decide (most ≤ (m : Int)) = true := decide_eq_true hfull
          have HRES := Lib.hid (show (L.filter fun c => inB ⟨klo, khi, kop⟩ c.key).take most.toNat = (L.take k).filter fun c => inB ⟨klo, khi, kop⟩ c.key from take_part (by have := HM.out.1; have := HM.out.2.1; omega))
          clear hfull
          go_wp2
          go_ret
          have h1 := HOz.out
          exact ⟨_, rfl, by rw [HE.out, HK.out, HL.out, HRES.out, ← HM.out.1]; exact own_more h1 HB4.out.size, HB4.out.trans (HBz.out.mono HB4.out.size)⟩
        · have hf : decide (most ≤ (m : Int)) = false := decide_eq_false hfull
          have HFULL := Lib.hid hfull
          clear hfull
          obtain ⟨x1, x2, x3⟩ := RBlk.cells BKz.out
          simp only at x1 x2 x3
          have x4 := Box.cell BX.out 1 rfl
          have hin := in_any klo khi xk kop wz
          obtain ⟨I, hI⟩ : ∃ I, inB ⟨klo, khi, kop⟩ xk = I := ⟨_, rfl⟩
          rw [hI] at hin HT
          go_wp2_with fail
          refine hin.mono ?_
          clear hin x1 x2 x3 x4
          rintro e w8 ⟨rfl, hb⟩
          have HB8 := Lib.hid (HBz.out.trans (hb.mono HBz.out.size))
          have BX8 := Lib.hid (Box.on BX.out hb)
          have BK8 := Lib.hid (show RBlk w8 gk ⟨klo, khi, kop⟩ from Box.on BKz.out hb)
          have HO8 := Lib.hid (own_on HOz.out hb)
          clear hb HBz BX BKz HOz hI
          cases I with
          | false =>
            have HF := Lib.hid (show (L.take (k + 1)).filter (fun c => inB ⟨klo, khi, kop⟩ c.key) = (L.take k).filter fun c => inB ⟨klo, khi, kop⟩ c.key from by rw [HT.out]; simp)
            have h8 := HB8.out
            go_wp2
            go_roundw
            case rel => exact ⟨k + 1, m, by go_num, by omega, (show _ ∧ _ from by rw [HF.out]; exact ⟨HM.out.1, HM.out.2.1, by have := HM.out.2.2; omega⟩), (show World.ownsRow _ _ _ _ _ _ _ from by rw [HF.out]; exact HO8.out), BK8, h8⟩
            case measure => simp [intOf]; omega
          | true =>
            have HF := Lib.hid (show (L.take (k + 1)).filter (fun c => inB ⟨klo, khi, kop⟩ c.key) = (L.take k).filter (fun c => inB ⟨klo, khi, kop⟩ c.key) ++ [⟨xs, xk, xh, xb, xg, xa⟩] from by rw [HT.out]; simp)
            obtain ⟨y0, y1, y2, y3, y4, y5⟩ : _ ∧ _ ∧ _ ∧ _ ∧ _ ∧ _ := let hx := BX8.out; ⟨Box.cell hx 0 rfl, Box.cell hx 1 rfl, Box.cell hx 2 rfl, Box.cell hx 3 rfl, Box.cell hx 4 rfl, Box.cell hx 5 rfl⟩
            have own := HO8.out
            have h8 := HB8.out
            have h8s := h8.size
            go_wp2_with (at_builtin; refine append_change _ rfl _ _ rfl w4.heap.size _ m (((L.take k).filter fun c => inB ⟨klo, khi, kop⟩ c.key).flatMap Ch.cells) rfl (own.alloc _) (w8.heap.size + 1) w8.heap.size ⟨xs, xk, xh, xb, xg, xa⟩ rfl ?a1 ?a2 ?a3 ?_)
            case a1 => exact Lies.lit Ch.cells6 rfl
            case a2 => have := HM.out.2.2; omega
            case a3 => first | omega | (simp; omega)
            intro v' w5 hown5 hg5 hat
            have hk5 : ∀ k, Value.ownBlock _ = some k → w4.heap.size ≤ k := fun k hk => (own_lt own hk).1
            have hb5 : Below w4.heap.size w4 w5 := (h8.alloc h8s _).grown hg5 (by simp; omega) hk5
            have H5 := Lib.hid (row_step hown5 HF.out)
            have HM5 := Lib.hid (show m + 1 = ((L.take (k + 1)).filter fun c => inB ⟨klo, khi, kop⟩ c.key).length ∧ m + 1 ≤ most.toNat ∧ m + 1 ≤ k + 1 from ⟨by rw [HF.out, List.length_append, ← HM.out.1]; rfl, by have := HFULL.out; omega, by have := HM.out.2.2; omega⟩)
            have BK5 := Lib.hid (show RBlk w5 gk ⟨klo, khi, kop⟩ from Box.grown (Box.push BK8.out _) hg5 (fun e => by have := hk5 gk e.symm; omega))
            clear own hown5 hg5 hat hk5 y0 y1 y2 y3 y4 y5 h8 h8s
            go_wp2
            go_roundw
            case rel => exact ⟨k + 1, m + 1, by go_num, by omega, HM5, H5, BK5, hb5⟩
            case measure => simp [intOf]; omega
      · have hkn : k = m4 := by omega
        have HRES := Lib.hid (show (L.filter fun c => inB ⟨klo, khi, kop⟩ c.key).take most.toNat = (L.take k).filter fun c => inB ⟨klo, khi, kop⟩ c.key from by
          have e : L.take k = L := List.take_of_length_le (by rw [HML.out]; omega)
          have h1 := HM.out.1
          rw [e] at h1 ⊢
          exact take_whole (by have := HM.out.2.1; omega))
        clear hkn
        go_wp2
        go_ret
        exact ⟨_, rfl, by rw [HE.out, HK.out, HL.out, HRES.out, ← HM.out.1]; exact own_more HO.out HB4.out.size, HB4.out.trans (hbr.mono HB4.out.size)⟩
theorem since_v {v rv : Value} {l : List Ch} {rs : List Rng} (s most : Int) {w : World} (h : CV w v l) (hr : RgV w rv rs) (hn : l.length ≤ 1000) (hrn : rs.length ≤ maxLen) :
    Calls Try.prog 11 #[v, .int .i64 s, .int .i64 most, rv] w fun e w' => ∃ v', e = .returned v' ∧ CV w' v' (sinceL l s most rs) ∧ Below w.heap.size w w' :=
  (since_o s most h hr hn hrn).mono fun _ _ ⟨v', e, h1, h2⟩ => ⟨v', e, CV.own h1 rfl, h2⟩

end Go.Proofs.Ytidigbjlglomhaa
