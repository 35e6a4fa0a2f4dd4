/- The walks of the document's Since and Drop. -/
import Derived.Test.YtidigbjlglomhaaWSince
set_option linter.unusedVariables false
set_option linter.unusedSimpArgs false
namespace Go.Proofs.Ytidigbjlglomhaa
open Go.RowKit

def RsV (n c nr cr k q : Nat) (ad ar : Addr) (rlo rhi xk : ByteArray) (rop I : Bool) (p t : Nat) (v : Value) (w : World) : Prop :=
  match t with
  | 39 => v = (.slice (some ar) nr cr)
  | 40 => v = (.int .i64 q)
  | 41 => v = (.pointer (some (ar.add (q * 3))))
  | 42 => v = (.agg #[.string rlo, .string rhi, .bool rop])
  | 43 => v = (.slice (some ad) n c)
  | 44 => v = (.int .i64 k)
  | 45 => v = (.pointer (some (ad.add (k * 6))))
  | 46 => v = (.pointer (some ⟨(ad.add (k * 6)).block, (ad.add (k * 6)).off + 1, none⟩))
  | 47 => v = (.string xk)
  | 48 => v = (.bool I)
  | 13 => v = (.bool I)
  | _ => True
theorem RsV.on {n c nr cr k q : Nat} {ad ar : Addr} {rlo rhi xk : ByteArray} {rop I : Bool} {p t : Nat} {v : Value} {w w' : World} (h : RsV n c nr cr k q ad ar rlo rhi xk rop I p t v w) (hb : Below w.heap.size w w') : RsV n c nr cr k q ad ar rlo rhi xk rop I p t v w' := by
  unfold RsV at *
  split at h <;> first | exact h


theorem all_take (f : Rng → Bool) (rs : List Rng) {q : Nat} (h : q < rs.length) : (rs.take (q + 1)).all f = ((rs.take q).all f && f rs[q]) := by
  rw [List.take_succ_eq_append_getElem h, List.all_append]
  simp

set_option maxRecDepth 100000 in
set_option maxHeartbeats 8000000 in
theorem dsince_v {v rv : Value} {l : List Ch} {rs : List Rng} (s most : Int) {w : World} (h : CV w v l) (hr : RgV w rv rs) (hn : l.length ≤ 1000) (hrn : rs.length ≤ maxLen) (ht : Trail l) :
    Calls Try.prog 18 #[v, .int .i64 s, .int .i64 most, rv] w fun e w' => ∃ v', e = .returned v' ∧ CV w' v' (sinceL l s most rs) ∧ Below w.heap.size w w' := by
  rw [since_is ht]
  unfold maxLen at hrn
  obtain ⟨A, c, rfl, hA, _⟩ := h
  obtain ⟨Ar, cr, rfl, hAr⟩ := hr
  obtain ⟨n, hl⟩ : ∃ n, l.length = n := ⟨_, rfl⟩
  obtain ⟨nr, hlr⟩ : ∃ n, rs.length = n := ⟨_, rfl⟩
  rw [hl] at hn ⊢
  rw [hlr] at hrn ⊢
  have HL := Lib.hid hl
  have HLR := Lib.hid hlr
  have HA := Lib.hid hA
  have HAR := Lib.hid hAr
  obtain ⟨p, hp⟩ : ∃ p : Ch → Bool, p = fun c => decide (s < c.seq) && rs.all (inB · c.key) := ⟨_, rfl⟩
  rw [← hp]
  have HP := Lib.hid hp
  clear hl hlr hA hAr ht hp
  go_enter Try.func18, Try.ntmps18
  go_wp2
  go_loopw [9, 10] (fun v i wr => ∃ (k m : Nat), i = .int .i64 k ∧ k ≤ n ∧ Hid (m = ((l.take k).filter p).length ∧ m ≤ most.toNat ∧ m ≤ k) ∧ Hid (wr.ownsRow w.heap.size 30 6 v m (((l.take k).filter p).flatMap Ch.cells)) ∧ Below w.heap.size w wr) (fun _ i _ => (n - intOf i).toNat)
  case atStart => exact ⟨0, 0, rfl, by omega, (show _ ∧ _ from ⟨rfl, by omega, by omega⟩), (show World.ownsRow _ _ _ _ _ _ _ from World.ownsRow_nil _ _ _ _), Below.refl _ _⟩
  case round =>
    obtain ⟨k, m, rfl, hk, HM, HO, hbr⟩ := hrel
    obtain ⟨A2, c2, rfl⟩ := own_shape HO.out
    have hbs := hbr.size
    by_cases hlt : k < n
    · have hkl : k < l.length := by rw [HL.out]; exact hlt
      by_cases hfull : (m : Int) < most
      · have hf : decide ((m : Int) < most) = true := decide_eq_true hfull
        have HFULL := Lib.hid hfull
        obtain ⟨x, hx⟩ : ∃ x, x = l[k]'hkl := ⟨_, rfl⟩
        have HTF := Lib.hid (filter_take p l hkl)
        have HX := Lib.hid hx
        obtain ⟨ad, rfl, hab, hca⟩ := (HA.out.below hbr).seeC (by rw [HL.out]; omega)
        obtain ⟨c0, c1, _, _, _, _⟩ := hca k hkl
        rw [← hx] at c0 c1
        obtain ⟨xs, hxs⟩ : ∃ xs, xs = x.seq := ⟨_, rfl⟩
        obtain ⟨xk, hxk⟩ : ∃ xk, xk = x.key := ⟨_, rfl⟩
        rw [← hxs] at c0
        rw [← hxk] at c1
        have HXS := Lib.hid hxs
        have HXK := Lib.hid hxk
        obtain ⟨wo, hwo⟩ : ∃ wo, wo = wr := ⟨_, rfl⟩
        rw [← hwo] at c0 c1 hbr
        have HBO := Lib.hid hbr
        have HOO := Lib.hid (show World.ownsRow wo w.heap.size 30 6 (.slice A2 m c2) m (((l.take k).filter p).flatMap Ch.cells) from by rw [hwo]; exact HO.out)
        have HCK0 := Lib.hid c1
        rw [← hwo]
        clear hx hwo hbr HO hbs hca hxs hxk hab hfull
        go_wp2
        go_loopw [11, 12] (fun o j wr => ∃ (q : Nat) (b : Bool), j = .int .i64 q ∧ q ≤ nr ∧ o = .bool b ∧ Hid (b = (decide (s < xs) && (rs.take q).all (inB · xk))) ∧ Below wo.heap.size wo wr) (fun _ j _ => (nr - intOf j).toNat)
        case atStart => exact ⟨0, decide (s < xs), rfl, by omega, rfl, (show _ = _ from by simp), Below.refl _ _⟩
        case round =>
          obtain ⟨q, b, rfl, hqn, rfl, HAL, hbq⟩ := hrel
          have HBQ := Lib.hid hbq
          have HBW := Lib.hid (HBO.out.trans (hbq.mono HBO.out.size))
          by_cases hqt : q < nr
          · have hql : q < rs.length := by rw [HLR.out]; exact hqt
            obtain ⟨ar, rfl, har, hcr⟩ := (HAR.out.below HBW.out).seeR (by rw [HLR.out]; omega)
            obtain ⟨r0, r1, r2⟩ := hcr q hql
            have HSTEP := Lib.hid (all_take (inB · xk) rs hql)
            obtain ⟨y, hy⟩ : ∃ y, y = rs[q]'hql := ⟨_, rfl⟩
            rw [← hy] at r0 r1 r2 HSTEP
            obtain ⟨rlo, rhi, rop⟩ := y
            simp only at r0 r1 r2 HSTEP
            have hin := fun wx => rin_any rlo rhi xk rop wx
            obtain ⟨I, hI⟩ : ∃ I, inB ⟨rlo, rhi, rop⟩ xk = I := ⟨_, rfl⟩
            rw [hI] at hin HSTEP
            have HIN := Lib.hid hin
            have HCR := Lib.hid (show ∀ wx, Below wr.heap.size wr wx → wx.cell? (ar.add (q * 3)) = some (.string rlo) ∧ wx.cell? ⟨(ar.add (q * 3)).block, (ar.add (q * 3)).off + 1, none⟩ = some (.string rhi) ∧ wx.cell? ⟨(ar.add (q * 3)).block, (ar.add (q * 3)).off + 2, none⟩ = some (.bool rop) from fun wx hh => ⟨(hh.cell (lt_of_cell r0)).trans r0, (hh.cell (lt_of_cell r1)).trans r1, (hh.cell (lt_of_cell r2)).trans r2⟩)
            have d1 := (hbq.cell (lt_of_cell HCK0.out)).trans HCK0.out
            have HCK := Lib.hid (show ∀ wx, Below wr.heap.size wr wx → wx.cell? ⟨(ad.add (k * 6)).block, (ad.add (k * 6)).off + 1, none⟩ = some (.string xk) from fun wx hh => (hh.cell (lt_of_cell d1)).trans d1)
            have HQT := Lib.hid (show (q : Int) < (nr : Int) from by omega)
            have HKT := Lib.hid (show (k : Int) < (n : Int) from by omega)
            clear hy hcr har hbq hin hI d1 r0 r1 r2
            go_upto_region 9 with fail
            refine wp_region_phase 14 [39, 40, 41, 42, 43, 44, 45, 46, 47, 48, 13] (by kernel_rfl) [] [] (fun _ _ => True) 0 rfl (by kernel_rfl) (SP (fun wx => Below wr.heap.size wr wx) (fun _ => True) (fun _ => True)) (fun wa wb => Below wa.heap.size wa wb) (RsV n c nr cr k q ad ar rlo rhi xk rop I) (by kernel_rfl) (SP.on below_grow (fun _ _ _ _ => trivial) (fun _ _ _ _ => trivial)) (fun _ t v wa wb h1 h2 => h2.on h1) (fun _ _ _ _ _ _ _ => trivial) (Below.refl _ _).drew trivial (phase0 ?_) ?_
            · refine Steps1.cons (fun _ ax wx hS _ hG => ?_) (Steps1.cons (fun _ ax wx hS _ hG => ?_) (Steps1.cons (fun _ ax wx hS _ hG => ?_) (Steps1.cons (fun _ ax wx hS _ hG => ?_) (Steps1.cons (fun _ ax wx hS _ hG => ?_) (Steps1.cons (fun _ ax wx hS _ hG => ?_) (Steps1.cons (fun _ ax wx hS _ hG => ?_) (Steps1.cons (fun _ ax wx hS _ hG => ?_) (Steps1.cons (fun _ ax wx hS _ hG => ?_) (Steps1.cons (fun _ ax wx hS _ hG => ?_) (Steps1.cons (fun _ ax wx hS _ hG => ?_) Steps1.nil))))))))))
              · have q3 := hG.old 3 (by kernel_rfl) (by kernel_rfl)
                refine step_slot rfl rfl rfl (step_value (v := (.slice (some ar) nr cr)) (w' := wx) rfl rfl ?_ (Below.refl _ _) (fun d hd => by cases hd; exact rfl))
                go_simp
              · have q12 := hG.old 12 (by kernel_rfl) (by kernel_rfl)
                refine step_slot rfl rfl rfl (step_value (v := (.int .i64 q)) (w' := wx) rfl rfl ?_ (Below.refl _ _) (fun d hd => by cases hd; exact rfl))
                go_simp
              · obtain ⟨_, q39, rfl⟩ := hG.new 39 (by kernel_rfl) (by kernel_rfl)
                obtain ⟨_, q40, rfl⟩ := hG.new 40 (by kernel_rfl) (by kernel_rfl)
                refine step_slot rfl rfl rfl (step_value (v := (.pointer (some (ar.add (q * 3))))) (w' := wx) rfl rfl ?_ (Below.refl _ _) (fun d hd => by cases hd; exact rfl))
                have hqt := HQT.out
                go_simp
              · obtain ⟨_, q41, rfl⟩ := hG.new 41 (by kernel_rfl) (by kernel_rfl)
                obtain ⟨z0, z1, z2⟩ := HCR.out wx (show Below _ _ _ from hS)
                refine step_slot rfl rfl rfl (step_value (v := (.agg #[.string rlo, .string rhi, .bool rop])) (w' := wx) rfl rfl ?_ (Below.refl _ _) (fun d hd => by cases hd; exact rfl))
                go_simp
              · have q0 := hG.old 0 (by kernel_rfl) (by kernel_rfl)
                refine step_slot rfl rfl rfl (step_value (v := (.slice (some ad) n c)) (w' := wx) rfl rfl ?_ (Below.refl _ _) (fun d hd => by cases hd; exact rfl))
                go_simp
              · have q10 := hG.old 10 (by kernel_rfl) (by kernel_rfl)
                refine step_slot rfl rfl rfl (step_value (v := (.int .i64 k)) (w' := wx) rfl rfl ?_ (Below.refl _ _) (fun d hd => by cases hd; exact rfl))
                go_simp
              · obtain ⟨_, q43, rfl⟩ := hG.new 43 (by kernel_rfl) (by kernel_rfl)
                obtain ⟨_, q44, rfl⟩ := hG.new 44 (by kernel_rfl) (by kernel_rfl)
                refine step_slot rfl rfl rfl (step_value (v := (.pointer (some (ad.add (k * 6))))) (w' := wx) rfl rfl ?_ (Below.refl _ _) (fun d hd => by cases hd; exact rfl))
                have hkt := HKT.out
                go_simp
              · obtain ⟨_, q45, rfl⟩ := hG.new 45 (by kernel_rfl) (by kernel_rfl)
                refine step_slot rfl rfl rfl (step_value (v := (.pointer (some ⟨(ad.add (k * 6)).block, (ad.add (k * 6)).off + 1, none⟩))) (w' := wx) rfl rfl ?_ (Below.refl _ _) (fun d hd => by cases hd; exact rfl))
                go_simp
              · obtain ⟨_, q46, rfl⟩ := hG.new 46 (by kernel_rfl) (by kernel_rfl)
                have z0 := HCK.out wx (show Below _ _ _ from hS)
                refine step_slot rfl rfl rfl (step_value (v := (.string xk)) (w' := wx) rfl rfl ?_ (Below.refl _ _) (fun d hd => by cases hd; exact rfl))
                go_simp
              · obtain ⟨_, q42, rfl⟩ := hG.new 42 (by kernel_rfl) (by kernel_rfl)
                obtain ⟨_, q47, rfl⟩ := hG.new 47 (by kernel_rfl) (by kernel_rfl)
                refine step_slot rfl rfl rfl (step_call (w1 := wx) (f := 21) (args := #[(.agg #[.string rlo, .string rhi, .bool rop]), (.string xk)]) rfl rfl ?_ ((HIN.out wx).mono ?_))
                · skip
                  go_simp
                · rintro e w' ⟨rfl, hq⟩
                  exact ⟨_, rfl, hq, fun d hd => by cases hd; exact rfl⟩
              · obtain ⟨_, q48, rfl⟩ := hG.new 48 (by kernel_rfl) (by kernel_rfl)
                refine step_slot rfl rfl rfl (step_value (v := (.bool I)) (w' := wx) rfl rfl ?_ (Below.refl _ _) (fun d hd => by cases hd; exact rfl))
                go_simp
            intro fv w8 hS8 _ hV8
            have e13 : fv 13 = (.bool I) := hV8 13 (by decide)
            simp only [puts, Act.put, List.setIfInBounds_toArray, List.set_cons_succ, List.set_cons_zero]
            clear hV8
            rw [e13]
            have HB8 := Lib.hid (HBQ.out.trans ((show Below _ _ _ from hS8).mono HBQ.out.size))
            clear hS8
            cases b with
            | true =>
              have HN := Lib.hid (show I = (decide (s < xs) && (rs.take (q + 1)).all (inB · xk)) from by rw [HSTEP.out, ← Bool.and_assoc, ← HAL.out]; simp)
              have h8 := HB8.out
              go_wp2
              go_roundw
              case rel => exact ⟨q + 1, I, by go_num, by omega, rfl, HN, h8⟩
              case measure => simp [intOf]; omega
            | false =>
              have HN := Lib.hid (show false = (decide (s < xs) && (rs.take (q + 1)).all (inB · xk)) from by rw [HSTEP.out, ← Bool.and_assoc, ← HAL.out]; simp)
              have h8 := HB8.out
              go_wp2
              go_roundw
              case rel => exact ⟨q + 1, false, by go_num, by omega, rfl, HN, h8⟩
              case measure => simp [intOf]; omega
          · have hqe : q = nr := by omega
            have HB := Lib.hid (show p x = b from by
              rw [HP.out, HAL.out, hqe, List.take_of_length_le (by rw [HLR.out]; exact Nat.le_refl _), HXS.out, HXK.out])
            have HOZ := Lib.hid (own_on HOO.out hbq)
            rw [← HX.out] at HTF
            clear hqe hbq
            cases b with
            | false =>
              have HF := Lib.hid (show (l.take (k + 1)).filter p = (l.take k).filter p from by rw [HTF.out, HB.out]; simp)
              have h8 := HBW.out
              go_wp2
              go_roundw
              case rel => exact ⟨k + 1, m, by go_num, by omega, (show _ ∧ _ from by rw [HF.out]; exact ⟨HM.out.1, HM.out.2.1, by have := HM.out.2.2; omega⟩), (show World.ownsRow _ _ _ _ _ _ _ from by rw [HF.out]; exact HOZ.out), h8⟩
              case measure => simp [intOf]; omega
            | true =>
              have HF := Lib.hid (show (l.take (k + 1)).filter p = (l.take k).filter p ++ [x] from by rw [HTF.out, HB.out]; simp)
              obtain ⟨ad', ea, hab, hca⟩ := (HA.out.below HBW.out).seeC (by rw [HL.out]; omega)
              injection ea with ea
              subst ea
              obtain ⟨y0, y1, y2, y3, y4, y5⟩ := hca k hkl
              rw [← HX.out] at y0 y1 y2 y3 y4 y5
              clear hca hab c0 c1
              obtain ⟨xs2, xk2, xh, xb, xg, xa⟩ := x
              simp only at y0 y1 y2 y3 y4 y5
              have own := HOZ.out
              have h8 := HBW.out
              have h8s := h8.size
              go_wp2_with (at_builtin; refine append_change _ rfl _ _ rfl w.heap.size _ m (((l.take k).filter p).flatMap Ch.cells) rfl (own.alloc _) (wr.heap.size + 1) wr.heap.size ⟨xs2, xk2, xh, xb, xg, xa⟩ rfl ?a1 ?a2 ?a3 ?_)
              case a1 => exact Lies.lit Ch.cells6 rfl
              case a2 => have := HM.out.2; omega
              case a3 => first | omega | (simp; omega)
              intro v' w5 hown5 hg5 hat
              have hk5 : ∀ k, Value.ownBlock _ = some k → w.heap.size ≤ k := fun k hk => (own_lt own hk).1
              have hb5 : Below w.heap.size w w5 := (h8.alloc h8s _).grown hg5 (by simp; omega) hk5
              have H5 := Lib.hid (row_step hown5 HF.out)
              have HM5 := Lib.hid (show m + 1 = ((l.take (k + 1)).filter p).length ∧ m + 1 ≤ most.toNat ∧ m + 1 ≤ k + 1 from ⟨by rw [HF.out, List.length_append, ← HM.out.1]; rfl, by have := HFULL.out; omega, by have := HM.out.2.2; omega⟩)
              clear own hown5 hg5 hat hk5 y0 y1 y2 y3 y4 y5 h8 h8s
              go_wp2
              go_roundw
              case rel => exact ⟨k + 1, m + 1, by go_num, by omega, HM5, H5, hb5⟩
              case measure => simp [intOf]; omega
      · have hf : decide ((m : Int) < most) = false := decide_eq_false hfull
        have HRES := Lib.hid (show (l.filter p).take most.toNat = (l.take k).filter p from take_part (by have := HM.out.1; have := HM.out.2.1; omega))
        clear hfull
        go_wp2
        go_ret
        exact ⟨_, rfl, by rw [HRES.out]; exact CV.own HO.out HM.out.1, hbr⟩
    · have hkn : k = n := by omega
      have HRES := Lib.hid (show (l.filter p).take most.toNat = (l.take k).filter p from by
        have e : l.take k = l := List.take_of_length_le (by rw [HL.out]; omega)
        have h1 := HM.out.1
        rw [e] at h1 ⊢
        exact take_whole (by have := HM.out.2.1; omega))
      clear hkn
      go_wp2
      go_ret
      exact ⟨_, rfl, by rw [HRES.out]; exact CV.own HO.out HM.out.1, hbr⟩

theorem drop_since_is {l : List Ch} (h : Trail l) (s : Int) : sinceL l s l.length [] = dropL l s := by
  rw [since_is h, drop_is h, List.take_of_length_le (by rw [Int.toNat_natCast]; exact List.length_filter_le _ _)]
  refine List.filter_congr fun c _ => ?_
  simp

set_option maxRecDepth 100000 in
set_option maxHeartbeats 2000000 in
theorem ddrop_v {v : Value} {l : List Ch} (s : Int) {w : World} (h : CV w v l) (hn : l.length ≤ 1000) (ht : Trail l) :
    Calls Try.prog 19 #[v, .int .i64 s] w fun e w' => ∃ v', e = .returned v' ∧ CV w' v' (dropL l s) ∧ Below w.heap.size w w' := by
  have hs := dsince_v s l.length h (RgV.nil w) hn (by simp [maxLen]) ht
  rw [drop_since_is ht] at hs
  obtain ⟨A, c, rfl, _⟩ := h
  generalize l.length = n at *
  have HS := Lib.hid hs
  clear hs ht
  go_enter Try.func19, Try.ntmps19
  go_wp2_with fail
  refine HS.out.mono ?_
  rintro e w1 ⟨v1, rfl, hv, hb⟩
  have HV := Lib.hid hv
  have HB := Lib.hid hb
  clear hv hb
  go_wp2
  go_ret
  exact ⟨_, rfl, HV.out, HB.out⟩

end Go.Proofs.Ytidigbjlglomhaa
