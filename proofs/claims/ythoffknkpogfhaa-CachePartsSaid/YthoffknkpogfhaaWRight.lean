/- The walk of Right. -/
import Derived.Test.YthoffknkpogfhaaWCopied
set_option linter.unusedVariables false
set_option linter.unusedSimpArgs false
namespace Go.Proofs.Ythoffknkpogfhaa
open Go.RowKit

theorem Lies.take {α : Type} {cs : α → List Value} {k : Nat} {w : World} {B : Nat} {A : Option Addr} {l : List α} (h : Lies cs k w B A l) (j : Nat) : Lies cs k w B A (l.take j) := by
  intro hl
  rw [List.length_take] at hl
  obtain ⟨ad, e, hB, hc⟩ := h (by omega)
  refine ⟨ad, e, hB, fun i hi => ?_⟩
  rw [List.length_take] at hi
  rw [List.getElem_take]
  exact hc i (by omega)
theorem IV.take {w : World} {A : Option Addr} {n c k : Nat} {l : List It} (h : IV w (.slice A n c) l) (hk : k ≤ n) (hn : l.length = n) : IV w (.slice A k c) (l.take k) := by
  obtain ⟨A', c', e, hA, h1, h2⟩ := h
  injection e with e1 e2 e3
  subst e1 e3
  refine ⟨A, c, ?_, hA.take k, ?_, h2⟩
  · rw [List.length_take, Nat.min_eq_left (by omega)]
  · rw [List.length_take]; omega
theorem nodup_snoc {l : List It} {k : Nat} (hk : k < l.length) : ((l.take (k + 1)).map It.a).Nodup ↔ ((l.take k).map It.a).Nodup ∧ l[k].a ∉ (l.take k).map It.a := by
  rw [List.take_succ_eq_append_getElem hk, List.map_append, List.nodup_append]
  simp only [List.map_cons, List.map_nil, List.mem_singleton, List.nodup_cons, List.not_mem_nil, not_false_eq_true, List.nodup_nil, and_self, true_and]
  constructor
  · rintro ⟨h1, h2⟩
    exact ⟨h1, fun h => h2 _ h _ rfl rfl⟩
  · rintro ⟨h1, h2⟩
    refine ⟨h1, fun a ha b hb e => ?_⟩
    subst hb
    subst e
    exact h2 ha

def RgV (g gx n c k : Nat) (ad : Addr) (xa Z : Int) (b : Bool) (p t : Nat) (v : Value) (w : World) : Prop :=
  match t with
  | 25 => v = .pointer (some ⟨g, 1, none⟩)
  | 26 => v = .slice (some ad) n c
  | 27 => v = .int .i64 k
  | 28 => v = .slice (some ad) k c
  | 29 => v = .pointer (some ⟨gx, 0, none⟩)
  | 30 => v = .int .i64 xa
  | 31 => v = .int .i64 Z
  | 32 => v = .bool b
  | _ => True
theorem RgV.on {g gx n c k : Nat} {ad : Addr} {xa Z : Int} {b : Bool} {p t : Nat} {v : Value} {w w' : World} (h : RgV g gx n c k ad xa Z b p t v w) (hb : Below w.heap.size w w') : RgV g gx n c k ad xa Z b p t v w' := by
  unfold RgV at *
  split at h <;> first | exact h

set_option maxHeartbeats 4000000 in
set_option maxRecDepth 100000 in
theorem right_any {s : Value} {l : List It} (m : Int) (w : World) (hv : IV w s l) (hn : l.length ≤ 1000000) :
    Calls Try.prog 19 #[.agg #[.int .i64 m, s]] w fun e w' => e = .returned (.bool (rightL m l)) ∧ Below w.heap.size w w' := by
  obtain ⟨A, c, rfl, hv⟩ := (show ∃ A c, s = .slice A l.length c ∧ IV w (.slice A l.length c) l from by obtain ⟨A, c, e, h⟩ := hv; exact ⟨A, c, e, A, c, rfl, h⟩)
  obtain ⟨R, hR⟩ : ∃ R, R = rightL m l := ⟨_, rfl⟩
  rw [← hR]
  obtain ⟨n, hl⟩ : ∃ n, l.length = n := ⟨_, rfl⟩
  rw [hl] at hv hn ⊢
  have HL := Lib.hid hl
  have HR := Lib.hid hR
  obtain ⟨w1, hw1⟩ : ∃ w1, w1 = w.alloc (.cells #[.int .i64 m, .slice A n c] 24) := ⟨_, rfl⟩
  obtain ⟨g, hg⟩ : ∃ g, g = w.heap.size := ⟨_, rfl⟩
  have BX0 := Lib.hid (show Box w1 g 24 #[.int .i64 m, .slice A n c] from by rw [hw1]; exact Box.at_ w _ _ hg)
  have hb1 : Below w.heap.size w w1 := by rw [hw1]; exact (Below.refl _ _).alloc (Nat.le_refl _) _
  have HV0 := Lib.hid (hv.on hb1)
  have HB0 := Lib.hid hb1
  have hc := fun w => may_any m w
  obtain ⟨bm, hbm⟩ : ∃ bm, bm = mayM m := ⟨_, rfl⟩
  rw [← hbm] at hc
  have HBM := Lib.hid hbm
  clear hbm hl hR hb1 hv
  have c0 := Box.cell BX0.out 0 rfl
  have c1 := Box.cell BX0.out 1 rfl
  go_enter Try.func19, Try.ntmps19
  go_upto_region 1 with fail
  rw [← hg, ← hw1]
  clear hg hw1
  cases bm with
  | false =>
    have HE := Lib.hid (show R = false from by
      rw [HR.out]
      cases h : rightL m l with
      | false => rfl
      | true =>
        rw [right_iff] at h
        have h2 := HBM.out
        unfold mayM at h2
        rw [decide_eq_true ⟨h.1, h.2.1⟩] at h2
        cases h2)
    go_wp2_with fail
    refine (hc _).mono ?_
    rintro e w2 ⟨rfl, hb2⟩
    have HB2 := Lib.hid (HB0.out.trans (hb2.mono HB0.out.size))
    clear hb2 hc c0 c1
    go_wp2
    go_ret
    rw [HE.out]
    exact ⟨rfl, HB2.out⟩
  | true =>
    have HM := Lib.hid (show 1 ≤ m ∧ m ≤ 100 from by have := HBM.out; unfold mayM at this; exact of_decide_eq_true this.symm)
    go_wp2_with fail
    refine (hc _).mono ?_
    rintro e w2 ⟨rfl, hb2⟩
    have HB2 := Lib.hid (HB0.out.trans (hb2.mono HB0.out.size))
    have BX2 := Lib.hid (BX0.out.on hb2)
    have HV2 := Lib.hid (HV0.out.on hb2)
    have k0 := Box.cell BX2.out 0 rfl
    have k1 := Box.cell BX2.out 1 rfl
    clear hb2 hc c0 c1 BX0 HV0 HB0
    by_cases hnm : (n : Int) ≤ m
    · have HNM := Lib.hid hnm
      have hd : decide (m < (n : Int)) = false := by simp; omega
      clear hnm
      go_wp2
      go_loopw [20] (fun iv wr => ∃ (k : Nat), iv = .int .i64 k ∧ k ≤ n ∧ Hid (((l.take k).map It.a).Nodup) ∧ Hid (Box wr g 24 #[.int .i64 m, .slice A n c]) ∧ Hid (IV wr (.slice A n c) l) ∧ Below w.heap.size w wr) (fun iv _ => (n - intOf iv).toNat)
      case atStart => exact ⟨0, rfl, by omega, (show List.Nodup _ from by simp), BX2.out, HV2.out, HB2.out⟩
      case round =>
        obtain ⟨k, rfl, hk, HD, BX, HV, hbr⟩ := hrel
        clear k0 k1 hd
        by_cases hlt : k < n
        · obtain ⟨ad, rfl, hab, hca⟩ := (show Its wr wr.heap.size A l from by obtain ⟨A', c', e, h, _⟩ := HV.out; injection e with e1 _ _; rw [e1]; exact h).seeI (by rw [HL.out]; omega)
          have hkl : k < l.length := by rw [HL.out]; exact hlt
          obtain ⟨c1, c2, c3⟩ := hca k hkl
          obtain ⟨x, hx⟩ : ∃ x, x = l[k]'hkl := ⟨_, rfl⟩
          rw [← hx] at c1 c2 c3
          obtain ⟨b, hb⟩ : ∃ b, b = decide (x.a ∈ (l.take k).map It.a) := ⟨_, rfl⟩
          have HN := Lib.hid (show ((l.take (k + 1)).map It.a).Nodup ↔ b = false from by
            rw [nodup_snoc hkl, ← hx, hb]
            constructor
            · exact fun h => decide_eq_false h.2
            · exact fun h => ⟨HD.out, of_decide_eq_false h⟩)
          obtain ⟨Z, hZ⟩ : ∃ Z, Z = idxL (l.take k) x.a := ⟨_, rfl⟩
          have HZB := Lib.hid (show decide (0 ≤ Z) = b from by rw [hZ, hb]; exact idxL_take)
          have HT := Lib.hid (HV.out.take (k := k) (by omega) HL.out)
          have HTL := Lib.hid (show (l.take k).length ≤ maxLen from by rw [List.length_take]; unfold maxLen; omega)
          have hfc0 := fun (wx : World) (hi : IV wx (.slice (some ad) k c) (l.take k)) => find_any x.a wx hi HTL.out
          rw [← hZ] at hfc0
          have HFC := Lib.hid hfc0
          have hbs := hbr.size
          have k1 := Box.cell BX.out 1 rfl
          clear hx hca hkl hb hZ hfc0
          obtain ⟨xa, xt, xd⟩ := x
          simp only at c1 c2 c3
          go_upto_region 6 with fail
          obtain ⟨gx, hgx⟩ : ∃ gx, gx = wr.heap.size := ⟨_, rfl⟩
          rw [← hgx]
          obtain ⟨w2, hw2⟩ : ∃ w2, w2 = wr.alloc (.cells #[.int .i64 xa, .string xt, .bool xd] 27) := ⟨_, rfl⟩
          rw [← hw2]
          have BY := Lib.hid (show Box w2 gx 27 #[.int .i64 xa, .string xt, .bool xd] from by rw [hw2]; exact Box.at_ wr _ _ hgx)
          have hb2 : Below wr.heap.size wr w2 := by rw [hw2]; exact (Below.refl _ _).alloc (Nat.le_refl _) _
          have HT2 := Lib.hid (HT.out.on hb2)
          have HV2 := Lib.hid (HV.out.on hb2)
          have HB2 := Lib.hid (hbr.trans (hb2.mono hbs))
          have BX0 := BX
          have BX := Lib.hid (BX0.out.on hb2)
          have hfc := fun (wx : World) (hS : Below w2.heap.size w2 wx) => HFC.out wx (HT2.out.on hS)
          have hkn : (k : Int) ≤ (n : Int) := by omega
          have hkc : k ≤ c := by
            obtain ⟨_, _, e, _, h, _⟩ := HV2.out
            injection e with _ _ e3
            have := HL.out
            rw [e3]; omega
          clear hw2 hgx hb2 c1 c2 c3 hbr hbs BX0 HV HT HFC k1
          refine wp_region_phase 14 [25, 26, 27, 28, 29, 30, 31, 32] (by kernel_rfl) [] [] (fun _ _ => True) 0 rfl (by kernel_rfl) (SP (fun wx => Below w2.heap.size w2 wx) (fun _ => True) (fun _ => True)) (fun wa wb => Below wa.heap.size wa wb) (RgV g gx n c k ad xa Z b) (by kernel_rfl) (SP.on below_grow (fun _ _ _ _ => trivial) (fun _ _ _ _ => trivial)) (fun _ t v wa wb h1 h2 => h2.on h1) (fun _ _ _ _ _ _ _ => trivial) (Below.refl _ _).drew trivial (phase0 ?_) ?_
          · refine Steps1.cons (fun _ ax wx hS _ hG => ?_) (Steps1.cons (fun _ ax wx hS _ hG => ?_) (Steps1.cons (fun _ ax wx hS _ hG => ?_) (Steps1.cons (fun _ ax wx hS _ hG => ?_) (Steps1.cons (fun _ ax wx hS _ hG => ?_) (Steps1.cons (fun _ ax wx hS _ hG => ?_) (Steps1.cons (fun _ ax wx hS _ hG => ?_) (Steps1.cons (fun _ ax wx hS _ hG => ?_) Steps1.nil)))))))
            · have q1 := hG.old 1 (by kernel_rfl) (by kernel_rfl)
              refine step_slot rfl rfl rfl (step_value (v := .pointer (some ⟨g, 1, none⟩)) (w' := wx) rfl rfl ?_ (Below.refl _ _) (fun d hd => by cases hd; exact rfl))
              go_simp
            · obtain ⟨_, q25, rfl⟩ := hG.new 25 (by kernel_rfl) (by kernel_rfl)
              have z0 := Box.cell (BX.out.on hS) 1 rfl
              refine step_slot rfl rfl rfl (step_value (v := .slice (some ad) n c) (w' := wx) rfl rfl ?_ (Below.refl _ _) (fun d hd => by cases hd; exact rfl))
              go_simp
            · have q3 := hG.old 3 (by kernel_rfl) (by kernel_rfl)
              refine step_slot rfl rfl rfl (step_value (v := .int .i64 k) (w' := wx) rfl rfl ?_ (Below.refl _ _) (fun d hd => by cases hd; exact rfl))
              go_simp
            · obtain ⟨_, q26, rfl⟩ := hG.new 26 (by kernel_rfl) (by kernel_rfl)
              obtain ⟨_, q27, rfl⟩ := hG.new 27 (by kernel_rfl) (by kernel_rfl)
              refine step_slot rfl rfl rfl (step_value (v := .slice (some ad) k c) (w' := wx) rfl rfl ?_ (Below.refl _ _) (fun d hd => by cases hd; exact rfl))
              go_simp
            · have q4 := hG.old 4 (by kernel_rfl) (by kernel_rfl)
              refine step_slot rfl rfl rfl (step_value (v := .pointer (some ⟨gx, 0, none⟩)) (w' := wx) rfl rfl ?_ (Below.refl _ _) (fun d hd => by cases hd; exact rfl))
              go_simp
            · obtain ⟨_, q29, rfl⟩ := hG.new 29 (by kernel_rfl) (by kernel_rfl)
              have z0 := Box.cell (BY.out.on hS) 0 rfl
              refine step_slot rfl rfl rfl (step_value (v := .int .i64 xa) (w' := wx) rfl rfl ?_ (Below.refl _ _) (fun d hd => by cases hd; exact rfl))
              go_simp
            · obtain ⟨_, q28, rfl⟩ := hG.new 28 (by kernel_rfl) (by kernel_rfl)
              obtain ⟨_, q30, rfl⟩ := hG.new 30 (by kernel_rfl) (by kernel_rfl)
              refine step_slot rfl rfl rfl (step_call (w1 := wx) (f := 24) (args := #[.slice (some ad) k c, .int .i64 xa]) rfl rfl ?_ ((hfc wx hS).mono ?_))
              · skip
                go_simp
              · rintro e w' ⟨rfl, hq⟩
                exact ⟨_, rfl, hq, fun d hd => by cases hd; exact rfl⟩
            · obtain ⟨_, q31, rfl⟩ := hG.new 31 (by kernel_rfl) (by kernel_rfl)
              refine step_slot rfl rfl rfl (step_value (v := .bool b) (w' := wx) rfl rfl ?_ (Below.refl _ _) (fun d hd => by cases hd; exact rfl))
              have hzb := HZB.out
              (go_simp; first | done | exact hzb | simp [hzb])
          intro fv w8 hS8 _ hV8
          have e32 : fv 32 = .bool b := hV8 32 (by decide)
          simp only [puts, Act.put, List.setIfInBounds_toArray, List.set_cons_succ, List.set_cons_zero]
          clear hV8
          rw [e32]
          have HB8 := Lib.hid (HB2.out.trans ((show Below _ _ _ from hS8).mono HB2.out.size))
          have HV8 := Lib.hid (HV2.out.on hS8)
          have BX8 := Lib.hid (BX.out.on hS8)
          clear hS8 hfc
          cases b with
          | true =>
            have HE := Lib.hid (show R = false from by
              rw [HR.out]
              cases h : rightL m l with
              | false => rfl
              | true =>
                rw [right_iff] at h
                have h3 : ((l.take (k + 1)).map It.a).Nodup := h.2.2.2.sublist ((List.take_sublist _ _).map _)
                have := HN.out.1 h3
                cases this)
            go_wp2
            go_ret
            rw [HE.out]
            exact ⟨rfl, HB8.out⟩
          | false =>
            go_wp2
            go_roundw
            case rel => exact ⟨k + 1, by go_num, by omega, HN.out.2 rfl, BX8.out, HV8.out, HB8.out⟩
            case measure => simp [intOf]; omega
        · have HE := Lib.hid (show R = true from by
            rw [HR.out, right_iff]
            have h := HD.out
            rw [List.take_of_length_le (by rw [HL.out]; omega)] at h
            exact ⟨HM.out.1, HM.out.2, by rw [HL.out]; exact HNM.out, h⟩)
          go_wp2
          go_ret
          rw [HE.out]
          exact ⟨rfl, hbr⟩
    · have HE := Lib.hid (show R = false from by
        rw [HR.out]
        cases h : rightL m l with
        | false => rfl
        | true =>
          rw [right_iff] at h
          rw [HL.out] at h
          exact absurd h.2.2.1 hnm)
      have hd : decide (m < (n : Int)) = true := by simp; omega
      clear hnm
      go_wp2
      go_ret
      rw [HE.out]
      exact ⟨rfl, HB2.out⟩

end Go.Proofs.Ythoffknkpogfhaa
