/- The walk of the document's Clean. -/
import Derived.Test.YthoffknkpogfhaaRPut
import Derived.Test.YthoffknkpogfhaaWClean
set_option linter.unusedVariables false
set_option linter.unusedSimpArgs false
namespace Go.Proofs.Ythoffknkpogfhaa
open Go.RowKit

/-- Of what was there the row of v alone may have been written. -/
structure GB (wd : World) (v : Value) (w : World) : Prop where
  g : wd.grownBy w v.ownBlock
def RcS (g k n c : Nat) (B0 B1 : Nat) (ad : Addr) (OB : Option Nat) (va : Value) (XS : List Value) (xa : Int) (xt : ByteArray) (p t : Nat) (v : Value) (w : World) : Prop :=
  match t with
  | 34 => v = va
  | 35 => v = .pointer (some ⟨g, 1, none⟩)
  | 36 => v = .slice (some ad) n c
  | 37 => v = .int .i64 k
  | 38 => v = .pointer (some (ad.add (k * 3)))
  | 39 => v = .pointer (some (ad.add (k * 3)))
  | 40 => v = .int .i64 xa
  | 41 => v = .pointer (some ⟨g, 1, none⟩)
  | 42 => v = .slice (some ad) n c
  | 43 => v = .int .i64 k
  | 44 => v = .pointer (some (ad.add (k * 3)))
  | 45 => v = .pointer (some ⟨(ad.add (k * 3)).block, (ad.add (k * 3)).off + 1, none⟩)
  | 46 => v = .string xt
  | 47 => v = .agg #[.int .i64 xa, .string xt, .bool false]
  | 48 => p = 0 → ∃ h, v = .slice (some ⟨h, 0, none⟩) 1 1 ∧ Box w h 33 #[.int .i64 xa, .string xt, .bool false]
  | 49 => p = 1 ∧ ∃ A' c', v = .slice A' (k + 1) c' ∧ w.ownsRow B0 33 3 (.slice A' (k + 1) c') (k + 1) (XS ++ [.int .i64 xa, .string xt, .bool false]) ∧ ((Value.slice A' (k + 1) c').ownBlock = OB ∨ ∃ q, B1 ≤ q ∧ (Value.slice A' (k + 1) c').ownBlock = some q)
  | 6 => p = 1 ∧ ∃ A' c', v = .slice A' (k + 1) c' ∧ w.ownsRow B0 33 3 (.slice A' (k + 1) c') (k + 1) (XS ++ [.int .i64 xa, .string xt, .bool false]) ∧ ((Value.slice A' (k + 1) c').ownBlock = OB ∨ ∃ q, B1 ≤ q ∧ (Value.slice A' (k + 1) c').ownBlock = some q)
  | _ => True
theorem RcS.on {g k n c : Nat} {B0 B1 : Nat} {ad : Addr} {OB : Option Nat} {va : Value} {XS : List Value} {xa : Int} {xt : ByteArray} {p t : Nat} {v : Value} {w w' : World} (h : RcS g k n c B0 B1 ad OB va XS xa xt p t v w) (hb : Below w.heap.size w w') : RcS g k n c B0 B1 ad OB va XS xa xt p t v w' := by
  unfold RcS at *
  split at h <;> first | exact h | exact fun e => (let ⟨q, e1, h1⟩ := h e; ⟨q, e1, h1.on hb⟩) | exact (let ⟨e0, A', c', e1, h1, h2⟩ := h; ⟨e0, A', c', e1, own_on h1 hb, h2⟩)

set_option maxHeartbeats 4000000 in
set_option maxRecDepth 100000 in
theorem rclean_any {s : Value} {l : List It} (m : Int) (w : World) (hv : IV w s l) (hn : l.length ≤ 1000) :
    Calls Try.prog 17 #[.agg #[.int .i64 m, s]] w fun e w' => ∃ s' o', e = .returned (.tuple #[.agg #[.int .i64 m, s'], o']) ∧ IV w' s' (cleanC m l).1 ∧ IV w' o' (cleanC m l).2 ∧ Below w.heap.size w w' := by
  obtain ⟨E, hE⟩ : ∃ E, E = cleanC m l := ⟨_, rfl⟩
  obtain ⟨R, hR⟩ : ∃ R, R = rightL m l := ⟨_, rfl⟩
  rw [← hE]
  have HE := Lib.hid hE
  have HR := Lib.hid hR
  obtain ⟨A, c, rfl, hv⟩ := (show ∃ A c, s = .slice A l.length c ∧ IV w (.slice A l.length c) l from by obtain ⟨A, c, e, h⟩ := hv; exact ⟨A, c, e, A, c, rfl, h⟩)
  obtain ⟨n, hl⟩ : ∃ n, l.length = n := ⟨_, rfl⟩
  rw [hl] at hv hn ⊢
  have HL := Lib.hid hl
  have HVW := Lib.hid hv
  obtain ⟨w1, hw1⟩ : ∃ w1, w1 = w.alloc (.cells #[.int .i64 m, .slice A n c] 32) := ⟨_, rfl⟩
  obtain ⟨w3, hw3⟩ : ∃ w3, w3 = w1.alloc (.cells #[.int .i64 0, .slice none 0 0] 32) := ⟨_, rfl⟩
  obtain ⟨g, hg⟩ : ∃ g, g = w.heap.size := ⟨_, rfl⟩
  obtain ⟨ga, hga⟩ : ∃ q, q = w1.heap.size := ⟨_, rfl⟩
  have e4 : g + 1 = ga := by rw [hga, hw1, hg]; simp
  have BX0 := Lib.hid (show Box w3 g 32 #[.int .i64 m, .slice A n c] from by rw [hw3]; exact Box.push (by rw [hw1]; exact Box.at_ w _ _ hg) _)
  have B40 := Lib.hid (show Box w3 ga 32 #[.int .i64 0, .slice none 0 0] from by rw [hw3]; exact Box.at_ w1 _ _ hga)
  have hb3 : Below w.heap.size w w3 := by rw [hw3, hw1]; exact ((Below.refl _ _).alloc (Nat.le_refl _) _).alloc (by simp) _
  have HV0 := Lib.hid (hv.on hb3)
  have HB0 := Lib.hid hb3
  have HGW := Lib.hid (show w.heap.size ≤ g ∧ w.heap.size ≤ ga ∧ g ≠ ga ∧ ga < w3.heap.size ∧ g < w3.heap.size from ⟨by omega, by omega, by omega, Box.lt B40.out, Box.lt BX0.out⟩)
  have hc2 := fun (wx : World) (h : IV wx (.slice A n c) l) => rright_any m wx h (by omega)
  rw [← hR] at hc2
  have HC2' := Lib.hid hc2
  have k0 := Box.cell BX0.out 0 rfl
  have k1 := Box.cell BX0.out 1 rfl
  clear hE hR hv hc2 hl hb3
  go_enter Try.func17, Try.ntmps17
  go_upto_region 1 with fail
  rw [← hg, e4, ← hw1, ← hw3]
  clear hg hga e4 hw1 hw3
  go_wp2_with fail
  refine (HC2'.out _ HV0.out).mono ?_
  rintro e wb ⟨rfl, hb⟩
  have HB6 := Lib.hid (HB0.out.trans (hb.mono HB0.out.size))
  have BX6 := Lib.hid (BX0.out.on hb)
  have B46 := Lib.hid (B40.out.on hb)
  have HGS := Lib.hid (show w3.heap.size ≤ wb.heap.size from hb.size)
  clear hb k0 k1 HC2' BX0 B40 HV0 HB0
  cases R with
  | false =>
    have k0 := Box.cell BX6.out 0 rfl
    have k1 := Box.cell BX6.out 1 rfl
    obtain ⟨W, hW, hcs, hbW, hoW⟩ := ans_cache B46.out HB6.out HGW.out.2.1 (.int .i64 m) (.slice A n c)
    have HW := Lib.hid hW
    have HCS := Lib.hid hcs
    have HBZ := Lib.hid hbW
    have m0 := Box.cell B46.out 0 rfl
    have m1 := Box.cell B46.out 1 rfl
    have f0 := Box.free B46.out 0
    have f1 := Box.free B46.out 1
    clear hW hcs hbW hoW
    go_wp2
    rw [← HW.out]
    obtain ⟨p0, p1⟩ := HCS.out
    have hF : E = (l, []) := by rw [HE.out]; unfold cleanC; rw [← HR.out]; rfl
    rw [hF]
    exact bodyPost_ret (v := .tuple #[.agg #[.int .i64 m, .slice A n c], .slice none 0 0]) (by simp [results, Try.results17, go_sem, p0, p1]) rfl ⟨_, _, rfl, HVW.out.on HBZ.out, IV.nil _, HBZ.out⟩
  | true =>
    have HP := Lib.hid (show E = (l.map wash, l.filter It.d) from by rw [HE.out]; unfold cleanC; rw [← HR.out]; rfl)
    have hn1000 : n ≤ 1000 := hn
    go_wp2
    go_loopw [5, 6, 7] (fun ov va iv wr => ∃ (k no : Nat), iv = .int .i64 k ∧ k ≤ n ∧ Hid (no = ((l.take k).filter It.d).length ∧ no ≤ k) ∧ Hid (wr.ownsRow wb.heap.size 33 3 ov no (((l.take k).filter It.d).flatMap It.cells)) ∧ Hid (wr.ownsRow wb.heap.size 33 3 va k (((l.take k).map wash).flatMap It.cells)) ∧ Hid (Apart2 va ov) ∧ Below wb.heap.size wb wr) (fun _ _ iv _ => (n - intOf iv).toNat)
    case atStart =>
      refine ⟨0, 0, rfl, by omega, ⟨by simp, Nat.le_refl _⟩, ?_, ?_, .inl rfl, Below.refl _ _⟩
      · show World.ownsRow _ _ _ _ _ _ _
        simpa using World.ownsRow_nil wb wb.heap.size _ 3
      · show World.ownsRow _ _ _ _ _ _ _
        simpa using World.ownsRow_nil wb wb.heap.size _ 3
    case round =>
      obtain ⟨k, no, rfl, hk, HNN, HOO, HOAr, HAP, hbr⟩ := hrel
      by_cases hlt : k < n
      · obtain ⟨ad, rfl, hab, hca⟩ := (show Its wr wr.heap.size A l from by obtain ⟨A', c', e, h, _⟩ := HVW.out.on (HB6.out.trans (hbr.mono HB6.out.size)); injection e with e1 _ _; rw [e1]; exact h).seeI (by rw [HL.out]; omega)
        have hkl : k < l.length := by rw [HL.out]; exact hlt
        obtain ⟨c1, c2, c3⟩ := hca k hkl
        obtain ⟨x, hx⟩ : ∃ x, x = l[k]'hkl := ⟨_, rfl⟩
        rw [← hx] at c1 c2 c3
        have HFN := Lib.hid (show (l.take (k + 1)).filter It.d = (l.take k).filter It.d ++ (if x.d then [x] else []) from by
          rw [List.take_succ_eq_append_getElem hkl, List.filter_append, ← hx]
          cases h : x.d <;> simp [h])
        have HWN := Lib.hid (show ((l.take (k + 1)).map wash).flatMap It.cells = ((l.take k).map wash).flatMap It.cells ++ [.int .i64 x.a, .string x.t, .bool false] from by
          rw [List.take_succ_eq_append_getElem hkl, List.map_append, List.flatMap_append, ← hx]
          simp [wash, It.cells])
        have HKN := Lib.hid (show k ≤ 100000 from by omega)
        have HBR := Lib.hid hbr
        have kx1 := Box.cell (BX6.out.on hbr) 1 rfl
        have hkn2 : (k : Int) < (n : Int) := by omega
        have HX := Lib.hid hx
        have HKL := Lib.hid hkl
        clear hca hab hbr hx
        have HAW := Lib.hid (show ∀ wx, Below w.heap.size w wx → wx.cell? (ad.add (k * 3)) = some (.int .i64 x.a) ∧ wx.cell? ⟨(ad.add (k * 3)).block, (ad.add (k * 3)).off + 1, none⟩ = some (.string x.t) from fun wx hbx => by
          obtain ⟨a2, e2, _, hc2⟩ := (show Its wx wx.heap.size (some ad) l from by obtain ⟨A', c', e, h, _⟩ := HVW.out.on hbx; injection e with e1 _ _; rw [e1]; exact h).seeI (by have := HKL.out; omega)
          injection e2 with e2
          subst e2
          have h := hc2 k HKL.out
          rw [← HX.out] at h
          exact ⟨h.1, h.2.1⟩)
        obtain ⟨xa, xt, xd⟩ := x
        simp only at c1 c2 c3 HFN HWN HAW
        go_upto_if 25 with fail
        go_cut [5] (fun ov2 wx => ∃ nd : Nat, Hid (nd = ((l.take (k + 1)).filter It.d).length ∧ nd ≤ k + 1) ∧ Hid (wx.ownsRow wb.heap.size 33 3 ov2 nd (((l.take (k + 1)).filter It.d).flatMap It.cells)) ∧ Hid (wx.ownsRow wb.heap.size 33 3 u6 k (((l.take k).map wash).flatMap It.cells)) ∧ Hid (Apart2 u6 ov2) ∧ Hid (Below wb.heap.size wb wx))
        case first =>
          cases xd with
          | false =>
            go_wp2
            go_meet
            case rel =>
              refine ⟨no, ?_, ?_, HOAr.out, HAP.out, HBR.out⟩
              · show _ ∧ _
                rw [HFN.out]; have := HNN.out; exact ⟨by simpa using this.1, by omega⟩
              · show World.ownsRow _ _ _ _ _ _ _
                rw [HFN.out]; simpa using HOO.out
          | true =>
            go_wp2_with (at_builtin; refine push_it ritem_info Try.underlying30 _ rfl _ _ rfl wb.heap.size _ no _ rfl (own_on HOO.out ((Below.refl _ _).alloc (Nat.le_refl _) _)) wr.heap.size ⟨xa, xt, true⟩ rfl (Box.fresh _ _ _) (by have := HNN.out; omega) (by have := HBR.out.size; simp; omega) ?_)
            intro od wd hown hgr hat
            have hb1 : Below wr.heap.size wr (wr.alloc (.cells #[.int .i64 xa, .string xt, .bool true] 33)) := (Below.refl _ _).alloc (Nat.le_refl _) _
            have HBRD := Lib.hid ((HBR.out.trans (hb1.mono HBR.out.size)).grown hgr (by have := HBR.out.size; simp; omega) (fun q hq => (own_lt HOO.out hq).1))
            have HOA := Lib.hid (own_grown (own_on HOAr.out hb1) hgr HAP.out.symm)
            have HAPD := Lib.hid ((Apart2.grow HAP.out.symm (own_on HOAr.out hb1) (hat.imp id fun h => ⟨wr.heap.size + 1, by simp, h⟩)).symm)
            have HOD := Lib.hid hown
            clear hown hgr hat hb1 c1 c2 c3 kx1
            go_wp2
            go_meet
            case rel =>
              refine ⟨no + 1, ?_, ?_, HOA.out, HAPD.out, HBRD.out⟩
              · show _ ∧ _
                rw [HFN.out]; have := HNN.out; exact ⟨by simpa using this.1, by omega⟩
              · show World.ownsRow _ _ _ _ _ _ _
                rw [HFN.out, List.flatMap_append]; simpa using HOD.out
        case rest =>
          clear c1 c2 c3 kx1 HOO HOAr HAP HBR HNN
          obtain ⟨nd, HND, HOD, HOA, HAPD, HBD⟩ := hcut
          obtain ⟨wd, hwd⟩ : ∃ wd, wd = wc := ⟨_, rfl⟩
          rw [← hwd] at HOD HOA HBD ⊢
          clear hwd
          have hdc := HAW.out wd (HB6.out.trans (HBD.out.mono HB6.out.size))
          have HC1 := Lib.hid hdc.1
          have HC2 := Lib.hid hdc.2
          have BX := Lib.hid (BX6.out.on HBD.out)
          have HSB := Lib.hid HBD.out.size
          clear hdc
          go_upto_region 10 with fail
          refine wp_region_phase 14 [34, 35, 36, 37, 38, 39, 40, 41, 42, 43, 44, 45, 46, 47, 48, 49, 6] (by kernel_rfl) [15] [] (fun _ _ => True) 1 rfl (by kernel_rfl) (SP (fun wx => Below wd.heap.size wd wx) (fun wx => GB wd u6 wx) (fun _ => True)) (fun wa wb => Below wa.heap.size wa wb) (RcS g k n c wb.heap.size wd.heap.size ad u6.ownBlock u6 (((l.take k).map wash).flatMap It.cells) xa xt) (by kernel_rfl) (SP.on below_grow (fun wa wb h hs => ⟨grown_trans hs.1 (below_grown h _)⟩) (fun _ _ _ _ => trivial)) (fun _ t v wa wb h1 h2 => h2.on h1) (fun _ _ _ _ _ _ _ => trivial) (Below.refl _ _).drew trivial (phase1 ?_ ?_) ?_
          · refine Steps1.cons (fun _ ax wx hS _ hG => ?_) (Steps1.cons (fun _ ax wx hS _ hG => ?_) (Steps1.cons (fun _ ax wx hS _ hG => ?_) (Steps1.cons (fun _ ax wx hS _ hG => ?_) (Steps1.cons (fun _ ax wx hS _ hG => ?_) (Steps1.cons (fun _ ax wx hS _ hG => ?_) (Steps1.cons (fun _ ax wx hS _ hG => ?_) (Steps1.cons (fun _ ax wx hS _ hG => ?_) (Steps1.cons (fun _ ax wx hS _ hG => ?_) (Steps1.cons (fun _ ax wx hS _ hG => ?_) (Steps1.cons (fun _ ax wx hS _ hG => ?_) (Steps1.cons (fun _ ax wx hS _ hG => ?_) (Steps1.cons (fun _ ax wx hS _ hG => ?_) (Steps1.cons (fun _ ax wx hS _ hG => ?_) (Steps1.cons (fun _ ax wx hS _ hG => ?_) (Steps1.cons (fun _ ax wx hS _ hG => ?_) (Steps1.cons (fun hin _ _ _ _ _ => out (by kernel_rfl) hin) Steps1.nil))))))))))))))))
            · have q6 := hG.old 6 (by kernel_rfl) (by kernel_rfl)
              refine step_slot rfl rfl rfl (step_value (v := u6) (w' := wx) rfl rfl ?_ (Below.refl _ _) (fun d hd => by cases hd; exact rfl))
              go_simp
            · have q1 := hG.old 1 (by kernel_rfl) (by kernel_rfl)
              refine step_slot rfl rfl rfl (step_value (v := .pointer (some ⟨g, 1, none⟩)) (w' := wx) rfl rfl ?_ (Below.refl _ _) (fun d hd => by cases hd; exact rfl))
              go_simp
            · obtain ⟨_, q35, rfl⟩ := hG.new 35 (by kernel_rfl) (by kernel_rfl)
              have z0 := Box.cell (BX.out.on hS) 1 rfl
              refine step_slot rfl rfl rfl (step_value (v := .slice (some ad) n c) (w' := wx) rfl rfl ?_ (Below.refl _ _) (fun d hd => by cases hd; exact rfl))
              go_simp
            · have q7 := hG.old 7 (by kernel_rfl) (by kernel_rfl)
              refine step_slot rfl rfl rfl (step_value (v := .int .i64 k) (w' := wx) rfl rfl ?_ (Below.refl _ _) (fun d hd => by cases hd; exact rfl))
              go_simp
            · obtain ⟨_, q36, rfl⟩ := hG.new 36 (by kernel_rfl) (by kernel_rfl)
              obtain ⟨_, q37, rfl⟩ := hG.new 37 (by kernel_rfl) (by kernel_rfl)
              refine step_slot rfl rfl rfl (step_value (v := .pointer (some (ad.add (k * 3)))) (w' := wx) rfl rfl ?_ (Below.refl _ _) (fun d hd => by cases hd; exact rfl))
              go_simp
            · obtain ⟨_, q38, rfl⟩ := hG.new 38 (by kernel_rfl) (by kernel_rfl)
              refine step_slot rfl rfl rfl (step_value (v := .pointer (some (ad.add (k * 3)))) (w' := wx) rfl rfl ?_ (Below.refl _ _) (fun d hd => by cases hd; exact rfl))
              go_simp
            · obtain ⟨_, q39, rfl⟩ := hG.new 39 (by kernel_rfl) (by kernel_rfl)
              have hb := (show Below _ _ _ from hS)
              have z0 := (hb.cell (lt_of_cell HC1.out)).trans HC1.out
              clear hb
              refine step_slot rfl rfl rfl (step_value (v := .int .i64 xa) (w' := wx) rfl rfl ?_ (Below.refl _ _) (fun d hd => by cases hd; exact rfl))
              go_simp
            · have q1 := hG.old 1 (by kernel_rfl) (by kernel_rfl)
              refine step_slot rfl rfl rfl (step_value (v := .pointer (some ⟨g, 1, none⟩)) (w' := wx) rfl rfl ?_ (Below.refl _ _) (fun d hd => by cases hd; exact rfl))
              go_simp
            · obtain ⟨_, q41, rfl⟩ := hG.new 41 (by kernel_rfl) (by kernel_rfl)
              have z0 := Box.cell (BX.out.on hS) 1 rfl
              refine step_slot rfl rfl rfl (step_value (v := .slice (some ad) n c) (w' := wx) rfl rfl ?_ (Below.refl _ _) (fun d hd => by cases hd; exact rfl))
              go_simp
            · have q7 := hG.old 7 (by kernel_rfl) (by kernel_rfl)
              refine step_slot rfl rfl rfl (step_value (v := .int .i64 k) (w' := wx) rfl rfl ?_ (Below.refl _ _) (fun d hd => by cases hd; exact rfl))
              go_simp
            · obtain ⟨_, q42, rfl⟩ := hG.new 42 (by kernel_rfl) (by kernel_rfl)
              obtain ⟨_, q43, rfl⟩ := hG.new 43 (by kernel_rfl) (by kernel_rfl)
              refine step_slot rfl rfl rfl (step_value (v := .pointer (some (ad.add (k * 3)))) (w' := wx) rfl rfl ?_ (Below.refl _ _) (fun d hd => by cases hd; exact rfl))
              go_simp
            · obtain ⟨_, q44, rfl⟩ := hG.new 44 (by kernel_rfl) (by kernel_rfl)
              refine step_slot rfl rfl rfl (step_value (v := .pointer (some ⟨(ad.add (k * 3)).block, (ad.add (k * 3)).off + 1, none⟩)) (w' := wx) rfl rfl ?_ (Below.refl _ _) (fun d hd => by cases hd; exact rfl))
              go_simp
            · obtain ⟨_, q45, rfl⟩ := hG.new 45 (by kernel_rfl) (by kernel_rfl)
              have hb := (show Below _ _ _ from hS)
              have z0 := (hb.cell (lt_of_cell HC2.out)).trans HC2.out
              clear hb
              refine step_slot rfl rfl rfl (step_value (v := .string xt) (w' := wx) rfl rfl ?_ (Below.refl _ _) (fun d hd => by cases hd; exact rfl))
              go_simp
            · obtain ⟨_, q40, rfl⟩ := hG.new 40 (by kernel_rfl) (by kernel_rfl)
              obtain ⟨_, q46, rfl⟩ := hG.new 46 (by kernel_rfl) (by kernel_rfl)
              refine step_slot rfl rfl rfl (step_value (v := .agg #[.int .i64 xa, .string xt, .bool false]) (w' := wx) rfl rfl ?_ (Below.refl _ _) (fun d hd => by cases hd; exact rfl))
              go_simp
            · obtain ⟨_, q47, rfl⟩ := hG.new 47 (by kernel_rfl) (by kernel_rfl)
              refine step_slot rfl rfl rfl (step_value (v := .slice (some ⟨wx.heap.size, 0, none⟩) 1 1) (w' := wx.alloc (.cells #[.int .i64 xa, .string xt, .bool false] 33)) rfl rfl ?_ ((Below.refl _ _).alloc (Nat.le_refl _) _) (fun d hd => by cases hd; exact fun _ => ⟨_, rfl, Box.fresh _ _ _⟩))
              go_simp
            · obtain ⟨v34, q34, h34⟩ := hG.new 34 (by kernel_rfl) (by kernel_rfl)
              have p34 : v34 = u6 := h34
              obtain ⟨v48, q48, h48⟩ := hG.new 48 (by kernel_rfl) (by kernel_rfl)
              have p48 : 0 = 0 → ∃ h, v48 = .slice (some ⟨h, 0, none⟩) 1 1 ∧ Box wx h 33 #[.int .i64 xa, .string xt, .bool false] := h48
              obtain ⟨h, rfl, hbx⟩ := p48 rfl
              have hb := (show Below _ _ _ from hS)
              obtain ⟨v2, w2, hr, o2, g2, a2⟩ := run_push ritem_info Try.underlying30 wx 0 wb.heap.size u6 k _ (own_on HOA.out hb) h ⟨xa, xt, false⟩ hbx HKN.out (Nat.le_trans HSB.out hb.size)
              obtain ⟨A2, c2, rfl⟩ := own_shape o2
              have hr' : ∀ ty, (Builtin.append_ #[30, 30] ty #[u6, .slice (some ⟨h, 0, none⟩) 1 1]).run Try.prog wx = .ok (.slice A2 (k + 1) c2) w2 := fun _ => hr
              refine step_marked (v := .slice A2 (k + 1) c2) (w' := w2) rfl rfl rfl rfl ?_ ⟨grown_trans (below_grown hb _) g2⟩ trivial ?_ ?_
              · have e1 : ax.eval (.tmp 34) = u6 := by rw [← p34]; simp [Act.eval, q34]
                have e2 : ax.eval (.tmp 48) = .slice (some ⟨h, 0, none⟩) 1 1 := by simp [Act.eval, q48]
                unfold execOp
                simp only [resolve, invoke, builtin, Sem.run_bind, Sem.run_pure, Result.andThen_ok, List.map_toArray, List.map_cons, List.map_nil, e1, e2, hr' _]
              · exact ⟨rfl, A2, c2, rfl, o2, a2.imp id (fun e => ⟨wx.heap.size, hb.size, e⟩)⟩
              · intro t u _ ht hu hV
                unfold RcS at *
                split at hV <;> first | exact hV | exact fun h => absurd h (by decide) | exact absurd rfl ht | exact absurd hV.1 (by decide)
          · refine Steps1.cons (fun hin _ _ _ _ _ => out (by kernel_rfl) hin) (Steps1.cons (fun hin _ _ _ _ _ => out (by kernel_rfl) hin) (Steps1.cons (fun hin _ _ _ _ _ => out (by kernel_rfl) hin) (Steps1.cons (fun hin _ _ _ _ _ => out (by kernel_rfl) hin) (Steps1.cons (fun hin _ _ _ _ _ => out (by kernel_rfl) hin) (Steps1.cons (fun hin _ _ _ _ _ => out (by kernel_rfl) hin) (Steps1.cons (fun hin _ _ _ _ _ => out (by kernel_rfl) hin) (Steps1.cons (fun hin _ _ _ _ _ => out (by kernel_rfl) hin) (Steps1.cons (fun hin _ _ _ _ _ => out (by kernel_rfl) hin) (Steps1.cons (fun hin _ _ _ _ _ => out (by kernel_rfl) hin) (Steps1.cons (fun hin _ _ _ _ _ => out (by kernel_rfl) hin) (Steps1.cons (fun hin _ _ _ _ _ => out (by kernel_rfl) hin) (Steps1.cons (fun hin _ _ _ _ _ => out (by kernel_rfl) hin) (Steps1.cons (fun hin _ _ _ _ _ => out (by kernel_rfl) hin) (Steps1.cons (fun hin _ _ _ _ _ => out (by kernel_rfl) hin) (Steps1.cons (fun hin _ _ _ _ _ => out (by kernel_rfl) hin) (Steps1.cons (fun _ ax wx hS _ hG => ?_) Steps1.nil))))))))))))))))
            · obtain ⟨v49, q49, h49⟩ := hG.new 49 (by kernel_rfl) (by kernel_rfl)
              have p49 : 1 = 1 ∧ ∃ A' c', v49 = .slice A' (k + 1) c' ∧ wx.ownsRow wb.heap.size 33 3 (.slice A' (k + 1) c') (k + 1) ((((l.take k).map wash).flatMap It.cells) ++ [.int .i64 xa, .string xt, .bool false]) ∧ ((Value.slice A' (k + 1) c').ownBlock = u6.ownBlock ∨ ∃ q, wd.heap.size ≤ q ∧ (Value.slice A' (k + 1) c').ownBlock = some q) := h49
              refine step_slot rfl rfl rfl (step_value (v := v49) (w' := wx) rfl rfl ?_ (Below.refl _ _) (fun d hd => by cases hd; exact p49))
              clear h49 p49
              go_simp
          intro fv w8 hS8 _ hV8
          have e6 : 1 = 1 ∧ ∃ A' c', (fv 6) = .slice A' (k + 1) c' ∧ w8.ownsRow wb.heap.size 33 3 (.slice A' (k + 1) c') (k + 1) ((((l.take k).map wash).flatMap It.cells) ++ [.int .i64 xa, .string xt, .bool false]) ∧ ((Value.slice A' (k + 1) c').ownBlock = u6.ownBlock ∨ ∃ q, wd.heap.size ≤ q ∧ (Value.slice A' (k + 1) c').ownBlock = some q) := hV8 6 (by decide)
          simp only [puts, Act.put, List.setIfInBounds_toArray, List.set_cons_succ, List.set_cons_zero]
          clear hV8
          obtain ⟨_, A9, c9, e6, o9, a9⟩ := e6
          rw [e6]
          have hgw : wd.grownBy w8 u6.ownBlock := (show GB wd u6 w8 from hS8).g
          have HB9 := Lib.hid (HBD.out.grown hgw HBD.out.size (fun q hq => (own_lt HOA.out hq).1))
          have HO9 := Lib.hid (own_grown HOD.out hgw HAPD.out)
          have HAP9 := Lib.hid (show Apart2 (.slice A9 (k + 1) c9) _ from Apart2.grow HAPD.out HOD.out a9)
          have HA9 := Lib.hid (show w8.ownsRow wb.heap.size 33 3 (.slice A9 (k + 1) c9) (k + 1) (((l.take (k + 1)).map wash).flatMap It.cells) from by rw [HWN.out]; exact o9)
          clear hgw e6 o9 a9 hS8
          go_wp2
          go_roundw
          case rel => exact ⟨k + 1, nd, by go_num, by have := HKL.out; have := HL.out; omega, HND.out, HO9.out, HA9.out, HAP9.out, HB9.out⟩
          case measure => have := HKL.out; have := HL.out; simp [intOf]; omega
      · have HKX := Lib.hid (show l.take k = l ∧ k = n from ⟨List.take_of_length_le (by rw [HL.out]; omega), by omega⟩)
        have BXz := BX6.out.on hbr
        have B4z := B46.out.on hbr
        have k0 := Box.cell BXz 0 rfl
        have k1 := Box.cell BXz 1 rfl
        obtain ⟨Az, cz, rfl⟩ := own_shape HOAr.out
        obtain ⟨W, hW, hcs, hbW, hoW⟩ := ans_cache B4z (HB6.out.trans (hbr.mono HB6.out.size)) HGW.out.2.1 (.int .i64 m) (.slice Az k cz)
        have HW := Lib.hid hW
        have HCS := Lib.hid hcs
        have HBZ := Lib.hid hbW
        have HOW := Lib.hid (hoW _ _ _ _ _ _ HOAr.out (own_far HOAr.out (by have := HGW.out; have := HGS.out; omega)))
        have HOOW := Lib.hid (hoW _ _ _ _ _ _ HOO.out (own_far HOO.out (by have := HGW.out; have := HGS.out; omega)))
        have m0 := Box.cell B4z 0 rfl
        have m1 := Box.cell B4z 1 rfl
        have f0 := Box.free B4z 0
        have f1 := Box.free B4z 1
        clear hW hcs hbW hoW BXz B4z
        go_wp2
        rw [← HW.out]
        obtain ⟨p0, p1⟩ := HCS.out
        rw [HP.out]
        have h1 := HOW.out
        have h2 := HOOW.out
        have h3 := HNN.out
        rw [HKX.out.1] at h1 h2 h3
        exact bodyPost_ret (v := .tuple #[.agg #[.int .i64 m, .slice Az k cz], u5]) (by simp [results, Try.results17, go_sem, p0, p1]) rfl ⟨_, _, rfl, IV.own h1 (by rw [List.length_map, HL.out]; exact HKX.out.2), IV.own h2 h3.1, HBZ.out⟩

end Go.Proofs.Ythoffknkpogfhaa
