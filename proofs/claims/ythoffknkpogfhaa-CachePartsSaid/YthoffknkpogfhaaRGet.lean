/- The walk of the document's Get. -/
import Derived.Test.YthoffknkpogfhaaRRight
import Derived.Test.YthoffknkpogfhaaWGet
set_option linter.unusedVariables false
set_option linter.unusedSimpArgs false
namespace Go.Proofs.Ythoffknkpogfhaa
open Go.RowKit

theorem firstR_front {l : List It} (h : (l.map It.a).Nodup) (x : It) : firstR l x = front l x := by unfold firstR front; rw [without_filter h]

def RgS (g i n c : Nat) (B0 : Nat) (m : Int) (ad : Addr) (xa : Int) (xt : ByteArray) (xd : Bool) (G : List It) (p t : Nat) (v : Value) (w : World) : Prop :=
  match t with
  | 29 => v = .pointer (some ⟨g, 0, none⟩)
  | 30 => v = .int .i64 m
  | 31 => v = .pointer (some ⟨g, 1, none⟩)
  | 32 => v = .slice (some ad) n c
  | 33 => v = .pointer (some ⟨g, 1, none⟩)
  | 34 => v = .slice (some ad) n c
  | 35 => v = .int .i64 i
  | 36 => v = .pointer (some (ad.add (i * 3)))
  | 37 => v = .agg #[.int .i64 xa, .string xt, .bool xd]
  | 38 => p = 0 → ∃ A' c', v = .slice A' n c' ∧ w.ownsRow B0 33 3 (.slice A' n c') n (G.flatMap It.cells)
  | 39 => p = 0 → ∃ A' c', v = .agg #[.int .i64 m, .slice A' n c'] ∧ w.ownsRow B0 33 3 (.slice A' n c') n (G.flatMap It.cells)
  | 40 => v = .pointer (some ⟨g, 1, none⟩)
  | 41 => v = .slice (some ad) n c
  | 42 => v = .int .i64 i
  | 43 => v = .pointer (some (ad.add (i * 3)))
  | 44 => v = .agg #[.int .i64 xa, .string xt, .bool xd]
  | 6 => v = .bool true
  | _ => True
theorem RgS.on {g i n c : Nat} {B0 : Nat} {m : Int} {ad : Addr} {xa : Int} {xt : ByteArray} {xd : Bool} {G : List It} {p t : Nat} {v : Value} {w w' : World} (h : RgS g i n c B0 m ad xa xt xd G p t v w) (hb : Below w.heap.size w w') : RgS g i n c B0 m ad xa xt xd G p t v w' := by
  unfold RgS at *
  split at h <;> first | exact h | exact fun e => (let ⟨s', c', e1, h1⟩ := h e; ⟨s', c', e1, own_on h1 hb⟩)

set_option maxHeartbeats 4000000 in
set_option maxRecDepth 100000 in
theorem rget_any {s : Value} {l : List It} (m a : Int) (w : World) (hv : IV w s l) (hn : l.length ≤ 1000) :
    Calls Try.prog 11 #[.agg #[.int .i64 m, s], .int .i64 a] w fun e w' => ∃ s', e = .returned (.tuple #[.agg #[.int .i64 m, s'], (getI m l a).v, .bool (getB m l a)]) ∧ IV w' s' (getL m l a) ∧ Below w.heap.size w w' := by
  obtain ⟨A, c, rfl, hv⟩ := (show ∃ A c, s = .slice A l.length c ∧ IV w (.slice A l.length c) l from by obtain ⟨A, c, e, h⟩ := hv; exact ⟨A, c, e, A, c, rfl, h⟩)
  obtain ⟨n, hl⟩ : ∃ n, l.length = n := ⟨_, rfl⟩
  rw [hl] at hv hn ⊢
  have HL := Lib.hid hl
  obtain ⟨J, hJ⟩ : ∃ J, J = getI m l a := ⟨_, rfl⟩
  obtain ⟨K, hK⟩ : ∃ K, K = getB m l a := ⟨_, rfl⟩
  obtain ⟨E, hE⟩ : ∃ E, E = getL m l a := ⟨_, rfl⟩
  rw [← hJ, ← hK, ← hE]
  have HJ := Lib.hid hJ
  have HK := Lib.hid hK
  have HE := Lib.hid hE
  obtain ⟨R, hR⟩ : ∃ R, R = rightL m l := ⟨_, rfl⟩
  have HR := Lib.hid hR
  obtain ⟨w1, hw1⟩ : ∃ w1, w1 = w.alloc (.cells #[.int .i64 m, .slice A n c] 32) := ⟨_, rfl⟩
  obtain ⟨w2, hw2⟩ : ∃ w2, w2 = w1.alloc (.cells #[.int .i64 0, .slice none 0 0] 32) := ⟨_, rfl⟩
  obtain ⟨w3, hw3⟩ : ∃ w3, w3 = w2.alloc (.cells #[.int .i64 0, .string ⟨#[]⟩, .bool false] 33) := ⟨_, rfl⟩
  obtain ⟨g, hg⟩ : ∃ g, g = w.heap.size := ⟨_, rfl⟩
  obtain ⟨ga, hga⟩ : ∃ q, q = w1.heap.size := ⟨_, rfl⟩
  obtain ⟨gb, hgb⟩ : ∃ q, q = w2.heap.size := ⟨_, rfl⟩
  have e4 : g + 1 = ga := by rw [hga, hw1, hg]; simp
  have e5 : ga + 1 = gb := by rw [hgb, hw2, hga]; simp
  have BX0 := Lib.hid (show Box w3 g 32 #[.int .i64 m, .slice A n c] from by rw [hw3, hw2]; exact Box.push (Box.push (by rw [hw1]; exact Box.at_ w _ _ hg) _) _)
  have B40 := Lib.hid (show Box w3 ga 32 #[.int .i64 0, .slice none 0 0] from by rw [hw3]; exact Box.push (by rw [hw2]; exact Box.at_ w1 _ _ hga) _)
  have B50 := Lib.hid (show Box w3 gb 33 #[.int .i64 0, .string ⟨#[]⟩, .bool false] from by rw [hw3]; exact Box.at_ w2 _ _ hgb)
  have hb3 : Below w.heap.size w w3 := by rw [hw3, hw2, hw1]; exact (((Below.refl _ _).alloc (Nat.le_refl _) _).alloc (by simp) _).alloc (by simp; omega) _
  have HV0 := Lib.hid (hv.on hb3)
  have HVW := Lib.hid hv
  have HB0 := Lib.hid hb3
  have HGW := Lib.hid (show w.heap.size ≤ ga ∧ w.heap.size ≤ gb ∧ ga ≠ gb ∧ ga < w3.heap.size ∧ g ≠ ga ∧ gb < w3.heap.size from ⟨by omega, by omega, by omega, Box.lt B40.out, by omega, Box.lt B50.out⟩)
  have hc2 := fun (wx : World) (h : IV wx (.slice A n c) l) => rright_any m wx h (by omega)
  rw [← hR] at hc2
  have HC2' := Lib.hid hc2
  have k0 := Box.cell BX0.out 0 rfl
  have k1 := Box.cell BX0.out 1 rfl
  have HNN := Lib.hid (show l.length ≤ 1000 from by omega)
  clear hJ hK hE hR hv hc2 hl hb3
  go_enter Try.func11, Try.ntmps11
  go_upto_region 1 with fail
  rw [← hg, e4, e5, ← hw1, ← hw2, ← hw3]
  clear hg hga hgb e4 e5 hw1 hw2 hw3
  go_wp2_with fail
  refine (HC2'.out _ HV0.out).mono ?_
  rintro e w6 ⟨rfl, hb⟩
  have HB6 := Lib.hid (HB0.out.trans (hb.mono HB0.out.size))
  have BX6 := Lib.hid (BX0.out.on hb)
  have B46 := Lib.hid (B40.out.on hb)
  have B56 := Lib.hid (B50.out.on hb)
  have HS6 := Lib.hid hb.size
  clear hb k0 k1 HC2' BX0 B40 B50 HV0 HB0
  have hnn0 : n ≤ 1000 := hn
  go_wp2
  go_loopw [8] (fun iv wr => ∃ (i : Nat), iv = .int .i64 i ∧ i ≤ n ∧ Hid (∀ (j : Nat) (h : j < l.length), j < i → l[j].a ≠ a) ∧ Hid (R = false → i = 0) ∧ Below w6.heap.size w6 wr) (fun iv _ => (n - intOf iv).toNat)
  case atStart => exact ⟨0, rfl, by omega, (show ∀ (j : Nat) (h : j < l.length), j < 0 → l[j].a ≠ a from fun j _ h => absurd h (Nat.not_lt_zero _)), fun _ => rfl, Below.refl _ _⟩
  case round =>
    obtain ⟨i, rfl, hin, HNA, HRI, hbr⟩ := hrel
    have BX := Lib.hid (BX6.out.on hbr)
    have B4 := Lib.hid (B46.out.on hbr)
    have B5 := Lib.hid (B56.out.on hbr)
    have HBW := Lib.hid (HB6.out.trans (hbr.mono HB6.out.size))
    have HVD := Lib.hid (HVW.out.on HBW.out)
    have HSR := Lib.hid (Nat.le_trans HS6.out hbr.size)
    have kx0 := Box.cell BX.out 0 rfl
    have kx1 := Box.cell BX.out 1 rfl
    cases R with
    | false =>
      obtain rfl : i = 0 := HRI.out rfl
      have hF := Lib.hid (show K = false ∧ J = zI ∧ E = l from by
        have h1 : getB m l a = false := by unfold getB; rw [← HR.out]; rfl
        refine ⟨by rw [HK.out, h1], ?_, ?_⟩
        · rw [HJ.out]; unfold getI; rw [h1]; rfl
        · rw [HE.out]; unfold getL; rw [h1]; rfl)
      obtain ⟨W, hW, hcs, hbW, hoW⟩ := ans_get B4.out B5.out rfl HGW.out.2.2.1 HBW.out HGW.out.1 HGW.out.2.1 (.int .i64 m) (.slice A n c) (.int .i64 0) (.string ⟨#[]⟩) (.bool false)
      have HW := Lib.hid hW
      have HCS := Lib.hid hcs
      have HBZ := Lib.hid hbW
      have m0 := Box.cell B4.out 0 rfl
      have m1 := Box.cell B4.out 1 rfl
      have f0 := Box.free B4.out 0
      have f1 := Box.free B4.out 1
      have j0 := Box.cell B5.out 0 rfl
      have j1 := Box.cell B5.out 1 rfl
      have j2 := Box.cell B5.out 2 rfl
      have i0 := Box.free B5.out 0
      have i1 := Box.free B5.out 1
      have i2 := Box.free B5.out 2
      have hne := HGW.out.2.2.1
      clear hW hcs hbW hoW
      go_wp2
      all_goals
        rw [← HW.out, hF.out.1, hF.out.2.1, hF.out.2.2]
        obtain ⟨p0, p1, p2, p3, p4⟩ := HCS.out
        exact bodyPost_ret (v := .tuple #[.agg #[.int .i64 m, .slice A n c], .agg #[.int .i64 0, .string ⟨#[]⟩, .bool false], .bool false]) (by simp [results, Try.results11, go_sem, p0, p1, p2, p3, p4]) rfl ⟨_, rfl, HVW.out.on HBZ.out, HBZ.out⟩
    | true =>
      by_cases hlt : i < n
      · obtain ⟨ad, rfl, hab, hca⟩ := (show Its w w.heap.size A l from by obtain ⟨A', c', e, h, _⟩ := HVW.out; injection e with e1 _ _; rw [e1]; exact h).seeI (by rw [HL.out]; omega)
        have hil : i < l.length := by rw [HL.out]; exact hlt
        obtain ⟨c1, c2, c3⟩ := hca i hil
        obtain ⟨x, hx⟩ : ∃ x, x = l[i]'hil := ⟨_, rfl⟩
        rw [← hx] at c1 c2 c3
        have d1 := (HBW.out.cell (lt_of_cell c1)).trans c1
        have d2 := (HBW.out.cell (lt_of_cell c2)).trans c2
        have d3 := (HBW.out.cell (lt_of_cell c3)).trans c3
        have HAD := Lib.hid (show some (ad.add (i * 3)).block ≠ some ga from by rw [block_of_add]; intro e; injection e with e; have := HGW.out; omega)
        have hin2 : (i : Int) < (n : Int) := by omega
        by_cases hxa : x.a = a
        · have hat : atL l a = i := atL_at hil (by rw [← hx]; exact hxa) (fun j hj => HNA.out j (by omega) hj)
          have hG : getB m l a = true := by
            unfold getB
            rw [← HR.out, Bool.true_and]
            exact decide_eq_true (List.mem_map.2 ⟨x, by rw [hx]; exact List.getElem_mem _, hxa⟩)
          have hJx : J = x := by
            obtain ⟨hi0, hI2, _⟩ := getI_at hG
            rw [HJ.out, hI2, hx]
            simp only [hat]
          have HKT := Lib.hid (show K = true from by rw [HK.out, hG])
          have hnd : (l.map It.a).Nodup := by have h := HR.out; rw [eq_comm, right_iff] at h; exact h.2.2.2
          have HFG := Lib.hid (show firstR l x = E from by rw [firstR_front hnd, HE.out]; unfold getL; rw [if_pos hG, ← HJ.out, hJx])
          have HGL := Lib.hid (show E.length = n from by rw [HE.out, getL_len, HL.out])
          have hbz : (x.a == a) = true := by simp [hxa]
          subst hJx
          clear hca hx hil hat hG hnd hxa hab
          obtain ⟨xa, xt, xd⟩ := J
          simp only at c1 c2 c3 d1 d2 d3 hbz
          obtain ⟨wd, hwd⟩ : ∃ wd, wd = wr := ⟨_, rfl⟩
          rw [← hwd] at BX B4 B5 HBW HVD HSR d1 d2 d3 kx0 kx1 ⊢
          have HC1 := Lib.hid d1
          have HC2 := Lib.hid d2
          have HC3 := Lib.hid d3
          have HQ := Lib.hid (show w.heap.size ≤ ga ∧ w.heap.size ≤ gb ∧ ga ≠ gb ∧ ga < wd.heap.size ∧ g ≠ ga ∧ gb < wd.heap.size from by have h := HGW.out; have := HSR.out; exact ⟨h.1, h.2.1, h.2.2.1, by omega, h.2.2.2.2.1, by omega⟩)
          clear hwd hbr c1 c2 c3
          go_upto_region 6 with fail
          clear d1 d2 d3 kx0 kx1 hbz
          refine wp_region_phase 14 [29, 30, 31, 32, 33, 34, 35, 36, 37, 38, 39, 40, 41, 42, 43, 44, 6] (by kernel_rfl) [16, 17] [] (fun _ _ => True) 2 rfl (by kernel_rfl) (SP (fun wx => Below wd.heap.size wd wx) (fun wx => Ex ga wd wx ∧ (∃ A' c', Box wx ga 32 #[.int .i64 m, .slice A' n c'] ∧ wx.ownsRow wd.heap.size 33 3 (.slice A' n c') n (E.flatMap It.cells)) ∧ Box wx gb 33 #[.int .i64 0, .string ⟨#[]⟩, .bool false]) (fun wx => Below w.heap.size w wx ∧ (∃ A' c', Box wx ga 32 #[.int .i64 m, .slice A' n c'] ∧ wx.ownsRow wd.heap.size 33 3 (.slice A' n c') n (E.flatMap It.cells)) ∧ Box wx gb 33 #[.int .i64 xa, .string xt, .bool xd])) (fun wa wb => Below wa.heap.size wa wb) (RgS g i n c wd.heap.size m ad xa xt xd E) (by kernel_rfl) (SP.on below_grow (fun wa wb h hs => by obtain ⟨k, ⟨A', c', hb, ho⟩, h5⟩ := hs; exact ⟨k.trans (Ex.of h), ⟨A', c', hb.on h, own_on ho h⟩, h5.on h⟩) (fun wa wb h hs => by obtain ⟨k, ⟨A', c', hb, ho⟩, h5⟩ := hs; exact ⟨k.trans (h.mono k.size), ⟨A', c', hb.on h, own_on ho h⟩, h5.on h⟩)) (fun _ t v wa wb h1 h2 => h2.on h1) (fun _ _ _ _ _ _ _ => trivial) (Below.refl _ _).drew trivial (phase2 ?_ ?_ ?_) ?_
          · refine Steps1.cons (fun _ ax wx hS _ hG => ?_) (Steps1.cons (fun _ ax wx hS _ hG => ?_) (Steps1.cons (fun _ ax wx hS _ hG => ?_) (Steps1.cons (fun _ ax wx hS _ hG => ?_) (Steps1.cons (fun _ ax wx hS _ hG => ?_) (Steps1.cons (fun _ ax wx hS _ hG => ?_) (Steps1.cons (fun _ ax wx hS _ hG => ?_) (Steps1.cons (fun _ ax wx hS _ hG => ?_) (Steps1.cons (fun _ ax wx hS _ hG => ?_) (Steps1.cons (fun _ ax wx hS _ hG => ?_) (Steps1.cons (fun _ ax wx hS _ hG => ?_) (Steps1.cons (fun _ ax wx hS _ hG => ?_) (Steps1.cons (fun _ ax wx hS _ hG => ?_) (Steps1.cons (fun _ ax wx hS _ hG => ?_) (Steps1.cons (fun _ ax wx hS _ hG => ?_) (Steps1.cons (fun _ ax wx hS _ hG => ?_) (Steps1.cons (fun _ ax wx hS _ hG => ?_) (Steps1.cons (fun hin _ _ _ _ _ => out (by kernel_rfl) hin) (Steps1.cons (fun _ ax wx hS _ hG => ?_) Steps1.nil))))))))))))))))))
            · have q2 := hG.old 2 (by kernel_rfl) (by kernel_rfl)
              refine step_slot rfl rfl rfl (step_value (v := .pointer (some ⟨g, 0, none⟩)) (w' := wx) rfl rfl ?_ (Below.refl _ _) (fun d hd => by cases hd; exact rfl))
              go_simp
            · obtain ⟨_, q29, rfl⟩ := hG.new 29 (by kernel_rfl) (by kernel_rfl)
              have z0 := Box.cell (BX.out.on hS) 0 rfl
              refine step_slot rfl rfl rfl (step_value (v := .int .i64 m) (w' := wx) rfl rfl ?_ (Below.refl _ _) (fun d hd => by cases hd; exact rfl))
              go_simp
            · have q2 := hG.old 2 (by kernel_rfl) (by kernel_rfl)
              refine step_slot rfl rfl rfl (step_value (v := .pointer (some ⟨g, 1, none⟩)) (w' := wx) rfl rfl ?_ (Below.refl _ _) (fun d hd => by cases hd; exact rfl))
              go_simp
            · obtain ⟨_, q31, rfl⟩ := hG.new 31 (by kernel_rfl) (by kernel_rfl)
              have z0 := Box.cell (BX.out.on hS) 1 rfl
              refine step_slot rfl rfl rfl (step_value (v := .slice (some ad) n c) (w' := wx) rfl rfl ?_ (Below.refl _ _) (fun d hd => by cases hd; exact rfl))
              go_simp
            · have q2 := hG.old 2 (by kernel_rfl) (by kernel_rfl)
              refine step_slot rfl rfl rfl (step_value (v := .pointer (some ⟨g, 1, none⟩)) (w' := wx) rfl rfl ?_ (Below.refl _ _) (fun d hd => by cases hd; exact rfl))
              go_simp
            · obtain ⟨_, q33, rfl⟩ := hG.new 33 (by kernel_rfl) (by kernel_rfl)
              have z0 := Box.cell (BX.out.on hS) 1 rfl
              refine step_slot rfl rfl rfl (step_value (v := .slice (some ad) n c) (w' := wx) rfl rfl ?_ (Below.refl _ _) (fun d hd => by cases hd; exact rfl))
              go_simp
            · have q8 := hG.old 8 (by kernel_rfl) (by kernel_rfl)
              refine step_slot rfl rfl rfl (step_value (v := .int .i64 i) (w' := wx) rfl rfl ?_ (Below.refl _ _) (fun d hd => by cases hd; exact rfl))
              go_simp
            · obtain ⟨_, q34, rfl⟩ := hG.new 34 (by kernel_rfl) (by kernel_rfl)
              obtain ⟨_, q35, rfl⟩ := hG.new 35 (by kernel_rfl) (by kernel_rfl)
              refine step_slot rfl rfl rfl (step_value (v := .pointer (some (ad.add (i * 3)))) (w' := wx) rfl rfl ?_ (Below.refl _ _) (fun d hd => by cases hd; exact rfl))
              go_simp
            · obtain ⟨_, q36, rfl⟩ := hG.new 36 (by kernel_rfl) (by kernel_rfl)
              have hb := (show Below _ _ _ from hS)
              have z0 := (hb.cell (lt_of_cell HC1.out)).trans HC1.out
              have z1 := (hb.cell (lt_of_cell HC2.out)).trans HC2.out
              have z2 := (hb.cell (lt_of_cell HC3.out)).trans HC3.out
              clear hb
              refine step_slot rfl rfl rfl (step_value (v := .agg #[.int .i64 xa, .string xt, .bool xd]) (w' := wx) rfl rfl ?_ (Below.refl _ _) (fun d hd => by cases hd; exact rfl))
              go_simp
            · obtain ⟨_, q32, rfl⟩ := hG.new 32 (by kernel_rfl) (by kernel_rfl)
              obtain ⟨_, q37, rfl⟩ := hG.new 37 (by kernel_rfl) (by kernel_rfl)
              refine step_slot rfl rfl rfl (step_call (w1 := wx) (f := 26) (args := #[.slice (some ad) n c, .agg #[.int .i64 xa, .string xt, .bool xd]]) rfl rfl ?_ ((first_any ⟨xa, xt, xd⟩ wx (HVD.out.on hS) HNN.out).mono ?_))
              · skip
                go_simp
              · rintro e w' ⟨v', rfl, ho, hq⟩
                exact ⟨_, rfl, hq, fun d hd => by cases hd; exact fun _ => (by rw [HFG.out, HGL.out] at ho; obtain ⟨A', c', e⟩ := own_shape ho; subst e; exact ⟨A', c', rfl, own_more ho (show Below _ _ _ from hS).size⟩)⟩
            · obtain ⟨_, q30, rfl⟩ := hG.new 30 (by kernel_rfl) (by kernel_rfl)
              obtain ⟨v38, q38, h38⟩ := hG.new 38 (by kernel_rfl) (by kernel_rfl)
              have p38 : 0 = 0 → ∃ A' c', v38 = .slice A' n c' ∧ wx.ownsRow wd.heap.size 33 3 (.slice A' n c') n (E.flatMap It.cells) := h38
              obtain ⟨A7, c7, rfl, o7⟩ := p38 rfl
              refine step_slot rfl rfl rfl (step_value (v := .agg #[.int .i64 m, .slice A7 n c7]) (w' := wx) rfl rfl ?_ (Below.refl _ _) (fun d hd => by cases hd; exact fun _ => ⟨_, _, rfl, o7⟩))
              clear h38 p38
              go_simp
            · have q2 := hG.old 2 (by kernel_rfl) (by kernel_rfl)
              refine step_slot rfl rfl rfl (step_value (v := .pointer (some ⟨g, 1, none⟩)) (w' := wx) rfl rfl ?_ (Below.refl _ _) (fun d hd => by cases hd; exact rfl))
              go_simp
            · obtain ⟨_, q40, rfl⟩ := hG.new 40 (by kernel_rfl) (by kernel_rfl)
              have z0 := Box.cell (BX.out.on hS) 1 rfl
              refine step_slot rfl rfl rfl (step_value (v := .slice (some ad) n c) (w' := wx) rfl rfl ?_ (Below.refl _ _) (fun d hd => by cases hd; exact rfl))
              go_simp
            · have q8 := hG.old 8 (by kernel_rfl) (by kernel_rfl)
              refine step_slot rfl rfl rfl (step_value (v := .int .i64 i) (w' := wx) rfl rfl ?_ (Below.refl _ _) (fun d hd => by cases hd; exact rfl))
              go_simp
            · obtain ⟨_, q41, rfl⟩ := hG.new 41 (by kernel_rfl) (by kernel_rfl)
              obtain ⟨_, q42, rfl⟩ := hG.new 42 (by kernel_rfl) (by kernel_rfl)
              refine step_slot rfl rfl rfl (step_value (v := .pointer (some (ad.add (i * 3)))) (w' := wx) rfl rfl ?_ (Below.refl _ _) (fun d hd => by cases hd; exact rfl))
              go_simp
            · obtain ⟨_, q43, rfl⟩ := hG.new 43 (by kernel_rfl) (by kernel_rfl)
              have hb := (show Below _ _ _ from hS)
              have z0 := (hb.cell (lt_of_cell HC1.out)).trans HC1.out
              have z1 := (hb.cell (lt_of_cell HC2.out)).trans HC2.out
              have z2 := (hb.cell (lt_of_cell HC3.out)).trans HC3.out
              clear hb
              refine step_slot rfl rfl rfl (step_value (v := .agg #[.int .i64 xa, .string xt, .bool xd]) (w' := wx) rfl rfl ?_ (Below.refl _ _) (fun d hd => by cases hd; exact rfl))
              go_simp
            · have q4 := hG.old 4 (by kernel_rfl) (by kernel_rfl)
              obtain ⟨v39, q39, h39⟩ := hG.new 39 (by kernel_rfl) (by kernel_rfl)
              have p39 : 0 = 0 → ∃ A' c', v39 = .agg #[.int .i64 m, .slice A' n c'] ∧ wx.ownsRow wd.heap.size 33 3 (.slice A' n c') n (E.flatMap It.cells) := h39
              obtain ⟨A9, c9, rfl, o9⟩ := p39 rfl
              have hb4 := B4.out.on hS
              have hb5 := B5.out.on hS
              have f0 := Box.free hb4 0
              have f1 := Box.free hb4 1
              have m0 := Box.cell hb4 0 rfl
              have m1 := Box.cell hb4 1 rfl
              have hex := (Ex.set (g := ga) (i := 0) wx (.int .i64 m)).trans (Ex.set (i := 1) _ (.slice A9 n c9))
              refine step_store (w' := (wx.setCell ⟨ga, 0, none⟩ (.int .i64 m)).setCell ⟨ga, 1, none⟩ (.slice A9 n c9)) rfl rfl rfl rfl ?_ ⟨(Ex.of hS).trans hex, ⟨A9, c9, (Box.set hb4 0 _).set 1 _, own_ex hex o9 (own_far o9 HQ.out.2.2.2.1)⟩, hex.box hb5 HQ.out.2.2.1.symm⟩ trivial ?_
              · clear hb4 hb5 hS hex o9 p39 h39
                go_simp
              · intro t u _ hu hV
                unfold RgS at *
                split at hV <;> first | exact hV | exact fun h => absurd h (by decide)
            · refine step_slot rfl rfl rfl (step_value (v := .bool true) (w' := wx) rfl rfl ?_ (Below.refl _ _) (fun d hd => by cases hd; exact rfl))
              go_simp
          · refine Steps1.cons (fun hin _ _ _ _ _ => out (by kernel_rfl) hin) (Steps1.cons (fun hin _ _ _ _ _ => out (by kernel_rfl) hin) (Steps1.cons (fun hin _ _ _ _ _ => out (by kernel_rfl) hin) (Steps1.cons (fun hin _ _ _ _ _ => out (by kernel_rfl) hin) (Steps1.cons (fun hin _ _ _ _ _ => out (by kernel_rfl) hin) (Steps1.cons (fun hin _ _ _ _ _ => out (by kernel_rfl) hin) (Steps1.cons (fun hin _ _ _ _ _ => out (by kernel_rfl) hin) (Steps1.cons (fun hin _ _ _ _ _ => out (by kernel_rfl) hin) (Steps1.cons (fun hin _ _ _ _ _ => out (by kernel_rfl) hin) (Steps1.cons (fun hin _ _ _ _ _ => out (by kernel_rfl) hin) (Steps1.cons (fun hin _ _ _ _ _ => out (by kernel_rfl) hin) (Steps1.cons (fun _ ax wx hS _ hG => ?_) (Steps1.cons (fun _ ax wx hS _ hG => ?_) (Steps1.cons (fun _ ax wx hS _ hG => ?_) (Steps1.cons (fun _ ax wx hS _ hG => ?_) (Steps1.cons (fun _ ax wx hS _ hG => ?_) (Steps1.cons (fun hin _ _ _ _ _ => out (by kernel_rfl) hin) (Steps1.cons (fun _ ax wx hS _ hG => ?_) (Steps1.cons (fun _ ax wx hS _ hG => ?_) Steps1.nil))))))))))))))))))
            · have q2 := hG.old 2 (by kernel_rfl) (by kernel_rfl)
              refine step_slot rfl rfl rfl (step_value (v := .pointer (some ⟨g, 1, none⟩)) (w' := wx) rfl rfl ?_ (Below.refl _ _) (fun d hd => by cases hd; exact rfl))
              go_simp
            · obtain ⟨_, q40, rfl⟩ := hG.new 40 (by kernel_rfl) (by kernel_rfl)
              obtain ⟨hex, hx4, hb5⟩ := hS
              have z0 := Box.cell (hex.box BX.out HQ.out.2.2.2.2.1) 1 rfl
              refine step_slot rfl rfl rfl (step_value (v := .slice (some ad) n c) (w' := wx) rfl rfl ?_ (Below.refl _ _) (fun d hd => by cases hd; exact rfl))
              go_simp
            · have q8 := hG.old 8 (by kernel_rfl) (by kernel_rfl)
              refine step_slot rfl rfl rfl (step_value (v := .int .i64 i) (w' := wx) rfl rfl ?_ (Below.refl _ _) (fun d hd => by cases hd; exact rfl))
              go_simp
            · obtain ⟨_, q41, rfl⟩ := hG.new 41 (by kernel_rfl) (by kernel_rfl)
              obtain ⟨_, q42, rfl⟩ := hG.new 42 (by kernel_rfl) (by kernel_rfl)
              refine step_slot rfl rfl rfl (step_value (v := .pointer (some (ad.add (i * 3)))) (w' := wx) rfl rfl ?_ (Below.refl _ _) (fun d hd => by cases hd; exact rfl))
              go_simp
            · obtain ⟨_, q43, rfl⟩ := hG.new 43 (by kernel_rfl) (by kernel_rfl)
              obtain ⟨hex, hx4, hb5⟩ := hS
              have z0 := hex.cell HC1.out HAD.out
              have z1 := hex.cell HC2.out HAD.out
              have z2 := hex.cell HC3.out HAD.out
              refine step_slot rfl rfl rfl (step_value (v := .agg #[.int .i64 xa, .string xt, .bool xd]) (w' := wx) rfl rfl ?_ (Below.refl _ _) (fun d hd => by cases hd; exact rfl))
              go_simp
            · have q5 := hG.old 5 (by kernel_rfl) (by kernel_rfl)
              obtain ⟨_, q44, rfl⟩ := hG.new 44 (by kernel_rfl) (by kernel_rfl)
              obtain ⟨hex, ⟨A9, c9, hx4, o9⟩, hb5⟩ := hS
              have f0 := Box.free hb5 0
              have f1 := Box.free hb5 1
              have f2 := Box.free hb5 2
              have m0 := Box.cell hb5 0 rfl
              have m1 := Box.cell hb5 1 rfl
              have m2 := Box.cell hb5 2 rfl
              have hex2 := ((Ex.set (g := gb) (i := 0) wx (.int .i64 xa)).trans (Ex.set (i := 1) _ (.string xt))).trans (Ex.set (i := 2) _ (.bool xd))
              refine step_store (w' := ((wx.setCell ⟨gb, 0, none⟩ (.int .i64 xa)).setCell ⟨gb, 1, none⟩ (.string xt)).setCell ⟨gb, 2, none⟩ (.bool xd)) rfl rfl rfl rfl ?_ ⟨Ex.below (Ex.below HBW.out hex HQ.out.1 HBW.out.size) hex2 HQ.out.2.1 (Nat.le_trans HBW.out.size hex.size), ⟨A9, c9, hex2.box hx4 HQ.out.2.2.1, own_ex hex2 o9 (own_far o9 HQ.out.2.2.2.2.2)⟩, ((Box.set hb5 0 _).set 1 _).set 2 _⟩ trivial ?_
              · clear hb5 hex hex2 hx4 o9
                go_simp
              · intro t u _ hu hV
                unfold RgS at *
                split at hV <;> first | exact hV | exact fun h => absurd h (by decide)
            · refine step_slot rfl rfl rfl (step_value (v := .bool true) (w' := wx) rfl rfl ?_ (Below.refl _ _) (fun d hd => by cases hd; exact rfl))
              go_simp
          · refine Steps1.cons (fun hin _ _ _ _ _ => out (by kernel_rfl) hin) (Steps1.cons (fun hin _ _ _ _ _ => out (by kernel_rfl) hin) (Steps1.cons (fun hin _ _ _ _ _ => out (by kernel_rfl) hin) (Steps1.cons (fun hin _ _ _ _ _ => out (by kernel_rfl) hin) (Steps1.cons (fun hin _ _ _ _ _ => out (by kernel_rfl) hin) (Steps1.cons (fun hin _ _ _ _ _ => out (by kernel_rfl) hin) (Steps1.cons (fun hin _ _ _ _ _ => out (by kernel_rfl) hin) (Steps1.cons (fun hin _ _ _ _ _ => out (by kernel_rfl) hin) (Steps1.cons (fun hin _ _ _ _ _ => out (by kernel_rfl) hin) (Steps1.cons (fun hin _ _ _ _ _ => out (by kernel_rfl) hin) (Steps1.cons (fun hin _ _ _ _ _ => out (by kernel_rfl) hin) (Steps1.cons (fun hin _ _ _ _ _ => out (by kernel_rfl) hin) (Steps1.cons (fun hin _ _ _ _ _ => out (by kernel_rfl) hin) (Steps1.cons (fun hin _ _ _ _ _ => out (by kernel_rfl) hin) (Steps1.cons (fun hin _ _ _ _ _ => out (by kernel_rfl) hin) (Steps1.cons (fun hin _ _ _ _ _ => out (by kernel_rfl) hin) (Steps1.cons (fun hin _ _ _ _ _ => out (by kernel_rfl) hin) (Steps1.cons (fun hin _ _ _ _ _ => out (by kernel_rfl) hin) (Steps1.cons (fun _ ax wx hS _ hG => ?_) Steps1.nil))))))))))))))))))
            · refine step_slot rfl rfl rfl (step_value (v := .bool true) (w' := wx) rfl rfl ?_ (Below.refl _ _) (fun d hd => by cases hd; exact rfl))
              go_simp
          intro fv w8 hS8 _ hV8
          have e6 : fv 6 = .bool true := hV8 6 (by decide)
          simp only [puts, Act.put, List.setIfInBounds_toArray, List.set_cons_succ, List.set_cons_zero]
          clear hV8
          rw [e6]
          obtain ⟨hbw, ⟨A9, c9, hx4, o9⟩, hb5⟩ := (show _ ∧ _ ∧ _ from hS8)
          have p0 := Box.cell hx4 0 rfl
          have p1 := Box.cell hx4 1 rfl
          have p2 := Box.cell hb5 0 rfl
          have p3 := Box.cell hb5 1 rfl
          have p4 := Box.cell hb5 2 rfl
          have HBZ := Lib.hid hbw
          have HO9 := Lib.hid o9
          clear hS8 hbw hx4 hb5 o9
          go_wp2
          rw [HKT.out]
          exact bodyPost_ret (v := .tuple #[.agg #[.int .i64 m, .slice A9 n c9], .agg #[.int .i64 xa, .string xt, .bool xd], .bool true]) (by simp [results, Try.results11, go_sem, p0, p1, p2, p3, p4]) rfl ⟨_, rfl, IV.own HO9.out HGL.out.symm, HBZ.out⟩
        · have hbz : (x.a == a) = false := by simp [hxa]
          have HNA2 := Lib.hid (show ∀ (j : Nat) (h : j < l.length), j < i + 1 → l[j].a ≠ a from fun j h hj => by
            rcases Nat.lt_or_ge j i with h1 | h1
            · exact HNA.out j h h1
            · obtain rfl : j = i := by omega
              rw [← hx]; exact hxa)
          clear hca hx hxa hab
          obtain ⟨xa, xt, xd⟩ := x
          simp only at c1 c2 c3 d1 d2 d3 hbz
          go_wp2
          go_roundw
          case rel => exact ⟨i + 1, by go_num, by omega, HNA2.out, (fun h => absurd h (by decide)), hbr⟩
          case measure => simp [intOf]; omega
      · have HIN := Lib.hid (show i = n from by omega)
        have hF := Lib.hid (show K = false ∧ J = zI ∧ E = l from by
          have h1 : getB m l a = false := by unfold getB; rw [← HR.out, Bool.true_and]; refine decide_eq_false fun h => ?_; obtain ⟨y, hy, e⟩ := List.mem_map.1 h; obtain ⟨j, hj, rfl⟩ := List.getElem_of_mem hy; exact HNA.out j hj (by rw [HIN.out, ← HL.out]; exact hj) e
          refine ⟨by rw [HK.out, h1], ?_, ?_⟩
          · rw [HJ.out]; unfold getI; rw [h1]; rfl
          · rw [HE.out]; unfold getL; rw [h1]; rfl)
        obtain ⟨W, hW, hcs, hbW, hoW⟩ := ans_get B4.out B5.out rfl HGW.out.2.2.1 HBW.out HGW.out.1 HGW.out.2.1 (.int .i64 m) (.slice A n c) (.int .i64 0) (.string ⟨#[]⟩) (.bool false)
        have HW := Lib.hid hW
        have HCS := Lib.hid hcs
        have HBZ := Lib.hid hbW
        have m0 := Box.cell B4.out 0 rfl
        have m1 := Box.cell B4.out 1 rfl
        have f0 := Box.free B4.out 0
        have f1 := Box.free B4.out 1
        have j0 := Box.cell B5.out 0 rfl
        have j1 := Box.cell B5.out 1 rfl
        have j2 := Box.cell B5.out 2 rfl
        have i0 := Box.free B5.out 0
        have i1 := Box.free B5.out 1
        have i2 := Box.free B5.out 2
        have hne := HGW.out.2.2.1
        clear hW hcs hbW hoW
        go_wp2
        all_goals
          rw [← HW.out, hF.out.1, hF.out.2.1, hF.out.2.2]
          obtain ⟨p0, p1, p2, p3, p4⟩ := HCS.out
          exact bodyPost_ret (v := .tuple #[.agg #[.int .i64 m, .slice A n c], .agg #[.int .i64 0, .string ⟨#[]⟩, .bool false], .bool false]) (by simp [results, Try.results11, go_sem, p0, p1, p2, p3, p4]) rfl ⟨_, rfl, HVW.out.on HBZ.out, HBZ.out⟩

end Go.Proofs.Ythoffknkpogfhaa
