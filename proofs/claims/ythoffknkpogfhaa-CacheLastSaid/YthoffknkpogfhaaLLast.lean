/- The walk of CacheLast: behind any items a cache has the last ones of unlike numbers, the last one first. -/
import Derived.Test.YthoffknkpogfhaaMst
set_option linter.unusedVariables false
set_option linter.unusedSimpArgs false
namespace Go.Proofs.Ythoffknkpogfhaa
open Go.RowKit

theorem last_mem (z y : Int) (W : List Int) (jj : Nat) (h : jj < W.length) (e : W[jj] = z) : (decide (y ∈ W.take jj) || (z == y)) = decide (y ∈ W.take (jj + 1)) := by
  rw [List.take_succ_eq_append_getElem h, e]
  rw [Bool.eq_iff_iff]
  simp
  constructor
  · rintro (h | h)
    · exact .inl h
    · exact .inr h.symm
  · rintro (h | h)
    · exact .inl h
    · exact .inr h.symm

def LastT (gz nx cx k' : Nat) (ad : Addr) (za ya : Int) (p t : Nat) (v : Value) (w : World) : Prop :=
  match t with
  | 54 => v = .bool true
  | 55 => v = .bool true
  | 56 => v = undef
  | 57 => v = undef
  | 58 => v = undef
  | 59 => v = undef
  | 60 => v = undef
  | 61 => v = undef
  | 62 => v = undef
  | 63 => v = undef
  | 64 => v = .bool true
  | 12 => v = .bool true
  | _ => True
theorem LastT.on {gz nx cx k' : Nat} {ad : Addr} {za ya : Int} {p t : Nat} {v : Value} {w w' : World} (h : LastT gz nx cx k' ad za ya p t v w) (hb : Below w.heap.size w w') : LastT gz nx cx k' ad za ya p t v w' := by
  unfold LastT at *
  split at h <;> first | exact h

def LastF (gz nx cx k' : Nat) (ad : Addr) (za ya : Int) (p t : Nat) (v : Value) (w : World) : Prop :=
  match t with
  | 54 => v = .bool false
  | 55 => v = .bool false
  | 56 => v = .pointer (some ⟨gz, 0, none⟩)
  | 57 => v = .int .i64 za
  | 58 => v = .slice (some ad) nx cx
  | 59 => v = (.int .i64 k')
  | 60 => v = (.pointer (some (ad.add (k' * 3))))
  | 61 => v = (.pointer (some (ad.add (k' * 3))))
  | 62 => v = .int .i64 ya
  | 63 => v = .bool (za == ya)
  | 64 => v = .bool (za == ya)
  | 12 => v = .bool (za == ya)
  | _ => True
theorem LastF.on {gz nx cx k' : Nat} {ad : Addr} {za ya : Int} {p t : Nat} {v : Value} {w w' : World} (h : LastF gz nx cx k' ad za ya p t v w) (hb : Below w.heap.size w w') : LastF gz nx cx k' ad za ya p t v w' := by
  unfold LastF at *
  split at h <;> first | exact h

set_option maxRecDepth 100000 in
set_option maxHeartbeats 8000000 in
theorem last_walk (u : Nat) (it : Value) (xs : List It) (w : World) (hv : IV w it xs) (hn : xs.length ≤ maxLen) (hu : u ≤ 255) :
    Calls Try.prog 4 #[.int .u8 (u : Int), it] w fun e w' => e = .returned (.bool true) ∧ Below w.heap.size w w' := by
  obtain ⟨AX, cx, rfl⟩ := hv.shape rfl
  obtain ⟨nx, hl⟩ : ∃ nx, xs.length = nx := ⟨_, rfl⟩
  rw [hl] at hv hn ⊢
  have HL := Lib.hid hl
  unfold maxLen at hn
  have HVW := Lib.hid hv
  have HBZ := Lib.hid (Below.refl w.heap.size w)
  clear hv hl
  by_cases h60 : nx ≤ 60
  · have hd : decide ((60 : Int) < (nx : Int)) = false := by simp; omega
    obtain ⟨N, hN⟩ : ∃ N, N = 1 + u % 20 := ⟨_, rfl⟩
    have HN := Lib.hid (show 1 ≤ N ∧ N ≤ 20 from by omega)
    have hN20 : N ≤ 20 := by omega
    have e1 : (u : Int) % 20 = ((u % 20 : Nat) : Int) := by omega
    obtain ⟨q, hq⟩ : ∃ q, q = u % 20 := ⟨_, rfl⟩
    rw [← hq] at e1
    have hq19 : q ≤ 19 := by omega
    have e2 : IntKind.u8.wrap (q : Int) = (q : Int) := by rw [IntKind.wrap_u8]; omega
    have e3 : IntKind.i64.wrap (q : Int) = (q : Int) := by rw [IntKind.wrap_i64]; omega
    have e4 : IntKind.i64.wrap (1 + (q : Int)) = (N : Int) := by rw [IntKind.wrap_i64]; omega
    clear hN hq
    go_enter Try.func4, Try.ntmps4
    go_wp2_with fail
    refine (new_s N HN.out.1 (by have := HN.out.2; omega) _).mono ?_
    rintro e w1 ⟨rfl, hb⟩
    have HB1 := Lib.hid (HBZ.out.trans (hb.mono HBZ.out.size))
    clear hb HBZ e1 e2 e3 e4 hq19
    go_upto_region 5 with fail
    obtain ⟨g6, hg6⟩ : ∃ g6, g6 = w1.heap.size := ⟨_, rfl⟩
    obtain ⟨w2, hz0⟩ : ∃ wz, wz = w1.alloc (.cells #[.int .i64 (N : Int), .slice none 0 0] 24) := ⟨_, rfl⟩
    rw [← hg6, ← hz0]
    have hb : Below w1.heap.size w1 w2 := by rw [hz0]; exact ((Below.refl _ _).alloc (Nat.le_refl _) _)
    have B62 := Lib.hid (show Box w2 g6 24 #[.int .i64 (N : Int), .slice none 0 0] from (by rw [hz0]; exact Box.at_ w1 _ _ hg6))
    have HGg6 := Lib.hid (show w.heap.size ≤ g6 from by rw [hg6]; exact HB1.out.size)
    have HB2 := Lib.hid (HB1.out.trans (hb.mono HB1.out.size))
    clear hb HB1 hg6  hz0
    obtain ⟨P, hP⟩ : ∃ P, P = (uniq xs.reverse).take N := ⟨_, rfl⟩
    obtain ⟨O, hO⟩ : ∃ O, O = (putL N [] xs).2 := ⟨_, rfl⟩
    have HPUT := Lib.hid (show putC (N : Int) [] xs = (P, O) from by rw [hP, hO]; exact put_nil N HN.out.1 (by have := HN.out.2; omega) xs)
    have HP := Lib.hid hP
    obtain ⟨np, hnp⟩ : ∃ np, P.length = np := ⟨_, rfl⟩
    obtain ⟨no, hno⟩ : ∃ no, O.length = no := ⟨_, rfl⟩
    have HNP := Lib.hid hnp
    have HNO := Lib.hid hno
    have HER := Lib.hid (show (if rightL (N : Int) [] = true then 0 else 1 : Int) = 0 from by rw [right_nil N HN.out.1 (by have := HN.out.2; omega)]; rfl)
    have HPL := Lib.hid (show P.length ≤ 1000 from by rw [hP, List.length_take]; omega)
    clear hP hO hnp hno
    have kB60 := Box.cell B62.out 0 rfl
    have kB61 := Box.cell B62.out 1 rfl
    go_wp2_with fail
    refine (put_s (l := []) (xs := xs) (N : Int) _ (IV.nil _) (by simp) (HVW.out.on HB2.out) (by rw [HL.out]; omega) HPUT.out HNP.out HNO.out HER.out).mono ?_
    rintro e w3 ⟨A1, c1, B1, d1, rfl, h1, _, hb⟩
    have VP3 := Lib.hid h1
    clear h1
    have HB3 := Lib.hid (HB2.out.trans (hb.mono HB2.out.size))
    have B63 := Lib.hid (B62.out.on hb)
    clear hb HB2 B62 kB60 kB61
    have kk0 := Box.cell B63.out 0 rfl
    have ff0 := Box.free B63.out 0
    have kk1 := Box.cell B63.out 1 rfl
    have ff1 := Box.free B63.out 1
    go_upto_region 6 with fail
    obtain ⟨w4, hw⟩ : ∃ wz, wz = (w3.setCell ⟨g6, 0, none⟩ (.int .i64 (N : Int))).setCell ⟨g6, 1, none⟩ (.slice A1 np c1) := ⟨_, rfl⟩
    rw [← hw]
    have HB4 := Lib.hid (show Below w.heap.size w w4 from by rw [hw]; exact below_two HB3.out HGg6.out)
    have B64 := Lib.hid (show Box w4 g6 24 #[.int .i64 (N : Int), .slice A1 np c1] from by rw [hw]; exact (Box.set B63.out 0 _).set 1 _)
    have VP4 := Lib.hid (show IV w4 _ _ from by rw [hw]; exact iv_put VP3.out B63.out)
    clear hw kk0 kk1 ff0 ff1 HB3 B63 VP3 
    have hwx : IntKind.i64.wrap ((nx : Int) - 1) = (nx : Int) - 1 := by rw [IntKind.wrap_i64]; omega
    go_wp2
    go_loopw [10, 11] (fun wv iv wr => ∃ (k nw : Nat) (i : Int) (A' : Option Addr) (c' : Nat), iv = .int .i64 i ∧ wv = .slice A' nw c' ∧ Hid (i = (k : Int) - 1) ∧ k ≤ nx ∧ nw ≤ N ∧ Hid ((uniq (xs.reverse.take (nx - k))).length = nw) ∧ Hid (wr.ownsRow w4.heap.size 27 3 (.slice A' nw c') nw ((uniq (xs.reverse.take (nx - k))).flatMap It.cells)) ∧ Below w4.heap.size w4 wr) (fun _ iv _ => (intOf iv + 1).toNat)
    case atStart =>
      refine ⟨nx, 0, (nx : Int) - 1, none, 0, by first | rfl | simp, rfl, rfl, Nat.le_refl _, Nat.zero_le _, ?_, ?_, Below.refl _ _⟩
      · show List.length _ = 0
        simp [uniq]
      · show World.ownsRow _ _ _ _ _ _ _
        rw [Nat.sub_self]
        simpa [uniq] using World.ownsRow_nil w4 w4.heap.size _ 3
    case round =>
      obtain ⟨k, nw, i, A', c', rfl, rfl, HIK, hk, hnw, HWL, HO, hbr⟩ := hrel
      clear hwx
      obtain ⟨W, hW⟩ : ∃ W, W = uniq (xs.reverse.take (nx - k)) := ⟨_, rfl⟩
      rw [← hW] at HWL HO
      have HW := Lib.hid hW
      clear hW
      by_cases hk0 : k = 0
      · obtain rfl : i = -1 := by have := HIK.out; omega
        have HEQ := Lib.hid (show W = P from by
            rw [HW.out, HP.out, hk0, Nat.sub_zero, List.take_of_length_le (by rw [List.length_reverse, HL.out]; exact Nat.le_refl _)]
            have h1 := HWL.out
            rw [HW.out, hk0, Nat.sub_zero, List.take_of_length_le (by rw [List.length_reverse, HL.out]; exact Nat.le_refl _)] at h1
            exact (List.take_of_length_le (by omega)).symm)
        have HBE := Lib.hid (HB4.out.trans (hbr.mono HB4.out.size))
        have B6E := Lib.hid (B64.out.on hbr)
        have VPE := Lib.hid (VP4.out.on hbr)
        have VWE := Lib.hid (IV.own HO.out HWL.out.symm)
        have kB60 := Box.cell B6E.out 0 rfl
        have kB61 := Box.cell B6E.out 1 rfl
        go_wp2_with fail
        refine (refs_v VPE.out HPL.out).mono ?_
        rintro e w1 ⟨s1, rfl, h1, hb⟩
        have V11 := Lib.hid h1
        clear h1
        have HB1 := Lib.hid (HBE.out.trans (hb.mono HBE.out.size))
        have B61 := Lib.hid (B6E.out.on hb)
        have VP1 := Lib.hid (VPE.out.on hb)
        have VW1 := Lib.hid (VWE.out.on hb)
        clear hb HBE B6E VPE VWE kB60 kB61 hbr HO
        go_wp2_with fail
        refine (refs_v VW1.out (by rw [HEQ.out]; exact HPL.out)).mono ?_
        rintro e w2 ⟨s2, rfl, h1, hb⟩
        have V22 := Lib.hid h1
        clear h1
        have HB2 := Lib.hid (HB1.out.trans (hb.mono HB1.out.size))
        have B62 := Lib.hid (B61.out.on hb)
        have VP2 := Lib.hid (VP1.out.on hb)
        have VW2 := Lib.hid (VW1.out.on hb)
        have V12 := Lib.hid (V11.out.on hb)
        clear hb HB1 B61 VP1 VW1 V11 
        have hsm := rsame_v V12.out V22.out (Nat.le_trans HPL.out (by decide))
        rw [HEQ.out, decide_eq_true rfl] at hsm
        go_wp2_with fail
        refine (hsm).mono ?_
        rintro e w3 ⟨rfl, hb⟩
        have HB3 := Lib.hid (HB2.out.trans (hb.mono HB2.out.size))
        have B63 := Lib.hid (B62.out.on hb)
        have VP3 := Lib.hid (VP2.out.on hb)
        have VW3 := Lib.hid (VW2.out.on hb)
        have V13 := Lib.hid (V12.out.on hb)
        have V23 := Lib.hid (V22.out.on hb)
        clear hb HB2 B62 VP2 VW2 V12 V22 hsm
        go_wp2_with fail
        refine (awake_true _).mono ?_
        rintro e w4 ⟨rfl, hb⟩
        have HB4 := Lib.hid (HB3.out.trans (hb.mono HB3.out.size))
        clear hb HB3 
        go_wp2
        go_ret
        exact ⟨rfl, HB4.out⟩
      · obtain ⟨k', rfl⟩ : ∃ k', k = k' + 1 := ⟨k - 1, by omega⟩
        obtain rfl : i = (k' : Int) := by have := HIK.out; omega
        by_cases hnN : nw < N
        · obtain ⟨ad, rfl, hab, hca⟩ := (show Its wr wr.heap.size AX xs from by obtain ⟨A', c', e, h, _⟩ := HVW.out.on (HB4.out.trans (hbr.mono HB4.out.size)); injection e with e1 _ _; rw [e1]; exact h).seeI (by rw [HL.out]; omega)
          have hkl : k' < xs.length := by rw [HL.out]; omega
          obtain ⟨c1', c2', c3'⟩ := hca k' hkl
          obtain ⟨y, hy⟩ : ∃ y, y = xs[k']'hkl := ⟨_, rfl⟩
          rw [← hy] at c1' c2' c3'
          have HST := Lib.hid (show uniq (xs.reverse.take (nx - k')) = stepU W y from by
            have hj : nx - (k' + 1) < xs.reverse.length := by rw [List.length_reverse, HL.out]; omega
            have e : xs.reverse[nx - (k' + 1)]'hj = y := by
              rw [List.getElem_reverse, hy]
              congr 1
              rw [HL.out]; omega
            rw [show nx - k' = nx - (k' + 1) + 1 from by omega, uniq_take hj, e, HW.out])
          clear hca hkl hy hab
          obtain ⟨ya, yt, yd⟩ := y
          simp only at c1' c2' c3'
          have HBR := Lib.hid hbr
          have hkn : k' < nx := by omega
          obtain ⟨wo, hwo⟩ : ∃ wo, wo = wr := ⟨_, rfl⟩
          rw [← hwo] at HBR HO c1' c2' c3' hbr ⊢
          clear hwo
          go_wp2
          go_loopw [12, 50] (fun bv jv wx => ∃ (jj : Nat) (b : Bool), jv = .int .i64 jj ∧ jj ≤ nw ∧ bv = .bool b ∧ Hid (b = decide (ya ∈ (W.map It.a).take jj)) ∧ Below wo.heap.size wo wx) (fun _ jv _ => (nw - intOf jv).toNat)
          case atStart => exact ⟨0, false, rfl, by omega, rfl, (show _ = _ from by simp), Below.refl _ _⟩
          case round =>
            obtain ⟨jj, b, rfl, hjj, rfl, HBJ, hbx⟩ := hrel
            by_cases hlt : jj < nw
            · obtain ⟨aw, rfl, haw, hcw⟩ := (Lies.own It.cells3 (c := c') (own_on (by rw [HWL.out]; exact HO.out) hbx)).seeI (by rw [HWL.out]; omega)
              have hjl : jj < W.length := by rw [HWL.out]; exact hlt
              obtain ⟨d1, d2, d3⟩ := hcw jj hjl
              obtain ⟨z, hz⟩ : ∃ z, z = W[jj]'hjl := ⟨_, rfl⟩
              rw [← hz] at d1 d2 d3
              have HBN := Lib.hid (show (b || (z.a == ya)) = decide (ya ∈ (W.map It.a).take (jj + 1)) from by
                rw [HBJ.out]
                exact last_mem z.a ya (W.map It.a) jj (by rw [List.length_map]; exact hjl) (by rw [List.getElem_map, hz]))
              have HBX := Lib.hid hbx
              clear hz hcw hjl haw
              obtain ⟨za, zt, zd⟩ := z
              simp only at d1 d2 d3 HBN
              go_upto_region 14 with fail
              obtain ⟨gz, hgz⟩ : ∃ gz, gz = wr.heap.size := ⟨_, rfl⟩
              obtain ⟨wz, hwz⟩ : ∃ wz, wz = wr.alloc (.cells #[.int .i64 za, .string zt, .bool zd] 27) := ⟨_, rfl⟩
              rw [← hgz, ← hwz]
              have hb : Below wr.heap.size wr wz := by rw [hwz]; exact (Below.refl _ _).alloc (Nat.le_refl _) _
              have BZ := Lib.hid (show Box wz gz 27 #[.int .i64 za, .string zt, .bool zd] from by rw [hwz]; exact Box.at_ wr _ _ hgz)
              have HBX2 := Lib.hid (HBX.out.trans (hb.mono HBX.out.size))
              have HYC := Lib.hid ((HBX2.out.cell (lt_of_cell c1')).trans c1')
              have hkn2 : (k' : Int) < (nx : Int) := by omega
              clear hb hgz hwz hbx d1 d2 d3 HBX
              cases b with
              | true =>
                refine wp_region_phase 14 [54, 55, 56, 57, 58, 59, 60, 61, 62, 63, 64, 12] (by kernel_rfl) [] [] (fun _ _ => True) 0 rfl (by kernel_rfl) (SP (fun wx => Below wz.heap.size wz wx) (fun _ => True) (fun _ => True)) (fun wa wb => Below wa.heap.size wa wb) (LastT gz nx cx k' ad za ya) (by kernel_rfl) (SP.on below_grow (fun _ _ _ _ => trivial) (fun _ _ _ _ => trivial)) (fun _ t v wa wb h1 h2 => h2.on h1) (fun _ _ _ _ _ _ _ => trivial) (Below.refl _ _).drew trivial (phase0 ?_) ?_
                · refine Steps1.cons (fun _ ax wx hS _ hG => ?_) (Steps1.cons (fun _ ax wx hS _ hG => ?_) (Steps1.cons (fun _ ax wx hS _ hG => ?_) (Steps1.cons (fun _ ax wx hS _ hG => ?_) (Steps1.cons (fun _ ax wx hS _ hG => ?_) (Steps1.cons (fun _ ax wx hS _ hG => ?_) (Steps1.cons (fun _ ax wx hS _ hG => ?_) (Steps1.cons (fun _ ax wx hS _ hG => ?_) (Steps1.cons (fun _ ax wx hS _ hG => ?_) (Steps1.cons (fun _ ax wx hS _ hG => ?_) (Steps1.cons (fun _ ax wx hS _ hG => ?_) (Steps1.cons (fun _ ax wx hS _ hG => ?_) Steps1.nil)))))))))))
                  · have q12 := hG.old 12 (by kernel_rfl) (by kernel_rfl)
                    refine step_slot rfl rfl rfl (step_value (v := .bool true) (w' := wx) rfl rfl ?_ (Below.refl _ _) (fun d hd => by cases hd; exact rfl))
                    go_simp
                  · obtain ⟨_, q54, rfl⟩ := hG.new 54 (by kernel_rfl) (by kernel_rfl)
                    refine step_slot rfl rfl rfl (step_value (v := .bool true) (w' := wx) rfl rfl ?_ (Below.refl _ _) (fun d hd => by cases hd; exact rfl))
                    go_simp
                  · obtain ⟨_, q55, rfl⟩ := hG.new 55 (by kernel_rfl) (by kernel_rfl)
                    refine step_slot rfl rfl rfl (step_past rfl (by simp [Region.wanted, yielded, q55, undef]) (Below.refl _ _) (fun d hd => by cases hd; exact rfl))
                  · obtain ⟨_, q55, rfl⟩ := hG.new 55 (by kernel_rfl) (by kernel_rfl)
                    refine step_slot rfl rfl rfl (step_past rfl (by simp [Region.wanted, yielded, q55, undef]) (Below.refl _ _) (fun d hd => by cases hd; exact rfl))
                  · obtain ⟨_, q55, rfl⟩ := hG.new 55 (by kernel_rfl) (by kernel_rfl)
                    refine step_slot rfl rfl rfl (step_past rfl (by simp [Region.wanted, yielded, q55, undef]) (Below.refl _ _) (fun d hd => by cases hd; exact rfl))
                  · obtain ⟨_, q55, rfl⟩ := hG.new 55 (by kernel_rfl) (by kernel_rfl)
                    refine step_slot rfl rfl rfl (step_past rfl (by simp [Region.wanted, yielded, q55, undef]) (Below.refl _ _) (fun d hd => by cases hd; exact rfl))
                  · obtain ⟨_, q55, rfl⟩ := hG.new 55 (by kernel_rfl) (by kernel_rfl)
                    refine step_slot rfl rfl rfl (step_past rfl (by simp [Region.wanted, yielded, q55, undef]) (Below.refl _ _) (fun d hd => by cases hd; exact rfl))
                  · obtain ⟨_, q55, rfl⟩ := hG.new 55 (by kernel_rfl) (by kernel_rfl)
                    refine step_slot rfl rfl rfl (step_past rfl (by simp [Region.wanted, yielded, q55, undef]) (Below.refl _ _) (fun d hd => by cases hd; exact rfl))
                  · obtain ⟨_, q55, rfl⟩ := hG.new 55 (by kernel_rfl) (by kernel_rfl)
                    refine step_slot rfl rfl rfl (step_past rfl (by simp [Region.wanted, yielded, q55, undef]) (Below.refl _ _) (fun d hd => by cases hd; exact rfl))
                  · obtain ⟨_, q55, rfl⟩ := hG.new 55 (by kernel_rfl) (by kernel_rfl)
                    refine step_slot rfl rfl rfl (step_past rfl (by simp [Region.wanted, yielded, q55, undef]) (Below.refl _ _) (fun d hd => by cases hd; exact rfl))
                  · obtain ⟨_, q55, rfl⟩ := hG.new 55 (by kernel_rfl) (by kernel_rfl)
                    obtain ⟨_, q63, rfl⟩ := hG.new 63 (by kernel_rfl) (by kernel_rfl)
                    refine step_slot rfl rfl rfl (step_value (v := .bool true) (w' := wx) rfl rfl ?_ (Below.refl _ _) (fun d hd => by cases hd; exact rfl))
                    go_simp
                  · obtain ⟨_, q64, rfl⟩ := hG.new 64 (by kernel_rfl) (by kernel_rfl)
                    refine step_slot rfl rfl rfl (step_value (v := .bool true) (w' := wx) rfl rfl ?_ (Below.refl _ _) (fun d hd => by cases hd; exact rfl))
                    go_simp
                intro fv w8 hS8 _ hV8
                have e12 : fv 12 = .bool true := hV8 12 (by decide)
                simp only [puts, Act.put, List.setIfInBounds_toArray, List.set_cons_succ, List.set_cons_zero]
                clear hV8
                rw [e12]
                have HB8 := Lib.hid (HBX2.out.trans ((show Below _ _ _ from hS8).mono HBX2.out.size))
                clear hS8
                go_wp2
                go_roundw
                case rel => exact ⟨jj + 1, true, by go_num, by omega, by first | rfl | simp, (show true = _ from by have h := HBN.out; simpa using h), HB8.out⟩
                case measure => simp [intOf]; omega
              | false =>
                refine wp_region_phase 14 [54, 55, 56, 57, 58, 59, 60, 61, 62, 63, 64, 12] (by kernel_rfl) [] [] (fun _ _ => True) 0 rfl (by kernel_rfl) (SP (fun wx => Below wz.heap.size wz wx) (fun _ => True) (fun _ => True)) (fun wa wb => Below wa.heap.size wa wb) (LastF gz nx cx k' ad za ya) (by kernel_rfl) (SP.on below_grow (fun _ _ _ _ => trivial) (fun _ _ _ _ => trivial)) (fun _ t v wa wb h1 h2 => h2.on h1) (fun _ _ _ _ _ _ _ => trivial) (Below.refl _ _).drew trivial (phase0 ?_) ?_
                · refine Steps1.cons (fun _ ax wx hS _ hG => ?_) (Steps1.cons (fun _ ax wx hS _ hG => ?_) (Steps1.cons (fun _ ax wx hS _ hG => ?_) (Steps1.cons (fun _ ax wx hS _ hG => ?_) (Steps1.cons (fun _ ax wx hS _ hG => ?_) (Steps1.cons (fun _ ax wx hS _ hG => ?_) (Steps1.cons (fun _ ax wx hS _ hG => ?_) (Steps1.cons (fun _ ax wx hS _ hG => ?_) (Steps1.cons (fun _ ax wx hS _ hG => ?_) (Steps1.cons (fun _ ax wx hS _ hG => ?_) (Steps1.cons (fun _ ax wx hS _ hG => ?_) (Steps1.cons (fun _ ax wx hS _ hG => ?_) Steps1.nil)))))))))))
                  · have q12 := hG.old 12 (by kernel_rfl) (by kernel_rfl)
                    refine step_slot rfl rfl rfl (step_value (v := .bool false) (w' := wx) rfl rfl ?_ (Below.refl _ _) (fun d hd => by cases hd; exact rfl))
                    go_simp
                  · obtain ⟨_, q54, rfl⟩ := hG.new 54 (by kernel_rfl) (by kernel_rfl)
                    refine step_slot rfl rfl rfl (step_value (v := .bool false) (w' := wx) rfl rfl ?_ (Below.refl _ _) (fun d hd => by cases hd; exact rfl))
                    go_simp
                  · obtain ⟨_, q55, rfl⟩ := hG.new 55 (by kernel_rfl) (by kernel_rfl)
                    have q14 := hG.old 14 (by kernel_rfl) (by kernel_rfl)
                    refine step_slot rfl rfl rfl (step_value (v := .pointer (some ⟨gz, 0, none⟩)) (w' := wx) rfl (by simp [Region.wanted, yielded, q55, undef]) ?_ (Below.refl _ _) (fun d hd => by cases hd; exact rfl))
                    go_simp
                  · obtain ⟨_, q55, rfl⟩ := hG.new 55 (by kernel_rfl) (by kernel_rfl)
                    obtain ⟨_, q56, rfl⟩ := hG.new 56 (by kernel_rfl) (by kernel_rfl)
                    have z0 := Box.cell (BZ.out.on hS) 0 rfl
                    refine step_slot rfl rfl rfl (step_value (v := .int .i64 za) (w' := wx) rfl (by simp [Region.wanted, yielded, q55, undef]) ?_ (Below.refl _ _) (fun d hd => by cases hd; exact rfl))
                    go_simp
                  · obtain ⟨_, q55, rfl⟩ := hG.new 55 (by kernel_rfl) (by kernel_rfl)
                    have q1 := hG.old 1 (by kernel_rfl) (by kernel_rfl)
                    refine step_slot rfl rfl rfl (step_value (v := .slice (some ad) nx cx) (w' := wx) rfl (by simp [Region.wanted, yielded, q55, undef]) ?_ (Below.refl _ _) (fun d hd => by cases hd; exact rfl))
                    go_simp
                  · obtain ⟨_, q55, rfl⟩ := hG.new 55 (by kernel_rfl) (by kernel_rfl)
                    have q11 := hG.old 11 (by kernel_rfl) (by kernel_rfl)
                    refine step_slot rfl rfl rfl (step_value (v := (.int .i64 k')) (w' := wx) rfl (by simp [Region.wanted, yielded, q55, undef]) ?_ (Below.refl _ _) (fun d hd => by cases hd; exact rfl))
                    go_simp
                  · obtain ⟨_, q55, rfl⟩ := hG.new 55 (by kernel_rfl) (by kernel_rfl)
                    obtain ⟨_, q58, rfl⟩ := hG.new 58 (by kernel_rfl) (by kernel_rfl)
                    obtain ⟨_, q59, rfl⟩ := hG.new 59 (by kernel_rfl) (by kernel_rfl)
                    refine step_slot rfl rfl rfl (step_value (v := (.pointer (some (ad.add (k' * 3))))) (w' := wx) rfl (by simp [Region.wanted, yielded, q55, undef]) ?_ (Below.refl _ _) (fun d hd => by cases hd; exact rfl))
                    go_simp
                  · obtain ⟨_, q55, rfl⟩ := hG.new 55 (by kernel_rfl) (by kernel_rfl)
                    obtain ⟨_, q60, rfl⟩ := hG.new 60 (by kernel_rfl) (by kernel_rfl)
                    refine step_slot rfl rfl rfl (step_value (v := (.pointer (some (ad.add (k' * 3))))) (w' := wx) rfl (by simp [Region.wanted, yielded, q55, undef]) ?_ (Below.refl _ _) (fun d hd => by cases hd; exact rfl))
                    go_simp
                  · obtain ⟨_, q55, rfl⟩ := hG.new 55 (by kernel_rfl) (by kernel_rfl)
                    obtain ⟨_, q61, rfl⟩ := hG.new 61 (by kernel_rfl) (by kernel_rfl)
                    have z0 := ((show Below _ _ _ from hS).cell (lt_of_cell HYC.out)).trans HYC.out
                    refine step_slot rfl rfl rfl (step_value (v := .int .i64 ya) (w' := wx) rfl (by simp [Region.wanted, yielded, q55, undef]) ?_ (Below.refl _ _) (fun d hd => by cases hd; exact rfl))
                    go_simp
                  · obtain ⟨_, q55, rfl⟩ := hG.new 55 (by kernel_rfl) (by kernel_rfl)
                    obtain ⟨_, q57, rfl⟩ := hG.new 57 (by kernel_rfl) (by kernel_rfl)
                    obtain ⟨_, q62, rfl⟩ := hG.new 62 (by kernel_rfl) (by kernel_rfl)
                    refine step_slot rfl rfl rfl (step_value (v := .bool (za == ya)) (w' := wx) rfl (by simp [Region.wanted, yielded, q55, undef]) ?_ (Below.refl _ _) (fun d hd => by cases hd; exact rfl))
                    go_simp
                  · obtain ⟨_, q55, rfl⟩ := hG.new 55 (by kernel_rfl) (by kernel_rfl)
                    obtain ⟨_, q63, rfl⟩ := hG.new 63 (by kernel_rfl) (by kernel_rfl)
                    refine step_slot rfl rfl rfl (step_value (v := .bool (za == ya)) (w' := wx) rfl rfl ?_ (Below.refl _ _) (fun d hd => by cases hd; exact rfl))
                    go_simp
                  · obtain ⟨_, q64, rfl⟩ := hG.new 64 (by kernel_rfl) (by kernel_rfl)
                    refine step_slot rfl rfl rfl (step_value (v := .bool (za == ya)) (w' := wx) rfl rfl ?_ (Below.refl _ _) (fun d hd => by cases hd; exact rfl))
                    go_simp
                intro fv w8 hS8 _ hV8
                have e12 : fv 12 = .bool (za == ya) := hV8 12 (by decide)
                simp only [puts, Act.put, List.setIfInBounds_toArray, List.set_cons_succ, List.set_cons_zero]
                clear hV8
                rw [e12]
                have HB8 := Lib.hid (HBX2.out.trans ((show Below _ _ _ from hS8).mono HBX2.out.size))
                clear hS8
                go_wp2
                go_roundw
                case rel => exact ⟨jj + 1, (za == ya), by go_num, by omega, by first | rfl | simp, (show (za == ya) = _ from by have h := HBN.out; simpa using h), HB8.out⟩
                case measure => simp [intOf]; omega
            · have hjn : jj = nw := by omega
              have HMEM := Lib.hid (show b = decide (ya ∈ W.map It.a) from by
                rw [HBJ.out, hjn, List.take_of_length_le (by rw [List.length_map, HWL.out]; exact Nat.le_refl _)])
              have HBR2 := Lib.hid (HBR.out.trans (hbx.mono HBR.out.size))
              have HO2 := Lib.hid (own_on HO.out hbx)
              have y1 := (hbx.cell (lt_of_cell c1')).trans c1'
              have y2 := (hbx.cell (lt_of_cell c2')).trans c2'
              have y3 := (hbx.cell (lt_of_cell c3')).trans c3'
              have hkn2 : (k' : Int) < (nx : Int) := by omega
              have hwk : IntKind.i64.wrap ((k' : Int) - 1) = (k' : Int) - 1 := by rw [IntKind.wrap_i64]; omega
              clear hbx hjn c1' c2' c3'
              cases b with
              | true =>
                have HW2 := Lib.hid (show uniq (xs.reverse.take (nx - k')) = W from by rw [HST.out]; unfold stepU; rw [if_pos (of_decide_eq_true HMEM.out.symm)])
                go_wp2
                go_roundw
                case rel =>
                  refine ⟨k', nw, (k' : Int) - 1, A', c', by first | rfl | simp, rfl, rfl, by omega, hnw, ?_, ?_, HBR2.out⟩
                  · show List.length _ = nw
                    rw [HW2.out]; exact HWL.out
                  · show World.ownsRow _ _ _ _ _ _ _
                    rw [HW2.out]; exact HO2.out
                case measure => simp [intOf]
              | false =>
                have HW2 := Lib.hid (show uniq (xs.reverse.take (nx - k')) = W ++ [⟨ya, yt, yd⟩] from by rw [HST.out]; unfold stepU; rw [if_neg (of_decide_eq_false HMEM.out.symm)])
                go_wp2_with (at_builtin; refine push_it item_info Try.underlying22 _ rfl _ _ rfl w4.heap.size _ nw _ rfl (own_on HO2.out ((Below.refl _ _).alloc (Nat.le_refl _) _)) wr.heap.size ⟨ya, yt, yd⟩ rfl (Box.fresh _ _ _) (by omega) (by have := HBR2.out.size; simp; omega) ?_)
                intro ov' w12 hown hgr hat
                obtain ⟨A9, c9, rfl⟩ := own_shape hown
                have hb1 : Below wr.heap.size wr (wr.alloc (.cells #[.int .i64 ya, .string yt, .bool yd] 27)) := (Below.refl _ _).alloc (Nat.le_refl _) _
                have HBR3 := Lib.hid ((HBR2.out.trans (hb1.mono HBR2.out.size)).grown hgr (by have := HBR2.out.size; simp; omega) (fun q hq => (own_lt HO2.out hq).1))
                have HO3 := Lib.hid (show w12.ownsRow w4.heap.size 27 3 (.slice A9 (nw + 1) c9) (nw + 1) ((uniq (xs.reverse.take (nx - k'))).flatMap It.cells) from by
                  rw [HW2.out, List.flatMap_append]
                  simpa using hown)
                clear hown hgr hat hb1 y1 y2 y3
                go_wp2
                go_roundw
                case rel =>
                  refine ⟨k', nw + 1, (k' : Int) - 1, A9, c9, by first | rfl | simp, rfl, rfl, by omega, by omega, ?_, HO3.out, HBR3.out⟩
                  show List.length _ = nw + 1
                  rw [HW2.out, List.length_append, HWL.out]
                  rfl
                case measure => simp [intOf]
        · have HNQ := Lib.hid (show nw = N from by omega)
          have HEQ := Lib.hid (show W = P from by
              rw [HW.out, HP.out]
              have h1 := List.prefix_iff_eq_take.1 (uniq_prefix xs.reverse (nx - (k' + 1)))
              rw [h1, ← HW.out, HWL.out, HNQ.out])
          have HBE := Lib.hid (HB4.out.trans (hbr.mono HB4.out.size))
          have B6E := Lib.hid (B64.out.on hbr)
          have VPE := Lib.hid (VP4.out.on hbr)
          have VWE := Lib.hid (IV.own HO.out HWL.out.symm)
          have kB60 := Box.cell B6E.out 0 rfl
          have kB61 := Box.cell B6E.out 1 rfl
          go_wp2_with fail
          refine (refs_v VPE.out HPL.out).mono ?_
          rintro e w1 ⟨s1, rfl, h1, hb⟩
          have V11 := Lib.hid h1
          clear h1
          have HB1 := Lib.hid (HBE.out.trans (hb.mono HBE.out.size))
          have B61 := Lib.hid (B6E.out.on hb)
          have VP1 := Lib.hid (VPE.out.on hb)
          have VW1 := Lib.hid (VWE.out.on hb)
          clear hb HBE B6E VPE VWE kB60 kB61 hbr HO
          go_wp2_with fail
          refine (refs_v VW1.out (by rw [HEQ.out]; exact HPL.out)).mono ?_
          rintro e w2 ⟨s2, rfl, h1, hb⟩
          have V22 := Lib.hid h1
          clear h1
          have HB2 := Lib.hid (HB1.out.trans (hb.mono HB1.out.size))
          have B62 := Lib.hid (B61.out.on hb)
          have VP2 := Lib.hid (VP1.out.on hb)
          have VW2 := Lib.hid (VW1.out.on hb)
          have V12 := Lib.hid (V11.out.on hb)
          clear hb HB1 B61 VP1 VW1 V11 
          have hsm := rsame_v V12.out V22.out (Nat.le_trans HPL.out (by decide))
          rw [HEQ.out, decide_eq_true rfl] at hsm
          go_wp2_with fail
          refine (hsm).mono ?_
          rintro e w3 ⟨rfl, hb⟩
          have HB3 := Lib.hid (HB2.out.trans (hb.mono HB2.out.size))
          have B63 := Lib.hid (B62.out.on hb)
          have VP3 := Lib.hid (VP2.out.on hb)
          have VW3 := Lib.hid (VW2.out.on hb)
          have V13 := Lib.hid (V12.out.on hb)
          have V23 := Lib.hid (V22.out.on hb)
          clear hb HB2 B62 VP2 VW2 V12 V22 hsm
          go_wp2_with fail
          refine (awake_true _).mono ?_
          rintro e w4 ⟨rfl, hb⟩
          have HB4 := Lib.hid (HB3.out.trans (hb.mono HB3.out.size))
          clear hb HB3 
          go_wp2
          go_ret
          exact ⟨rfl, HB4.out⟩
  · have hd : decide ((60 : Int) < (nx : Int)) = true := by simp; omega
    go_enter Try.func4, Try.ntmps4
    go_wp2_with fail
    refine (awake_true _).mono ?_
    rintro e w1 ⟨rfl, hb⟩
    go_wp2
    go_ret
    exact ⟨rfl, hb⟩

end Go.Proofs.Ythoffknkpogfhaa
