/- The walks of the document's push and Push of notes. -/
import Derived.Test.YtaboccbakicmhaaNap
import Derived.Test.YtaboccbakicmhaaRBoth
import Derived.Test.YtaboccbakicmhaaRWell
import Derived.Test.YtaboccbakicmhaaRStep
set_option linter.unusedVariables false
set_option linter.unusedSimpArgs false
namespace Go.Proofs.Ytaboccbakicmhaa
open Go.RowKit

def PushV (base : Nat) (U SL PA XA NA BA : Value) (b : Nt) (k m : Nat) (xs : List Value) (p t : Nat) (v : Value) (w : World) : Prop :=
  match t with
  | 22 => v = U
  | 23 => v = SL
  | 24 => v = .int .i64 k
  | 25 => v = PA
  | 26 => v = XA
  | 27 => v = NA
  | 28 => v = BA
  | 29 => p = 0 → OneN base b w v
  | 30 => p = 1 → w.ownsRow base 32 4 v (m + 1) (xs ++ b.cells)
  | 5 => p = 1 ∧ w.ownsRow base 32 4 v (m + 1) (xs ++ b.cells)
  | _ => True
theorem PushV.on {base : Nat} {U SL PA XA NA BA : Value} {b : Nt} {k m : Nat} {xs : List Value} {p t : Nat} {v : Value} {w w' : World} (h : PushV base U SL PA XA NA BA b k m xs p t v w) (hb : Below w.heap.size w w') : PushV base U SL PA XA NA BA b k m xs p t v w' := by
  unfold PushV at *
  split at h <;> first | exact h | exact fun e => (h e).on hb | exact fun e => own_below (h e) hb | exact ⟨h.1, own_below h.2 hb⟩

set_option maxHeartbeats 4000000 in
set_option maxRecDepth 100000 in
theorem dpush_any (A : Option Addr) (c : Nat) (l : List Nt) (nk : Int) (key nv : ByteArray) (nn : UInt64) (w : World) (hA : Nts w w.heap.size A l) (hn : l.length ≤ 1000) (hs : SortedN l) :
    Calls Try.prog 33 #[.slice A l.length c, .agg #[.int .i64 nk, .string key, .string nv, .int .u64 (nn.toNat : Int)]] w fun e w' => ∃ v, e = .returned v ∧ NV w' v (pushOne l ⟨nk, key, nv, nn⟩) ∧ Below w.heap.size w w' := by
  have HEND := Lib.hid (out_end l ⟨nk, key, nv, nn⟩)
  obtain ⟨n, hl⟩ : ∃ n, l.length = n := ⟨_, rfl⟩
  rw [hl] at hn ⊢
  have HL := Lib.hid hl
  have HS := Lib.hid hs
  obtain ⟨g, hg⟩ : ∃ g, g = w.heap.size := ⟨_, rfl⟩
  obtain ⟨w1, hw1⟩ : ∃ w1, w1 = w.alloc (.cells #[.int .i64 nk, .string key, .string nv, .int .u64 (nn.toNat : Int)] 32) := ⟨_, rfl⟩
  have hb1 : Below w.heap.size w w1 := by rw [hw1]; exact (Below.refl _ _).alloc (Nat.le_refl _) _
  have hbs1 : w.heap.size ≤ w1.heap.size := hb1.size
  have hbx : NBlk w1 g ⟨nk, key, nv, nn⟩ := by rw [hw1]; exact Box.at_ w _ _ hg
  have HA := Lib.hid (show Nts w1 w1.heap.size A l from hA.on hb1)
  have HBX := Lib.hid hbx
  have HB1 := Lib.hid hb1
  obtain ⟨P, hP⟩ : ∃ P : Nat → Bool, ∀ k, P k = pastAt l key k := ⟨_, fun _ => rfl⟩
  have H0 := Lib.hid (show P 0 = false by rw [hP]; exact past_zero l key)
  have HP := Lib.hid hP
  clear hl hs hA hb1 hbx hP
  go_enter Try.func33, Try.ntmps33
  go_upto_region 1 with fail
  rw [← hg, ← hw1]
  clear hg hw1
  go_wp2
  go_loopw [5, 6, 7] (fun v5 v6 vi wr => ∃ (k m : Nat), vi = .int .i64 k ∧ k ≤ n ∧ v6 = .bool (P k) ∧ Hid (wr.ownsRow w1.heap.size 32 4 v5 m ((outAt l ⟨nk, key, nv, nn⟩ k).flatMap Nt.cells)) ∧ Hid (m = (outAt l ⟨nk, key, nv, nn⟩ k).length) ∧ Below w1.heap.size w1 wr) (fun _ _ vi _ => (n - intOf vi).toNat)
  case atStart => exact ⟨0, 0, rfl, by omega, by rw [H0.out], by show World.ownsRow _ _ _ _ _ _ _; rw [out_zero]; exact World.ownsRow_nil _ _ _ _, by show _ = _; rw [out_zero]; rfl, Below.refl _ _⟩
  case round =>
    obtain ⟨k, m, rfl, hk, rfl, HO5, HN, hbr⟩ := hrel
    have HM := Lib.hid (show m ≤ 1001 from by have h1 := out_len l HS.out ⟨nk, key, nv, nn⟩ k; have h2 := HN.out; omega)
    by_cases hlt : k < n
    · have hkl : k < l.length := by rw [HL.out]; exact hlt
      obtain ⟨x, hx⟩ : ∃ x, x = l[k]'hkl := ⟨_, rfl⟩
      have HX := Lib.hid hx
      obtain ⟨ad, rfl, hab, hca0⟩ := HA.out.seeN (by rw [HL.out]; omega)
      have hca1 := hca0 k hkl
      rw [← hx] at hca1
      obtain ⟨xk, xe, xv, xn⟩ := x
      simp only at hca1
      have HC := Lib.hid (show ∀ wx, Below w1.heap.size w1 wx → wx.cell? (ad.add (k * 4)) = some (.int .i64 xk) ∧ wx.cell? ⟨(ad.add (k * 4)).block, (ad.add (k * 4)).off + 1, none⟩ = some (.string xe) ∧ wx.cell? ⟨(ad.add (k * 4)).block, (ad.add (k * 4)).off + 2, none⟩ = some (.string xv) ∧ wx.cell? ⟨(ad.add (k * 4)).block, (ad.add (k * 4)).off + 3, none⟩ = some (.int .u64 (xn.toNat : Int)) ∧ wx.cell? ⟨g, 0, none⟩ = some (.int .i64 nk) ∧ wx.cell? ⟨g, 1, none⟩ = some (.string key) ∧ wx.cell? ⟨g, 2, none⟩ = some (.string nv) ∧ wx.cell? ⟨g, 3, none⟩ = some (.int .u64 (nn.toNat : Int)) from fun wx hS =>
        ⟨(hS.cell (lt_of_cell hca1.1)).trans hca1.1, (hS.cell (lt_of_cell hca1.2.1)).trans hca1.2.1, (hS.cell (lt_of_cell hca1.2.2.1)).trans hca1.2.2.1, (hS.cell (lt_of_cell hca1.2.2.2)).trans hca1.2.2.2, NBlk.cells (HBX.out.on hS)⟩)
      clear hx hca0 hca1
      by_cases heq : xe = key
      · -- the same key
        have hz := str_eq heq
        have HST := Lib.hid (show P (k + 1) = true ∧ outAt l ⟨nk, key, nv, nn⟩ (k + 1) = outAt l ⟨nk, key, nv, nn⟩ k ++ [bothN (l[k]'hkl) ⟨nk, key, nv, nn⟩] from by
          rw [HP.out]
          exact out_eq HS.out hkl (n := ⟨nk, key, nv, nn⟩) (by rw [← HX.out]; exact heq))
        have hboth := fun wx => dboth_any xk xe xv xn nk key nv nn wx
        obtain ⟨b, hb⟩ : ∃ b, b = bothN ⟨xk, xe, xv, xn⟩ ⟨nk, key, nv, nn⟩ := ⟨_, rfl⟩
        rw [← hb] at hboth
        have HBB := Lib.hid hb
        clear hb
        obtain ⟨bk, be, bv, bn⟩ := b
        have HBOTH := Lib.hid hboth
        unfold Nt.v at HBOTH
        simp only at HBOTH
        have HKN := Lib.hid hlt
        clear hboth heq
        obtain ⟨c1, c2, c3, c4, b1, b2, b3, b4⟩ := HC.out wr hbr
        go_wp2
        go_quiet (fail)
        obtain ⟨wd, hwd⟩ : ∃ wz, wz = wr.drewN nq := ⟨_, rfl⟩
        rw [← hwd]
        have hbd : Below w1.heap.size w1 wd := by rw [hwd]; exact below_drewN hbr _
        have D5 := Lib.hid (show wd.ownsRow w1.heap.size 32 4 u5 m ((outAt l ⟨nk, key, nv, nn⟩ k).flatMap Nt.cells) from by show World.ownsRow _ _ _ _ _ _ _; rw [hwd]; exact own_below HO5.out (below_drewN (Below.refl _ _) _))
        clear hwd
        have HCX := Lib.hid (show ∀ wx, GrowS w1 wd 0 wx → wx.cell? (ad.add (k * 4)) = some (.int .i64 xk) ∧ wx.cell? ⟨(ad.add (k * 4)).block, (ad.add (k * 4)).off + 1, none⟩ = some (.string xe) ∧ wx.cell? ⟨(ad.add (k * 4)).block, (ad.add (k * 4)).off + 2, none⟩ = some (.string xv) ∧ wx.cell? ⟨(ad.add (k * 4)).block, (ad.add (k * 4)).off + 3, none⟩ = some (.int .u64 (xn.toNat : Int)) from fun wx hS => let h := HC.out wx hS.1; ⟨h.1, h.2.1, h.2.2.1, h.2.2.2.1⟩)
        have HCN := Lib.hid (show ∀ wx, GrowS w1 wd 0 wx → _ from fun wx hS => (HC.out wx hS.1).2.2.2.2)
        clear c1 c2 c3 c4 b1 b2 b3 b4
        go_wp2
        refine wp_region_phase 12 [22, 23, 24, 25, 26, 27, 28, 29, 30, 5] (by kernel_rfl) [8] [] (fun _ _ => True) 1 rfl (by kernel_rfl) (GrowS w1 wd) (fun wa wb => Below wa.heap.size wa wb) (PushV w1.heap.size u5 (.slice (some ad) n c) (.pointer (some (ad.add (k * 4)))) (.agg #[.int .i64 xk, .string xe, .string xv, .int .u64 (xn.toNat : Int)]) (.agg #[.int .i64 nk, .string key, .string nv, .int .u64 (nn.toNat : Int)]) (.agg #[.int .i64 bk, .string be, .string bv, .int .u64 (bn.toNat : Int)]) (⟨bk, be, bv, bn⟩ : Nt) k m ((outAt l (⟨nk, key, nv, nn⟩ : Nt) k).flatMap Nt.cells)) (by kernel_rfl) (fun _ wa wb h1 h2 => h2.on h1) (fun _ t v wa wb h1 h2 => h2.on h1) (fun _ _ _ _ _ _ _ => trivial) ⟨below_drewN hbd _, fun _ => below_drewN (Below.refl _ _) _⟩ trivial (phase1 ?_ ?_) ?_
        · skip
          refine Steps1.cons (fun _ ax wx hS hJ hG => ?_) (Steps1.cons (fun _ ax wx hS hJ hG => ?_) (Steps1.cons (fun _ ax wx hS hJ hG => ?_) (Steps1.cons (fun _ ax wx hS hJ hG => ?_) (Steps1.cons (fun _ ax wx hS hJ hG => ?_) (Steps1.cons (fun _ ax wx hS hJ hG => ?_) (Steps1.cons (fun _ ax wx hS hJ hG => ?_) (Steps1.cons (fun _ ax wx hS hJ hG => ?_) (Steps1.cons (fun _ ax wx hS hJ hG => ?_) (Steps1.cons (fun hin _ _ _ _ _ => out (by kernel_rfl) hin) Steps1.nil)))))))))
          · have q5 := hG.old 5 (by kernel_rfl) (by kernel_rfl)
            refine step_slot rfl rfl rfl (step_value (v := u5) (w' := wx) rfl rfl ?_ (Below.refl _ _) (fun d hd => by cases hd; exact rfl))
            go_simp
          · have q0 := hG.old 0 (by kernel_rfl) (by kernel_rfl)
            refine step_slot rfl rfl rfl (step_value (v := .slice (some ad) n c) (w' := wx) rfl rfl ?_ (Below.refl _ _) (fun d hd => by cases hd; exact rfl))
            go_simp
          · have q7 := hG.old 7 (by kernel_rfl) (by kernel_rfl)
            refine step_slot rfl rfl rfl (step_value (v := .int .i64 k) (w' := wx) rfl rfl ?_ (Below.refl _ _) (fun d hd => by cases hd; exact rfl))
            go_simp
          · obtain ⟨_, q23, rfl⟩ := hG.new 23 (by kernel_rfl) (by kernel_rfl)
            obtain ⟨_, q24, rfl⟩ := hG.new 24 (by kernel_rfl) (by kernel_rfl)
            refine step_slot rfl rfl rfl (step_value (v := .pointer (some (ad.add (k * 4)))) (w' := wx) rfl rfl ?_ (Below.refl _ _) (fun d hd => by cases hd; exact rfl))
            have hkn := HKN.out
            go_simp
          · obtain ⟨_, q25, rfl⟩ := hG.new 25 (by kernel_rfl) (by kernel_rfl)
            obtain ⟨z0, z1, z2, z3⟩ := HCX.out wx hS
            refine step_slot rfl rfl rfl (step_value (v := .agg #[.int .i64 xk, .string xe, .string xv, .int .u64 (xn.toNat : Int)]) (w' := wx) rfl rfl ?_ (Below.refl _ _) (fun d hd => by cases hd; exact rfl))
            go_simp
          · have q3 := hG.old 3 (by kernel_rfl) (by kernel_rfl)
            obtain ⟨z0, z1, z2, z3⟩ := HCN.out wx hS
            refine step_slot rfl rfl rfl (step_value (v := .agg #[.int .i64 nk, .string key, .string nv, .int .u64 (nn.toNat : Int)]) (w' := wx) rfl rfl ?_ (Below.refl _ _) (fun d hd => by cases hd; exact rfl))
            go_simp
          · obtain ⟨_, q26, rfl⟩ := hG.new 26 (by kernel_rfl) (by kernel_rfl)
            obtain ⟨_, q27, rfl⟩ := hG.new 27 (by kernel_rfl) (by kernel_rfl)
            refine step_slot rfl rfl rfl (step_call (w1 := wx) (f := 24) (args := #[.agg #[.int .i64 xk, .string xe, .string xv, .int .u64 (xn.toNat : Int)], .agg #[.int .i64 nk, .string key, .string nv, .int .u64 (nn.toNat : Int)]]) rfl rfl ?_ ((HBOTH.out wx).mono ?_))
            · skip
              go_simp
            · rintro e w' ⟨rfl, hq⟩
              exact ⟨_, rfl, hq, fun d hd => by cases hd; exact rfl⟩
          · obtain ⟨_, q28, rfl⟩ := hG.new 28 (by kernel_rfl) (by kernel_rfl)
            refine step_slot rfl rfl rfl (step_value (v := .slice (some ⟨wx.heap.size, 0, none⟩) 1 1) (w' := wx.alloc (.cells #[.int .i64 bk, .string be, .string bv, .int .u64 (bn.toNat : Int)] 32)) rfl rfl ?_ ((Below.refl _ _).alloc (Nat.le_refl _) _) (fun d hd => by cases hd; exact fun _ => ⟨_, rfl, hS.1.size, Box.fresh _ _ _⟩))
            go_simp
          · obtain ⟨v22, q1, h22⟩ := hG.new 22 (by kernel_rfl) (by kernel_rfl)
            rw [show v22 = u5 from h22] at q1
            clear h22 v22
            obtain ⟨v29, q2, h2⟩ := hG.new 29 (by kernel_rfl) (by kernel_rfl)
            have hown := own_below D5.out (hS.2 rfl)
            obtain ⟨g5, rfl, hl5⟩ := OneN.lies ((show 0 = 0 → OneN w1.heap.size (⟨bk, be, bv, bn⟩ : Nt) wx v29 from h2) rfl)
            obtain ⟨v2, w2, hr, hown2, hg⟩ := run_append_nts wx 22 w1.heap.size u5 m _ hown wx.heap.size (some ⟨g5, 0, none⟩) 1 1 [(⟨bk, be, bv, bn⟩ : Nt)] rfl hl5 (fun h => by cases h) (by have := HM.out; omega) hS.1.size
            have hS2 : Below w1.heap.size w1 w2 := hS.1.grown hg hS.1.size (fun k hk => (own_lt hown hk).1)
            refine step_marked (v := v2) (w' := w2) rfl rfl rfl rfl ?_ ⟨hS2, fun h => absurd h (by decide)⟩ trivial ?_ ?_
            · have e1 : ax.eval (.tmp 22) = u5 := by simp [Act.eval, q1]
              have e2 : ax.eval (.tmp 29) = .slice (some ⟨g5, 0, none⟩) 1 1 := by simp [Act.eval, q2]
              unfold execOp
              simp only [resolve, invoke, builtin, Sem.run_bind, Sem.run_pure, Result.andThen_ok, List.map_toArray, List.map_cons, List.map_nil, e1, e2, hr]
            · exact fun _ => (by simpa using hown2)
            · intro t u _ ht hu hV
              unfold PushV at hV ⊢
              split at hV
              · exact hV
              · exact hV
              · exact hV
              · exact hV
              · exact hV
              · exact hV
              · exact hV
              · exact fun h => absurd h (by decide)
              · exact absurd rfl ht
              · exact absurd hV.1 (by decide)
              · trivial
        · skip
          refine Steps1.cons (fun hin _ _ _ _ _ => out (by kernel_rfl) hin) (Steps1.cons (fun hin _ _ _ _ _ => out (by kernel_rfl) hin) (Steps1.cons (fun hin _ _ _ _ _ => out (by kernel_rfl) hin) (Steps1.cons (fun hin _ _ _ _ _ => out (by kernel_rfl) hin) (Steps1.cons (fun hin _ _ _ _ _ => out (by kernel_rfl) hin) (Steps1.cons (fun hin _ _ _ _ _ => out (by kernel_rfl) hin) (Steps1.cons (fun hin _ _ _ _ _ => out (by kernel_rfl) hin) (Steps1.cons (fun hin _ _ _ _ _ => out (by kernel_rfl) hin) (Steps1.cons (fun hin _ _ _ _ _ => out (by kernel_rfl) hin) (Steps1.cons (fun _ ax wx hS hJ hG => ?_) Steps1.nil)))))))))
          · obtain ⟨v30, q30, h30⟩ := hG.new 30 (by kernel_rfl) (by kernel_rfl)
            refine step_slot rfl rfl rfl (step_value (v := v30) (w' := wx) rfl rfl ?_ (Below.refl _ _) (fun d hd => by cases hd; exact ⟨rfl, (show 1 = 1 → _ from h30) rfl⟩))
            clear h30
            go_simp
        intro gg wa hSa _ hVa
        have e5 : 1 = 1 ∧ wa.ownsRow w1.heap.size 32 4 (gg 5) (m + 1) ((outAt l (⟨nk, key, nv, nn⟩ : Nt) k).flatMap Nt.cells ++ (⟨bk, be, bv, bn⟩ : Nt).cells) := hVa 5 (by decide)
        simp only [puts, Act.put, List.setIfInBounds_toArray, List.set_cons_succ, List.set_cons_zero]
        clear hVa
        generalize gg 22 = f22 at *
        generalize gg 23 = f23 at *
        generalize gg 24 = f24 at *
        generalize gg 25 = f25 at *
        generalize gg 26 = f26 at *
        generalize gg 27 = f27 at *
        generalize gg 28 = f28 at *
        generalize gg 29 = f29 at *
        generalize gg 30 = f30 at *
        generalize gg 5 = f5 at *
        have hown5 := Lib.hid e5.2
        have hba : Below w1.heap.size w1 wa := hSa.1
        clear e5 hSa
        go_wp2
        go_roundw
        case rel => exact ⟨k + 1, m + 1, by go_num, by omega, by first | rfl | trivial | (rw [HST.out.1]), by show World.ownsRow _ _ _ _ _ _ _; rw [HST.out.2, List.flatMap_append, ← HX.out]; first | exact (show _ from by have h := hown5.out; rw [HBB.out] at h; simpa using h) | simpa [List.append_assoc] using (show _ from by have h := hown5.out; rw [HBB.out] at h; simpa using h), by show _ = _; rw [HST.out.2]; simp; have := HN.out; omega, hba⟩
        case measure => simp [intOf]; omega
      · have hz := str_ne heq
        by_cases hless : xe < key
        · -- less
          have hles : Op.bytesLess xe.toList key.toList = true := lt_iff.1 hless
          have HST := Lib.hid (show P (k + 1) = P k ∧ outAt l ⟨nk, key, nv, nn⟩ (k + 1) = outAt l ⟨nk, key, nv, nn⟩ k ++ [l[k]'hkl] from by
            rw [HP.out, HP.out]
            obtain ⟨h1, h2, h3⟩ := out_lt HS.out hkl (n := ⟨nk, key, nv, nn⟩) (by rw [← HX.out]; exact hless)
            exact ⟨h2.trans h1.symm, h3⟩)
          clear heq hless
          obtain ⟨c1, c2, c3, c4, b1, b2, b3, b4⟩ := HC.out wr hbr
          go_wp2
          go_quiet (fail)
          obtain ⟨wd, hwd⟩ : ∃ wz, wz = wr.drewN nq := ⟨_, rfl⟩
          rw [← hwd]
          have hbd : Below w1.heap.size w1 wd := by rw [hwd]; exact below_drewN hbr _
          have D5 := Lib.hid (show wd.ownsRow w1.heap.size 32 4 u5 m ((outAt l ⟨nk, key, nv, nn⟩ k).flatMap Nt.cells) from by show World.ownsRow _ _ _ _ _ _ _; rw [hwd]; exact own_below HO5.out (below_drewN (Below.refl _ _) _))
          clear hwd
          clear c1 c2 c3 c4 b1 b2 b3 b4
          obtain ⟨c1, c2, c3, c4, b1, b2, b3, b4⟩ := HC.out wd hbd
          go_wp2
          go_quiet (fail)
          obtain ⟨we, hwd⟩ : ∃ wz, wz = wd.drewN nq := ⟨_, rfl⟩
          rw [← hwd]
          have hbe : Below w1.heap.size w1 we := by rw [hwd]; exact below_drewN hbd _
          have E5 := Lib.hid (show we.ownsRow w1.heap.size 32 4 u5 m ((outAt l ⟨nk, key, nv, nn⟩ k).flatMap Nt.cells) from by show World.ownsRow _ _ _ _ _ _ _; rw [hwd]; exact own_below D5.out (below_drewN (Below.refl _ _) _))
          clear hwd
          clear c1 c2 c3 c4 b1 b2 b3 b4 D5
          obtain ⟨c1, c2, c3, c4, b1, b2, b3, b4⟩ := HC.out we hbe
          have hownA := E5.out
          have hbsA := hbe.size
          go_wp2_with (at_builtin; refine append_nts _ rfl _ _ rfl w1.heap.size _ m ((outAt l ⟨nk, key, nv, nn⟩ k).flatMap Nt.cells) rfl (hownA.alloc _) (we.heap.size + 1) (some ⟨we.heap.size, 0, none⟩) 1 1 [(⟨xk, xe, xv, xn⟩ : Nt)] rfl rfl ?a1 (fun h => by cases h) ?a2 ?a3 ?_)
          case a1 => exact Lies.lit Nt.cells4 rfl
          case a2 => have := HM.out; omega
          case a3 => first | omega | (simp; omega)
          intro v6 wf hown2 hg2
          have hk2 : ∀ k, Value.ownBlock _ = some k → w1.heap.size ≤ k := fun k hk => (own_lt hownA hk).1
          have hbf : Below w1.heap.size w1 wf := (hbe.alloc hbsA _).grown hg2 (by simp; omega) hk2
          have F5 := Lib.hid (show wf.ownsRow w1.heap.size 32 4 v6 (m + 1) ((outAt l ⟨nk, key, nv, nn⟩ k).flatMap Nt.cells ++ (⟨xk, xe, xv, xn⟩ : Nt).cells) from by show World.ownsRow _ _ _ _ _ _ _; simpa using hown2)
          clear hownA hbsA hown2 hg2 hk2
          clear c1 c2 c3 c4 b1 b2 b3 b4 E5
          go_wp2
          go_roundw
          case rel => exact ⟨k + 1, m + 1, by go_num, by omega, by first | rfl | trivial | (rw [HST.out.1]), by show World.ownsRow _ _ _ _ _ _ _; rw [HST.out.2, List.flatMap_append, ← HX.out]; first | exact (show _ from by simpa using F5.out) | simpa [List.append_assoc] using (show _ from by simpa using F5.out), by show _ = _; rw [HST.out.2]; simp; have := HN.out; omega, hbf⟩
          case measure => simp [intOf]; omega
        · -- greater
          have hgr : key < xe := by grind
          have hles : Op.bytesLess xe.toList key.toList = false := by
            have h1 : ltS xe key = false := by rw [ltS_eq]; exact decide_eq_false hless
            exact h1
          cases hpk : P k with
          | false =>
            have HST := Lib.hid (show P (k + 1) = true ∧ outAt l ⟨nk, key, nv, nn⟩ (k + 1) = outAt l ⟨nk, key, nv, nn⟩ k ++ [⟨nk, key, nv, nn⟩] ++ [l[k]'hkl] from by
              rw [HP.out]
              exact out_new hkl (n := ⟨nk, key, nv, nn⟩) (by rw [← HX.out]; exact hgr) (by rw [← HP.out]; exact hpk))
            clear heq hless hgr hpk
            obtain ⟨c1, c2, c3, c4, b1, b2, b3, b4⟩ := HC.out wr hbr
            go_wp2
            go_quiet (fail)
            obtain ⟨wd, hwd⟩ : ∃ wz, wz = wr.drewN nq := ⟨_, rfl⟩
            rw [← hwd]
            have hbd : Below w1.heap.size w1 wd := by rw [hwd]; exact below_drewN hbr _
            have D5 := Lib.hid (show wd.ownsRow w1.heap.size 32 4 u5 m ((outAt l ⟨nk, key, nv, nn⟩ k).flatMap Nt.cells) from by show World.ownsRow _ _ _ _ _ _ _; rw [hwd]; exact own_below HO5.out (below_drewN (Below.refl _ _) _))
            clear hwd
            clear c1 c2 c3 c4 b1 b2 b3 b4
            obtain ⟨c1, c2, c3, c4, b1, b2, b3, b4⟩ := HC.out wd hbd
            go_wp2
            go_quiet (fail)
            obtain ⟨we, hwd⟩ : ∃ wz, wz = wd.drewN nq := ⟨_, rfl⟩
            rw [← hwd]
            have hbe : Below w1.heap.size w1 we := by rw [hwd]; exact below_drewN hbd _
            have E5 := Lib.hid (show we.ownsRow w1.heap.size 32 4 u5 m ((outAt l ⟨nk, key, nv, nn⟩ k).flatMap Nt.cells) from by show World.ownsRow _ _ _ _ _ _ _; rw [hwd]; exact own_below D5.out (below_drewN (Below.refl _ _) _))
            clear hwd
            clear c1 c2 c3 c4 b1 b2 b3 b4 D5
            obtain ⟨c1, c2, c3, c4, b1, b2, b3, b4⟩ := HC.out we hbe
            have hownA := E5.out
            have hbsA := hbe.size
            go_wp2_with (at_builtin; refine append_nts _ rfl _ _ rfl w1.heap.size _ m ((outAt l ⟨nk, key, nv, nn⟩ k).flatMap Nt.cells) rfl (hownA.alloc _) (we.heap.size + 1) (some ⟨we.heap.size, 0, none⟩) 1 1 [(⟨nk, key, nv, nn⟩ : Nt)] rfl rfl ?a1 (fun h => by cases h) ?a2 ?a3 ?_)
            case a1 => exact Lies.lit Nt.cells4 rfl
            case a2 => have := HM.out; omega
            case a3 => first | omega | (simp; omega)
            intro v6 wf hown2 hg2
            have hk2 : ∀ k, Value.ownBlock _ = some k → w1.heap.size ≤ k := fun k hk => (own_lt hownA hk).1
            have hbf : Below w1.heap.size w1 wf := (hbe.alloc hbsA _).grown hg2 (by simp; omega) hk2
            have F5 := Lib.hid (show wf.ownsRow w1.heap.size 32 4 v6 (m + 1) ((outAt l ⟨nk, key, nv, nn⟩ k).flatMap Nt.cells ++ (⟨nk, key, nv, nn⟩ : Nt).cells) from by show World.ownsRow _ _ _ _ _ _ _; simpa using hown2)
            clear hownA hbsA hown2 hg2 hk2
            clear c1 c2 c3 c4 b1 b2 b3 b4 E5
            obtain ⟨c1, c2, c3, c4, b1, b2, b3, b4⟩ := HC.out wf hbf
            have hownA := F5.out
            have hbsA := hbf.size
            go_wp2_with (at_builtin; refine append_nts _ rfl _ _ rfl w1.heap.size _ (m + 1) ((outAt l ⟨nk, key, nv, nn⟩ k).flatMap Nt.cells ++ (⟨nk, key, nv, nn⟩ : Nt).cells) rfl (hownA.alloc _) (wf.heap.size + 1) (some ⟨wf.heap.size, 0, none⟩) 1 1 [(⟨xk, xe, xv, xn⟩ : Nt)] rfl rfl ?a1 (fun h => by cases h) ?a2 ?a3 ?_)
            case a1 => exact Lies.lit Nt.cells4 rfl
            case a2 => have := HM.out; omega
            case a3 => first | omega | (simp; omega)
            intro v7 wg hown2 hg2
            have hk2 : ∀ k, Value.ownBlock _ = some k → w1.heap.size ≤ k := fun k hk => (own_lt hownA hk).1
            have hbg : Below w1.heap.size w1 wg := (hbf.alloc hbsA _).grown hg2 (by simp; omega) hk2
            have G5 := Lib.hid (show wg.ownsRow w1.heap.size 32 4 v7 ((m + 1) + 1) ((outAt l ⟨nk, key, nv, nn⟩ k).flatMap Nt.cells ++ (⟨nk, key, nv, nn⟩ : Nt).cells ++ (⟨xk, xe, xv, xn⟩ : Nt).cells) from by show World.ownsRow _ _ _ _ _ _ _; simpa using hown2)
            clear hownA hbsA hown2 hg2 hk2
            clear c1 c2 c3 c4 b1 b2 b3 b4 F5
            go_wp2
            go_roundw
            case rel => exact ⟨k + 1, m + 1 + 1, by go_num, by omega, by first | rfl | trivial | (rw [HST.out.1]), by show World.ownsRow _ _ _ _ _ _ _; rw [HST.out.2, List.flatMap_append, List.flatMap_append, ← HX.out]; first | exact (show _ from by simpa using G5.out) | simpa [List.append_assoc] using (show _ from by simpa using G5.out), by show _ = _; rw [HST.out.2]; simp; have := HN.out; omega, hbg⟩
            case measure => simp [intOf]; omega
          | true =>
            have HST := Lib.hid (show P (k + 1) = true ∧ outAt l ⟨nk, key, nv, nn⟩ (k + 1) = outAt l ⟨nk, key, nv, nn⟩ k ++ [l[k]'hkl] from by
              rw [HP.out]
              exact out_gt hkl (n := ⟨nk, key, nv, nn⟩) (by rw [← HX.out]; exact hgr) (by rw [← HP.out]; exact hpk))
            clear heq hless hgr hpk
            obtain ⟨c1, c2, c3, c4, b1, b2, b3, b4⟩ := HC.out wr hbr
            go_wp2
            go_quiet (fail)
            obtain ⟨wd, hwd⟩ : ∃ wz, wz = wr.drewN nq := ⟨_, rfl⟩
            rw [← hwd]
            have hbd : Below w1.heap.size w1 wd := by rw [hwd]; exact below_drewN hbr _
            have D5 := Lib.hid (show wd.ownsRow w1.heap.size 32 4 u5 m ((outAt l ⟨nk, key, nv, nn⟩ k).flatMap Nt.cells) from by show World.ownsRow _ _ _ _ _ _ _; rw [hwd]; exact own_below HO5.out (below_drewN (Below.refl _ _) _))
            clear hwd
            clear c1 c2 c3 c4 b1 b2 b3 b4
            obtain ⟨c1, c2, c3, c4, b1, b2, b3, b4⟩ := HC.out wd hbd
            go_wp2
            go_quiet (fail)
            obtain ⟨we, hwd⟩ : ∃ wz, wz = wd.drewN nq := ⟨_, rfl⟩
            rw [← hwd]
            have hbe : Below w1.heap.size w1 we := by rw [hwd]; exact below_drewN hbd _
            have E5 := Lib.hid (show we.ownsRow w1.heap.size 32 4 u5 m ((outAt l ⟨nk, key, nv, nn⟩ k).flatMap Nt.cells) from by show World.ownsRow _ _ _ _ _ _ _; rw [hwd]; exact own_below D5.out (below_drewN (Below.refl _ _) _))
            clear hwd
            clear c1 c2 c3 c4 b1 b2 b3 b4 D5
            obtain ⟨c1, c2, c3, c4, b1, b2, b3, b4⟩ := HC.out we hbe
            have hownA := E5.out
            have hbsA := hbe.size
            go_wp2_with (at_builtin; refine append_nts _ rfl _ _ rfl w1.heap.size _ m ((outAt l ⟨nk, key, nv, nn⟩ k).flatMap Nt.cells) rfl (hownA.alloc _) (we.heap.size + 1) (some ⟨we.heap.size, 0, none⟩) 1 1 [(⟨xk, xe, xv, xn⟩ : Nt)] rfl rfl ?a1 (fun h => by cases h) ?a2 ?a3 ?_)
            case a1 => exact Lies.lit Nt.cells4 rfl
            case a2 => have := HM.out; omega
            case a3 => first | omega | (simp; omega)
            intro v6 wf hown2 hg2
            have hk2 : ∀ k, Value.ownBlock _ = some k → w1.heap.size ≤ k := fun k hk => (own_lt hownA hk).1
            have hbf : Below w1.heap.size w1 wf := (hbe.alloc hbsA _).grown hg2 (by simp; omega) hk2
            have F5 := Lib.hid (show wf.ownsRow w1.heap.size 32 4 v6 (m + 1) ((outAt l ⟨nk, key, nv, nn⟩ k).flatMap Nt.cells ++ (⟨xk, xe, xv, xn⟩ : Nt).cells) from by show World.ownsRow _ _ _ _ _ _ _; simpa using hown2)
            clear hownA hbsA hown2 hg2 hk2
            clear c1 c2 c3 c4 b1 b2 b3 b4 E5
            go_wp2
            go_roundw
            case rel => exact ⟨k + 1, m + 1, by go_num, by omega, by first | rfl | trivial | (rw [HST.out.1]), by show World.ownsRow _ _ _ _ _ _ _; rw [HST.out.2, List.flatMap_append, ← HX.out]; first | exact (show _ from by simpa using F5.out) | simpa [List.append_assoc] using (show _ from by simpa using F5.out), by show _ = _; rw [HST.out.2]; simp; have := HN.out; omega, hbf⟩
            case measure => simp [intOf]; omega
    · have hkn : k = n := by omega
      have hll : k = l.length := by rw [HL.out]; exact hkn
      have HEE := Lib.hid (show pushOne l ⟨nk, key, nv, nn⟩ = if P k then outAt l ⟨nk, key, nv, nn⟩ k else outAt l ⟨nk, key, nv, nn⟩ k ++ [⟨nk, key, nv, nn⟩] from by rw [HP.out, hll]; exact HEND.out)
      clear hkn hll
      obtain ⟨b1, b2, b3, b4⟩ := NBlk.cells (HBX.out.on hbr)
      simp only at b1 b2 b3 b4
      cases hpk : P k with
      | true =>
        rw [hpk] at HEE
        have HE := Lib.hid (show pushOne l ⟨nk, key, nv, nn⟩ = outAt l ⟨nk, key, nv, nn⟩ k from HEE.out)
        clear HEE hpk
        go_wp2
        go_ret
        exact ⟨_, rfl, by rw [HE.out]; exact NV.own HO5.out HN.out, HB1.out.trans (hbr.mono hbs1)⟩
      | false =>
        rw [hpk] at HEE
        have HE := Lib.hid (show pushOne l ⟨nk, key, nv, nn⟩ = outAt l ⟨nk, key, nv, nn⟩ k ++ [⟨nk, key, nv, nn⟩] from HEE.out)
        clear HEE hpk
        have hownA := HO5.out
        have hbsA := hbr.size
        go_wp2_with (at_builtin; refine append_nts _ rfl _ _ rfl w1.heap.size _ m ((outAt l ⟨nk, key, nv, nn⟩ k).flatMap Nt.cells) rfl (hownA.alloc _) (wr.heap.size + 1) (some ⟨wr.heap.size, 0, none⟩) 1 1 [(⟨nk, key, nv, nn⟩ : Nt)] rfl rfl ?a1 (fun h => by cases h) ?a2 ?a3 ?_)
        case a1 => exact Lies.lit Nt.cells4 rfl
        case a2 => have := HM.out; omega
        case a3 => first | omega | (simp; omega)
        intro v6 wf hown2 hg2
        have hk2 : ∀ k, Value.ownBlock _ = some k → w1.heap.size ≤ k := fun k hk => (own_lt hownA hk).1
        have hbf : Below w1.heap.size w1 wf := (hbr.alloc hbsA _).grown hg2 (by simp; omega) hk2
        have F5 := Lib.hid (show wf.ownsRow w1.heap.size 32 4 v6 (m + 1) ((outAt l ⟨nk, key, nv, nn⟩ k).flatMap Nt.cells ++ (⟨nk, key, nv, nn⟩ : Nt).cells) from by show World.ownsRow _ _ _ _ _ _ _; simpa using hown2)
        clear hownA hbsA hown2 hg2 hk2
        clear b1 b2 b3 b4 HO5
        go_wp2
        go_ret
        exact ⟨_, rfl, by rw [HE.out]; exact NV.own (show World.ownsRow _ _ _ _ _ (m + 1) _ from by rw [List.flatMap_append]; simpa using F5.out) (by rw [List.length_append, ← HN.out]; rfl), HB1.out.trans (hbf.mono hbs1)⟩
theorem dpush_v {v : Value} {l : List Nt} {w : World} (h : NV w v l) (nk : Int) (key nv : ByteArray) (nn : UInt64) (hn : l.length ≤ 1000) (hs : SortedN l) :
    Calls Try.prog 33 #[v, .agg #[.int .i64 nk, .string key, .string nv, .int .u64 (nn.toNat : Int)]] w fun e w' => ∃ v', e = .returned v' ∧ NV w' v' (pushOne l ⟨nk, key, nv, nn⟩) ∧ Below w.heap.size w w' := by
  obtain ⟨A, c, rfl, h1, _, _⟩ := h
  exact dpush_any A c l nk key nv nn w h1 hn hs

set_option maxHeartbeats 2000000 in
set_option maxRecDepth 100000 in
theorem dPush_any (A : Option Addr) (c : Nat) (l : List Nt) (B : Option Addr) (d : Nat) (ns : List Nt) (w : World) (hA : Nts w w.heap.size A l) (hB : Nts w w.heap.size B ns) (hc : l.length ≤ c) (hz : A = none → c = 0) (hmax : l.length + ns.length ≤ 1000) :
    Calls Try.prog 12 #[.slice A l.length c, .slice B ns.length d] w fun e w' => ∃ v, e = .returned (.tuple #[v, .int .i64 (pushE l ns)]) ∧ NV w' v (pushA l ns) ∧ Below w.heap.size w w' := by
  have hr := dwell_any A c l w hA (by unfold maxLen; omega)
  have hal := fun wx (h : Below w.heap.size w wx) => dall_any B d ns wx (hB.on h) (by unfold maxLen; omega)
  have hpv : NV w (.slice A l.length c) l := ⟨A, c, rfl, hA, hc, hz⟩
  have HV := Lib.hid hpv
  have HB := Lib.hid hB
  have hE : pushE l ns = if wellN l && ns.all rightN then 0 else 1 := rfl
  have hL : pushA l ns = if wellN l && ns.all rightN then pushL l ns else l := rfl
  obtain ⟨r1, hr1⟩ : ∃ r1, r1 = wellN l := ⟨_, rfl⟩
  obtain ⟨r2, hr2⟩ : ∃ r2, r2 = ns.all rightN := ⟨_, rfl⟩
  rw [← hr1, ← hr2] at hE hL
  rw [← hr1] at hr
  rw [← hr2] at hal
  have HR := Lib.hid (And.intro hr1 hr2)
  clear hr1 hr2 hpv hA hB hc hz
  obtain ⟨m, hm⟩ : ∃ m, ns.length = m := ⟨_, rfl⟩
  rw [hm] at hal hmax ⊢
  have HM := Lib.hid hm
  obtain ⟨n, hn⟩ : ∃ n, l.length = n := ⟨_, rfl⟩
  rw [hn] at hr HV hmax ⊢
  have HN := Lib.hid hn
  clear hm hn
  obtain ⟨E, hEE⟩ : ∃ E, E = pushE l ns := ⟨_, rfl⟩
  obtain ⟨L, hLL⟩ : ∃ L, L = pushA l ns := ⟨_, rfl⟩
  rw [← hEE] at hE
  rw [← hLL] at hL
  rw [← hEE, ← hLL]
  clear hEE hLL
  have HEL := Lib.hid (And.intro hE hL)
  clear hE hL
  go_enter Try.func12, Try.ntmps12
  go_wp2_with fail
  refine hr.mono ?_
  clear hr
  rintro e w1 ⟨rfl, hb1⟩
  have hal1 := hal w1 hb1
  clear hal
  go_wp2_with fail
  refine hal1.mono ?_
  clear hal1
  rintro e w2 ⟨rfl, hb2⟩
  have hb12 := hb1.trans (hb2.mono hb1.size)
  clear hb1 hb2
  have HE := Lib.hid (show NV w2 (.slice A n c) l from HV.out.on hb12)
  by_cases hrr : r1 = true ∧ r2 = true
  case neg =>
    have hr0 : (r1 && r2) = false := by cases r1 <;> cases r2 <;> simp_all
    obtain ⟨rfl, rfl⟩ : E = 1 ∧ L = l := by have h := HEL.out; rw [hr0] at h; exact h
    cases r1 with
    | false =>
      clear hrr hr0
      go_wp2
      go_ret2
      exact ⟨_, rfl, HE.out, hb12⟩
    | true =>
      cases r2 with
      | false =>
        clear hrr hr0
        go_wp2
        go_ret2
        exact ⟨_, rfl, HE.out, hb12⟩
      | true => exact absurd ⟨rfl, rfl⟩ hrr
  obtain ⟨rfl, rfl⟩ := hrr
  obtain ⟨rfl, hL⟩ : E = 0 ∧ L = pushL l ns := HEL.out
  have HLL := Lib.hid hL
  clear hL
  have HS := Lib.hid (show SortedN l from wellN_sorted HR.out.1.symm)
  clear HV
  go_wp2
  go_loopw [0, 8] (fun v0 vi wr => ∃ (k : Nat), vi = .int .i64 k ∧ k ≤ m ∧ Hid (NV wr v0 (pushL l (ns.take k))) ∧ Below w.heap.size w wr) (fun _ vi _ => (m - intOf vi).toNat)
  case atStart => exact ⟨0, rfl, by omega, HE, hb12⟩
  case round =>
    clear HE hb12
    obtain ⟨k, rfl, hk, HP, hbr⟩ := hrel
    by_cases hlt : k < m
    · have hkl : k < ns.length := by rw [HM.out]; exact hlt
      obtain ⟨ad, rfl, hab, hca⟩ := (HB.out.below hbr).seeN (by rw [HM.out]; omega)
      obtain ⟨c1, c2, c3, c4⟩ := hca k hkl
      obtain ⟨x, hx⟩ : ∃ x, x = ns[k]'hkl := ⟨_, rfl⟩
      rw [← hx] at c1 c2 c3 c4
      have HX := Lib.hid (show pushL l (ns.take (k + 1)) = pushOne (pushL l (ns.take k)) x from by
        rw [List.take_succ_eq_append_getElem hkl, pushL_append, ← hx]; rfl)
      clear hx hca
      obtain ⟨xk, xkey, xval, xn⟩ := x
      simp only at c1 c2 c3 c4
      have hone := dpush_v HP.out xk xkey xval xn (by have h1 := len_pushL HS.out (ns.take k); have h2 := HM.out; have h3 := HN.out; simp at h1; omega) (sorted_pushL HS.out _)
      rw [← HX.out] at hone
      have hbs := hbr.size
      go_wp2_with fail
      refine hone.mono ?_
      clear hone
      rintro e w3 ⟨v', rfl, hpv, hb3⟩
      have HP3 := Lib.hid hpv
      have hbr3 := hbr.trans (hb3.mono hbs)
      clear hb3 hpv c1 c2 c3 c4 HP
      go_wp2
      go_roundw
      case rel => exact ⟨k + 1, by go_num, by omega, HP3, hbr3⟩
      case measure => simp [intOf]; omega
    · have hkm : ns.take k = ns := List.take_of_length_le (by rw [HM.out]; omega)
      have HE := Lib.hid (show NV wr u0 L from by have h := HP.out; rw [hkm] at h; rw [HLL.out]; exact h)
      clear HP hkm
      go_wp2
      go_ret2
      exact ⟨_, rfl, HE.out, hbr⟩
theorem dPush_v {v u : Value} {l : List Nt} {ns : List Nt} {w : World} (h : NV w v l) (g : NV w u ns) (hmax : l.length + ns.length ≤ 1000) :
    Calls Try.prog 12 #[v, u] w fun e w' => ∃ v', e = .returned (.tuple #[v', .int .i64 (pushE l ns)]) ∧ NV w' v' (pushA l ns) ∧ Below w.heap.size w w' := by
  obtain ⟨A, c, rfl, h1, h2, h3⟩ := h
  obtain ⟨B, d, rfl, g1, g2, g3⟩ := g
  exact dPush_any A c l B d ns w h1 g1 h2 h3 hmax

end Go.Proofs.Ytaboccbakicmhaa
