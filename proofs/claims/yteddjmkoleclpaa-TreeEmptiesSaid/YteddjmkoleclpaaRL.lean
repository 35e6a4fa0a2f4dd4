/- The walks of the document's Right and Find of pairs. -/
import Derived.Test.YteddjmkoleclpaaAS
import Derived.Test.YteddjmkoleclpaaRStep
import Derived.Test.YteddjmkoleclpaaRD
import Derived.Test.YteddjmkoleclpaaRInfo
set_option linter.unusedVariables false
set_option linter.unusedSimpArgs false
namespace Go.Proofs.Yteddjmkoleclpaa
open Go.RowKit

set_option maxHeartbeats 2000000 in
set_option maxRecDepth 100000 in
theorem dright_pr (A : Option Addr) (c : Nat) (l : List Pr) (w : World) (hA : Prs w w.heap.size A l) (hn : l.length ≤ maxLen) :
    Calls Try.prog 25 #[.slice A l.length c] w fun e w' => e = .returned (.bool (wellL l)) ∧ Below w.heap.size w w' := by
  unfold maxLen at hn
  obtain ⟨R, hR⟩ : ∃ R, R = wellL l := ⟨_, rfl⟩
  rw [← hR]
  have HY := Lib.hid (show (∀ i (h : i < l.length), fitsP l[i] = true ∧ (0 < i → l[i - 1].k < l[i].k)) → R = true from fun h => by rw [hR]; exact (wellL_iff l).2 h)
  have HNo := Lib.hid (show ∀ i (h : i < l.length), ¬ (fitsP l[i] = true ∧ (0 < i → l[i - 1].k < l[i].k)) → R = false from fun i h hn => by rw [hR]; exact wellL_no i h hn)
  clear hR
  obtain ⟨n, hl⟩ : ∃ n, l.length = n := ⟨_, rfl⟩
  rw [hl] at hn ⊢
  have HL := Lib.hid hl
  have HA := Lib.hid hA
  clear hl hA
  go_enter Try.func25, Try.ntmps25
  go_wp2
  go_loopw [3] (fun i wr => ∃ (k : Nat), i = .int .i64 k ∧ k ≤ n ∧ Hid (∀ i (h : i < l.length), i < k → fitsP l[i] = true ∧ (0 < i → l[i - 1].k < l[i].k)) ∧ Below w.heap.size w wr) (fun i _ => (n - intOf i).toNat)
  case atStart => exact ⟨0, rfl, by omega, fun i h h0 => by omega, Below.refl _ _⟩
  case round =>
    obtain ⟨k, rfl, hk, HG, hbr⟩ := hrel
    by_cases hlt : k < n
    · obtain ⟨ad, rfl, hab, hca⟩ := (HA.out.below hbr).seeP (by rw [HL.out]; omega)
      have hkl : k < l.length := by rw [HL.out]; exact hlt
      obtain ⟨c1, c2⟩ := hca k hkl
      obtain ⟨x, hx⟩ : ∃ x, x = l[k]'hkl := ⟨_, rfl⟩
      rw [← hx] at c1 c2
      have HX := Lib.hid hx
      clear hx
      obtain ⟨xk, xv⟩ := x
      simp only at c1 c2
      have HCA := Lib.hid hca
      clear hca
      by_cases h16 : xk.size ≤ 16
      case neg =>
        have hd16 : decide (16 < (xk.size : Int)) = true := by simp; omega
        have HE := Lib.hid (HNo.out k hkl (fun h => h16 ((fitsP_iff ⟨xk, xv⟩).1 (by rw [HX.out]; exact h.1)).1))
        clear h16
        go_wp2
        go_ret
        rw [HE.out]
        exact ⟨rfl, hbr⟩
      have hd16 : decide (16 < (xk.size : Int)) = false := by simp; omega
      by_cases h32 : xv.size ≤ 32
      case neg =>
        have hd32 : decide (32 < (xv.size : Int)) = true := by simp; omega
        have HE := Lib.hid (HNo.out k hkl (fun h => h32 ((fitsP_iff ⟨xk, xv⟩).1 (by rw [HX.out]; exact h.1)).2))
        clear h32 h16
        go_wp2
        go_ret
        rw [HE.out]
        exact ⟨rfl, hbr⟩
      have hd32 : decide (32 < (xv.size : Int)) = false := by simp; omega
      have HF := Lib.hid (show fitsP (l[k]'hkl) = true by rw [← HX.out]; exact (fitsP_iff _).2 ⟨h16, h32⟩)
      clear h16 h32
      by_cases h0 : k = 0
      · have HG2 := Lib.hid (show ∀ i (h : i < l.length), i < k + 1 → fitsP l[i] = true ∧ (0 < i → l[i - 1].k < l[i].k) from fun i h h1 => by
          have : i = k := by omega
          subst this
          exact ⟨HF.out, by omega⟩)
        have hd0 : decide (0 < k) = false := decide_eq_false (by omega)
        have hd0' : decide (0 < (k : Int)) = false := decide_eq_false (by omega)
        clear HG h0
        go_wp2
        go_quiet (fail)
        go_wp2
        go_roundw
        case rel => exact ⟨k + 1, by go_num, by omega, HG2.out, below_drewN hbr _⟩
        case measure => simp [intOf]; omega
      · have hk1 : k - 1 < l.length := by omega
        obtain ⟨kp, hkp⟩ : ∃ kp, kp = k - 1 := ⟨_, rfl⟩
        have hkpl : kp < l.length := by omega
        have wk : IntKind.i64.wrap ((k : Int) - 1) = (kp : Int) := by rw [IntKind.wrap_i64]; omega
        have hkn : kp < n := by omega
        have HKP := Lib.hid hkp
        clear hkp
        have hcp := (HCA.out kp hkpl).1
        obtain ⟨pk, hpk⟩ : ∃ pk, pk = (l[kp]'hkpl).k := ⟨_, rfl⟩
        rw [← hpk] at hcp
        have e1 : (l[k - 1]'hk1).k = pk := by rw [hpk]; congr 2; exact HKP.out.symm
        have hd0 : decide (0 < k) = true := decide_eq_true (by omega)
        have hd0' : decide (0 < (k : Int)) = true := decide_eq_true (by omega)
        by_cases hkk : pk < xk
        · have hles : Op.bytesLess pk.toList xk.toList = true := lt_iff.1 hkk
          have HG2 := Lib.hid (show ∀ i (h : i < l.length), i < k + 1 → fitsP l[i] = true ∧ (0 < i → l[i - 1].k < l[i].k) from fun i h h1 => by
            by_cases hi : i < k
            · exact HG.out i h hi
            · have : i = k := by omega
              subst this
              exact ⟨HF.out, fun _ => by rw [e1, ← HX.out]; exact hkk⟩)
          clear HG hpk e1 hkk
          go_wp2
          go_quiet (fail)
          go_wp2
          go_roundw
          case rel => exact ⟨k + 1, by go_num, by omega, HG2.out, below_drewN hbr _⟩
          case measure => simp [intOf]; omega
        · have hles : Op.bytesLess pk.toList xk.toList = false := by
            have h1 : ltS pk xk = false := by rw [ltS_eq]; exact decide_eq_false hkk
            exact h1
          have HE := Lib.hid (HNo.out k hkl (fun h => hkk (by have := h.2 (by omega); rw [e1, ← HX.out] at this; exact this)))
          clear HG hpk e1 hkk
          go_wp2
          go_quiet (fail)
          go_wp2
          go_ret
          rw [HE.out]
          exact ⟨rfl, below_drewN hbr _⟩
    · have HE := Lib.hid (HY.out fun i h => HG.out i h (by rw [HL.out] at h; omega))
      go_wp2
      go_ret
      rw [HE.out]
      exact ⟨rfl, hbr⟩

/-- What Find answers. -/
def FoundAt (l : List Pr) (key : ByteArray) (z : Int) : Prop := (z = -1 ∧ ∀ p ∈ l, p.k ≠ key) ∨ ∃ i : Nat, z = i ∧ ∃ h : i < l.length, l[i].k = key
set_option maxHeartbeats 1000000 in
set_option maxRecDepth 100000 in
theorem dfind_any (A : Option Addr) (c : Nat) (l : List Pr) (key : ByteArray) (w : World) (hA : Prs w w.heap.size A l) (hn : l.length ≤ maxLen) :
    Calls Try.prog 15 #[.slice A l.length c, .string key] w fun e w' => ∃ z, e = .returned (.int .i64 z) ∧ FoundAt l key z ∧ Below w.heap.size w w' := by
  unfold maxLen at hn
  obtain ⟨n, hl⟩ : ∃ n, l.length = n := ⟨_, rfl⟩
  rw [hl] at hn ⊢
  have HL := Lib.hid hl
  have HA := Lib.hid hA
  clear hl hA
  go_enter Try.func15, Try.ntmps15
  go_wp2
  go_loopw [5] (fun i wr => ∃ (k : Nat), i = .int .i64 k ∧ k ≤ n ∧ Hid (∀ i (h : i < l.length), i < k → l[i].k ≠ key) ∧ Below w.heap.size w wr) (fun i _ => (n - intOf i).toNat)
  case atStart => exact ⟨0, rfl, by omega, fun i h h0 => by omega, Below.refl _ _⟩
  case round =>
    obtain ⟨k, rfl, hk, HG, hbr⟩ := hrel
    by_cases hlt : k < n
    · obtain ⟨ad, rfl, hab, hca⟩ := (HA.out.below hbr).seeP (by rw [HL.out]; omega)
      have hkl : k < l.length := by rw [HL.out]; exact hlt
      obtain ⟨c1, c2⟩ := hca k hkl
      obtain ⟨x, hx⟩ : ∃ x, x = (l[k]'hkl).k := ⟨_, rfl⟩
      rw [← hx] at c1
      have HX := Lib.hid hx
      clear hx hca c2
      by_cases hxk : x = key
      · subst hxk
        clear HG
        go_wp2
        go_ret
        exact ⟨_, rfl, .inr ⟨k, rfl, hkl, HX.out.symm⟩, hbr⟩
      · have hz := str_ne hxk
        have HG2 := Lib.hid (show ∀ i (h : i < l.length), i < k + 1 → l[i].k ≠ key from fun i h h1 => by
          by_cases hi : i < k
          · exact HG.out i h hi
          · have : i = k := by omega
            subst this
            rw [← HX.out]; exact hxk)
        clear HG hxk
        go_wp2
        go_roundw
        case rel => exact ⟨k + 1, by go_num, by omega, HG2.out, hbr⟩
        case measure => simp [intOf]; omega
    · have HE := Lib.hid (show FoundAt l key (-1) from .inl ⟨rfl, fun p hp => by
        obtain ⟨i, hi, rfl⟩ := List.getElem_of_mem hp
        exact HG.out i hi (by rw [HL.out] at hi; omega)⟩)
      go_wp2
      go_ret
      exact ⟨_, rfl, HE.out, hbr⟩

end Go.Proofs.Yteddjmkoleclpaa

namespace Go.Proofs.Yteddjmkoleclpaa
open Go.RowKit

set_option maxHeartbeats 4000000 in
set_option maxRecDepth 100000 in
theorem one_any (A : Option Addr) (c : Nat) (l : List Pr) (nk : Int) (key nv : ByteArray) (nn : UInt64) (w : World) (hA : Prs w w.heap.size A l) (hn : l.length ≤ 40000) (hs : Sorted l) :
    Calls Try.prog 26 #[.slice A l.length c, .agg #[.int .i64 nk, .string key, .string nv, .int .u64 (nn.toNat : Int)]] w fun e w' => ∃ v, e = .returned v ∧ PV w' v (oneL l ⟨nk, key, nv, nn⟩) ∧ Below w.heap.size w w' := by
  have HONE := Lib.hid (one_all l ⟨nk, key, nv, nn⟩)
  obtain ⟨n, hl⟩ : ∃ n, l.length = n := ⟨_, rfl⟩
  rw [hl] at hn ⊢
  have HL := Lib.hid hl
  have HS := Lib.hid hs
  -- the boxed note
  obtain ⟨g, hg⟩ : ∃ g, g = w.heap.size := ⟨_, rfl⟩
  obtain ⟨w1, hw1⟩ : ∃ w1, w1 = w.alloc (.cells #[.int .i64 nk, .string key, .string nv, .int .u64 (nn.toNat : Int)] 52) := ⟨_, rfl⟩
  have hb1 : Below w.heap.size w w1 := by rw [hw1]; exact (Below.refl _ _).alloc (Nat.le_refl _) _
  have hbs1 : w.heap.size ≤ w1.heap.size := hb1.size
  have hbx : NBlk w1 g ⟨nk, key, nv, nn⟩ := by rw [hw1]; exact Box.at_ w _ _ hg
  have HA := Lib.hid (show Prs w1 w1.heap.size A l from hA.on hb1)
  have HBX := Lib.hid hbx
  have HB1 := Lib.hid hb1
  obtain ⟨H, hH⟩ : ∃ H : Nat → Has, ∀ k, H k = hasOf (getL (l.take k) key) := ⟨_, fun _ => rfl⟩
  have h0 : H 0 = (noB, false) := by rw [hH]; rfl
  have H0 := Lib.hid h0
  have HH := Lib.hid hH
  clear hl hs hA hb1 hbx h0 hH
  go_enter Try.func26, Try.ntmps26
  go_upto_region 1 with fail
  rw [← hg, ← hw1]
  clear hg hw1
  go_wp2
  go_loopw [5, 6, 7, 8, 9] (fun v5 v6 v7 v8 vi wr => ∃ (k n7 n8 : Nat), vi = .int .i64 k ∧ k ≤ n ∧ v5 = .string (H k).1 ∧ v6 = .bool (H k).2 ∧ Hid (wr.ownsRow w1.heap.size 44 2 v7 n7 ((lowF (l.take k) key).flatMap Pr.cells)) ∧ Hid (wr.ownsRow w1.heap.size 44 2 v8 n8 ((highF (l.take k) key).flatMap Pr.cells)) ∧ Hid (n7 = (lowF (l.take k) key).length ∧ n8 = (highF (l.take k) key).length) ∧ Hid (Apart2 v7 v8) ∧ Below w1.heap.size w1 wr) (fun _ _ _ _ vi _ => (n - intOf vi).toNat)
  case atStart => exact ⟨0, 0, 0, rfl, by omega, by rw [H0.out], by rw [H0.out], World.ownsRow_nil _ _ _ _, World.ownsRow_nil _ _ _ _, ⟨by simp [lowF], by simp [highF]⟩, .inl rfl, Below.refl _ _⟩
  case round =>
    obtain ⟨k, n7, n8, rfl, hk, rfl, rfl, HO7, HO8, HN, HAP, hbr⟩ := hrel
    have hbs := hbr.size
    by_cases hlt : k < n
    · have hkl : k < l.length := by rw [HL.out]; exact hlt
      have hn78 : n7 ≤ 40000 ∧ n8 ≤ 40000 := by have h1 := low_len l k key; have h2 := HN.out; omega
      have HN78 := Lib.hid hn78
      obtain ⟨x, hx⟩ : ∃ x, x = l[k]'hkl := ⟨_, rfl⟩
      have HX := Lib.hid hx
      obtain ⟨ad, rfl, hab, hca0⟩ := HA.out.seeP (by rw [HL.out]; omega)
      have hca1 := hca0 k hkl
      rw [← hx] at hca1
      obtain ⟨xk, xv⟩ := x
      simp only at hca1
      have HC := Lib.hid (show ∀ wx, Below w1.heap.size w1 wx → wx.cell? (ad.add (k * 2)) = some (.string xk) ∧ wx.cell? ⟨(ad.add (k * 2)).block, (ad.add (k * 2)).off + 1, none⟩ = some (.string xv) ∧ wx.cell? ⟨g, 1, none⟩ = some (.string key) from fun wx hS =>
        ⟨(hS.cell (lt_of_cell hca1.1)).trans hca1.1, (hS.cell (lt_of_cell hca1.2)).trans hca1.2, (NBlk.cells (HBX.out.on hS)).2.1⟩)
      clear hx hca0 hca1 hn78
      -- less
      obtain ⟨bb, hbb⟩ : ∃ bb, Op.bytesLess xk.toList key.toList = bb := ⟨_, rfl⟩
      obtain ⟨c1, c2, c3⟩ := HC.out wr hbr
      go_wp2
      go_quiet (fail)
      obtain ⟨wd, hwd⟩ : ∃ wd, wd = wr.drewN nq := ⟨_, rfl⟩
      rw [← hwd]
      have hbd : Below w1.heap.size w1 wd := by rw [hwd]; exact below_drewN hbr _
      have D7 := Lib.hid (show wd.ownsRow w1.heap.size 44 2 u7 n7 ((lowF (l.take k) key).flatMap Pr.cells) from by show World.ownsRow _ _ _ _ _ _ _; rw [hwd]; exact own_below HO7.out (below_drewN (Below.refl _ _) _))
      have D8 := Lib.hid (show wd.ownsRow w1.heap.size 44 2 u8 n8 ((highF (l.take k) key).flatMap Pr.cells) from by show World.ownsRow _ _ _ _ _ _ _; rw [hwd]; exact own_below HO8.out (below_drewN (Below.refl _ _) _))
      clear hwd c1 c2 c3
      have HBB := Lib.hid hbb
      clear hbb
      go_upto_if 25 with fail
      go_cut [7] (fun v7 wx => ∃ (m7 : Nat), Hid (wx.ownsRow w1.heap.size 44 2 v7 m7 ((lowF (l.take (k + 1)) key).flatMap Pr.cells)) ∧ Hid (wx.ownsRow w1.heap.size 44 2 u8 n8 ((highF (l.take k) key).flatMap Pr.cells)) ∧ Hid (m7 = (lowF (l.take (k + 1)) key).length) ∧ Hid (Apart2 v7 u8) ∧ Below w1.heap.size w1 wx)
      case first =>
        cases bb with
        | true =>
          have HST := Lib.hid (show lowF (l.take (k + 1)) key = lowF (l.take k) key ++ [l[k]'hkl] from (step_lt hkl (by rw [← HX.out]; exact lt_iff.2 HBB.out)).1)
          obtain ⟨c1, c2, c3⟩ := HC.out wd hbd
          have hbs2 := hbd.size
          have hownA := D7.out
          have hownB := D8.out
          go_wp2_with (at_builtin; refine append_pair _ rfl _ _ rfl w1.heap.size _ n7 ((lowF (l.take k) key).flatMap Pr.cells) rfl (hownA.alloc _) (wd.heap.size + 1) wd.heap.size ⟨xk, xv⟩ rfl ?a1 ?a2 ?a3 ?_)
          case a1 => exact Lies.lit Pr.cells2 rfl
          case a2 => have := HN78.out; omega
          case a3 => simp; omega
          intro v' w5 hown5 hg5 hat
          have hk5 : ∀ k, Value.ownBlock _ = some k → w1.heap.size ≤ k := fun k hk => (own_lt hownA hk).1
          have hb5 : Below w1.heap.size w1 w5 := (hbd.alloc hbs2 _).grown hg5 (by simp; omega) hk5
          have H5 := Lib.hid (show w5.ownsRow w1.heap.size 44 2 v' (n7 + 1) ((lowF (l.take (k + 1)) key).flatMap Pr.cells) from by
            show World.ownsRow _ _ _ _ _ _ _
            rw [HST.out, List.flatMap_append, ← HX.out]; simpa using hown5)
          have HB5 := Lib.hid (show w5.ownsRow w1.heap.size 44 2 u8 n8 ((highF (l.take k) key).flatMap Pr.cells) from own_grown (hownB.alloc _) hg5 HAP.out)
          have HAP5 := Lib.hid (Apart2.grow HAP.out (hownB.alloc (.cells #[] 44)) (by simpa using hat))
          have HL5 := Lib.hid (show n7 + 1 = (lowF (l.take (k + 1)) key).length from by rw [HST.out, List.length_append, ← HN.out.1]; rfl)
          clear hownA hownB hown5 hg5 hat hk5 c1 c2 c3
          go_wp2
          go_meet
          case rel => exact ⟨_, H5, HB5, HL5, HAP5, hb5⟩
        | false =>
          have HST := Lib.hid (show lowF (l.take (k + 1)) key = lowF (l.take k) key from by
            have h1 : ¬ xk < key := fun h => by have h2 : ltS xk key = true := lt_iff.1 h; have h3 : ltS xk key = false := HBB.out; rw [h3] at h2; cases h2
            by_cases h2 : xk = key
            · exact (step_eq HS.out hkl (by rw [← HX.out]; exact h2)).1
            · exact (step_gt hkl (by rw [← HX.out]; show key < xk; grind)).1)
          go_wp2
          go_meet
          case rel => exact ⟨_, by show World.ownsRow _ _ _ _ _ _ _; rw [HST.out]; exact D7.out, D8, by show _ = _; rw [HST.out]; exact HN.out.1, HAP, hbd⟩
      case rest =>
      obtain ⟨m7, HO7', HO8', HN7', HAP', hbc⟩ := hcut
      clear D7 D8 hbd HO7 HO8 HAP hbr
      have hbsc := hbc.size
      -- the same
      obtain ⟨be, hbe⟩ : ∃ be, (xk.toList == key.toList) = be := ⟨_, rfl⟩
      obtain ⟨c1, c2, c3⟩ := HC.out wc hbc
      go_wp2
      go_quiet (fail)
      obtain ⟨we, hwd⟩ : ∃ wd, wd = wc.drewN nq := ⟨_, rfl⟩
      rw [← hwd]
      have hbe2 : Below w1.heap.size w1 we := by rw [hwd]; exact below_drewN hbc _
      have E7 := Lib.hid (show we.ownsRow w1.heap.size 44 2 u7 m7 ((lowF (l.take (k + 1)) key).flatMap Pr.cells) from by show World.ownsRow _ _ _ _ _ _ _; rw [hwd]; exact own_below HO7'.out (below_drewN (Below.refl _ _) _))
      have E8 := Lib.hid (show we.ownsRow w1.heap.size 44 2 u8 n8 ((highF (l.take k) key).flatMap Pr.cells) from by show World.ownsRow _ _ _ _ _ _ _; rw [hwd]; exact own_below HO8'.out (below_drewN (Below.refl _ _) _))
      clear hwd c1 c2 c3
      have HBE := Lib.hid hbe
      clear hbe
      go_upto_if 40 with fail
      go_cut [5, 6] (fun v5 v6 wx => v5 = .string (H (k + 1)).1 ∧ v6 = .bool (H (k + 1)).2 ∧ we = wx)
      case first =>
        obtain ⟨c1, c2, c3⟩ := HC.out we hbe2
        cases be with
        | true =>
          have HST := Lib.hid (show H (k + 1) = (xv, true) from by
            have h2 : xk = key := tl_inj (by simpa using HBE.out)
            rw [HH.out, (step_eq HS.out hkl (by rw [← HX.out]; exact h2)).2.2, ← HX.out]; rfl)
          go_wp2
          go_meet
          case rel => exact ⟨by rw [HST.out], by rw [HST.out], rfl⟩
        | false =>
          have HST := Lib.hid (show H (k + 1) = H k from by
            have h2 : xk ≠ key := fun e => by have h := HBE.out; rw [e] at h; simp at h
            rw [HH.out, HH.out]
            by_cases h3 : xk < key
            · rw [(step_lt hkl (by rw [← HX.out]; exact h3)).2.2]
            · rw [(step_gt hkl (by rw [← HX.out]; show key < xk; grind)).2.2])
          clear c1 c2 c3
          go_wp2
          go_meet
          case rel => exact ⟨by rw [HST.out], by rw [HST.out], rfl⟩
      case rest =>
      obtain ⟨rfl, rfl, rfl⟩ := hcut
      clear HO7' HO8'
      -- greater
      obtain ⟨bg, hbg⟩ : ∃ bg, (!Op.bytesLess xk.toList key.toList && !xk.toList == key.toList) = bg := ⟨_, rfl⟩
      obtain ⟨c1, c2, c3⟩ := HC.out we hbe2
      go_wp2
      go_quiet (fail)
      obtain ⟨wf, hwd⟩ : ∃ wd, wd = we.drewN nq := ⟨_, rfl⟩
      rw [← hwd]
      have hbf : Below w1.heap.size w1 wf := by rw [hwd]; exact below_drewN hbe2 _
      have F7 := Lib.hid (show wf.ownsRow w1.heap.size 44 2 u7 m7 ((lowF (l.take (k + 1)) key).flatMap Pr.cells) from by show World.ownsRow _ _ _ _ _ _ _; rw [hwd]; exact own_below E7.out (below_drewN (Below.refl _ _) _))
      have F8 := Lib.hid (show wf.ownsRow w1.heap.size 44 2 u8 n8 ((highF (l.take k) key).flatMap Pr.cells) from by show World.ownsRow _ _ _ _ _ _ _; rw [hwd]; exact own_below E8.out (below_drewN (Below.refl _ _) _))
      clear hwd c1 c2 c3
      have HBG := Lib.hid hbg
      clear hbg
      · skip
        cases bg with
        | true =>
          have hb1 := HBG.out
          have HST := Lib.hid (show highF (l.take (k + 1)) key = highF (l.take k) key ++ [l[k]'hkl] from (step_gt hkl (by rw [← HX.out]; exact gtr_true HBG.out)).2.1)
          obtain ⟨c1, c2, c3⟩ := HC.out wf hbf
          have hbs2 := hbf.size
          have hownA := F8.out
          have hownB := F7.out
          go_wp2_with (at_builtin; refine append_pair _ rfl _ _ rfl w1.heap.size _ n8 ((highF (l.take k) key).flatMap Pr.cells) rfl (hownA.alloc _) (wf.heap.size + 1) wf.heap.size ⟨xk, xv⟩ rfl ?a1 ?a2 ?a3 ?_)
          case a1 => exact Lies.lit Pr.cells2 rfl
          case a2 => have := HN78.out; omega
          case a3 => simp; omega
          intro v' w5 hown5 hg5 hat
          have hk5 : ∀ k, Value.ownBlock _ = some k → w1.heap.size ≤ k := fun k hk => (own_lt hownA hk).1
          have hb5 : Below w1.heap.size w1 w5 := (hbf.alloc hbs2 _).grown hg5 (by simp; omega) hk5
          have H5 := Lib.hid (show w5.ownsRow w1.heap.size 44 2 v' (n8 + 1) ((highF (l.take (k + 1)) key).flatMap Pr.cells) from by
            show World.ownsRow _ _ _ _ _ _ _
            rw [HST.out, List.flatMap_append, ← HX.out]; simpa using hown5)
          have HB5 := Lib.hid (show w5.ownsRow w1.heap.size 44 2 u7 m7 ((lowF (l.take (k + 1)) key).flatMap Pr.cells) from own_grown (hownB.alloc _) hg5 HAP'.out.symm)
          have HAP5 := Lib.hid ((Apart2.grow HAP'.out.symm (hownB.alloc (.cells #[] 44)) (by simpa using hat)).symm)
          have HL5 := Lib.hid (show n8 + 1 = (highF (l.take (k + 1)) key).length from by rw [HST.out, List.length_append, ← HN.out.2]; rfl)
          clear hownA hownB hown5 hg5 hat hk5 c1 c2 c3
          go_wp2
          go_roundw
          case rel => exact ⟨k + 1, m7, n8 + 1, by go_num, by omega, by first | rfl | trivial, by first | rfl | trivial, HB5, H5, ⟨HN7'.out, HL5.out⟩, HAP5, hb5⟩
          case measure => simp [intOf]; omega
        | false =>
          have hb1 := HBG.out
          have HST := Lib.hid (show highF (l.take (k + 1)) key = highF (l.take k) key from by
            have h1 : ¬ key < xk := gtr_false HBG.out
            by_cases h2 : xk = key
            · exact (step_eq HS.out hkl (by rw [← HX.out]; exact h2)).2.1
            · exact (step_lt hkl (by rw [← HX.out]; show xk < key; grind)).2.1)
          go_wp2
          go_roundw
          case rel => exact ⟨k + 1, m7, n8, by go_num, by omega, by first | rfl | trivial, by first | rfl | trivial, F7, by show World.ownsRow _ _ _ _ _ _ _; rw [HST.out]; exact F8.out, ⟨HN7'.out, by rw [HST.out]; exact HN.out.2⟩, HAP', hbf⟩
          case measure => simp [intOf]; omega
    · have hkn : k = n := by omega
      obtain ⟨nk7, nk8⟩ := HN.out
      have hlk : l.take k = l := List.take_of_length_le (by rw [HL.out]; omega)
      rw [hlk] at nk7 nk8
      have HO7' := Lib.hid (show wr.ownsRow w1.heap.size 44 2 u7 n7 ((lowF l key).flatMap Pr.cells) from by have h := HO7.out; rwa [hlk] at h)
      have HO8' := Lib.hid (show wr.ownsRow w1.heap.size 44 2 u8 n8 ((highF l key).flatMap Pr.cells) from by have h := HO8.out; rwa [hlk] at h)
      have hHk : H k = hasOf (getL l key) := by rw [HH.out, hlk]
      have hn78 : n7 ≤ 40000 ∧ n8 ≤ 40000 := by
        have h1 := low_len l l.length key
        rw [List.take_length] at h1
        have h2 := HL.out
        omega
      have HN78 := Lib.hid hn78
      have HNK := Lib.hid (And.intro nk7 nk8)
      have HHK := Lib.hid hHk
      clear HO7 HO8 HN hlk nk7 nk8 hHk hn78
      obtain ⟨o, ho⟩ : ∃ o, o = stepsO (getL l key) [⟨nk, key, nv, nn⟩] := ⟨_, rfl⟩
      have hpo : pairOf key o = if (hasOf o).2 then [⟨key, (hasOf o).1⟩] else [] := by cases o <;> rfl
      have hdn : doneL (H k).1 (H k).2 [⟨nk, key, nv, nn⟩] = hasOf o := by rw [HHK.out, done_hasOf, ho]
      obtain ⟨v', hv'⟩ : ∃ v', v' = (hasOf o).1 := ⟨_, rfl⟩
      obtain ⟨is, his⟩ : ∃ is, is = (hasOf o).2 := ⟨_, rfl⟩
      obtain ⟨d1, hd1⟩ : ∃ d1, d1 = (H k).1 := ⟨_, rfl⟩
      obtain ⟨d2, hd2⟩ : ∃ d2, d2 = (H k).2 := ⟨_, rfl⟩
      have hdone := fun wx (h : Nts wx wx.heap.size (some ⟨wr.heap.size, 0, none⟩) [⟨nk, key, nv, nn⟩]) => ddone_any (H k).1 (H k).2 (some ⟨wr.heap.size, 0, none⟩) 1 [⟨nk, key, nv, nn⟩] wx h (by unfold maxLen; simp)
      rw [hdn, ← hv', ← his, ← hd1, ← hd2] at hdone
      rw [← hd1, ← hd2]
      rw [← hv', ← his] at hpo
      have HRES := Lib.hid (show lowF l key ++ pairOf key o ++ highF l key = oneL l ⟨nk, key, nv, nn⟩ from by rw [ho]; exact HONE.out)
      have HPO := Lib.hid hpo
      obtain ⟨c1, c2, c3, c4⟩ := NBlk.cells (HBX.out.on hbr)
      simp only at c1 c2 c3 c4
      have hdw := hdone (wr.alloc (.cells #[.int .i64 nk, .string key, .string nv, .int .u64 (nn.toNat : Int)] 52)) ((nts_one wr ⟨nk, key, nv, nn⟩ rfl).more (by simp))
      clear ho hpo hdn hv' his hd1 hd2 hdone HONE HHK
      go_wp2_with fail
      refine hdw.mono ?_
      clear hdw
      rintro e w3 ⟨rfl, hb3⟩
      have hb13 : Below w1.heap.size w1 w3 := (hbr.alloc hbs _).trans (hb3.mono (by simp; omega))
      have hbs3 := hb13.size
      have D7 := Lib.hid (own_below (HO7'.out.alloc _) hb3)
      have D8 := Lib.hid (own_below (HO8'.out.alloc _) hb3)
      clear hb3 c1 c2 c3 c4 HO7' HO8' hbr hbs
      obtain ⟨c1, c2, c3, c4⟩ := NBlk.cells (HBX.out.on hb13)
      simp only at c1 c2 c3 c4
      go_upto_if 69 with fail
      go_cut [7] (fun v7 wx => Hid (wx.ownsRow w1.heap.size 44 2 v7 (lowF l key ++ pairOf key o).length ((lowF l key ++ pairOf key o).flatMap Pr.cells)) ∧ Hid (wx.ownsRow w1.heap.size 44 2 u8 n8 ((highF l key).flatMap Pr.cells)) ∧ Hid (Apart2 v7 u8) ∧ Hid ((lowF l key ++ pairOf key o).length ≤ 40001) ∧ Below w1.heap.size w1 wx)
      case first =>
        cases is with
        | false =>
          have e : pairOf key o = [] := by rw [HPO.out]; rfl
          have HE := Lib.hid e
          clear e
          go_wp2
          go_meet
          case rel => exact ⟨by show World.ownsRow _ _ _ _ _ _ _; rw [HE.out, List.append_nil, ← HNK.out.1]; exact D7.out, D8, HAP, by show _ ≤ _; rw [HE.out, List.append_nil, ← HNK.out.1]; have := HN78.out; omega, hb13⟩
        | true =>
          have e : pairOf key o = [⟨key, v'⟩] := by rw [HPO.out]; rfl
          have HE := Lib.hid e
          clear e
          have hownA := D7.out
          have hownB := D8.out
          go_wp2_with (at_builtin; refine append_pair _ rfl _ _ rfl w1.heap.size _ n7 ((lowF l key).flatMap Pr.cells) rfl (hownA.alloc _) (w3.heap.size + 1) w3.heap.size ⟨key, v'⟩ rfl ?a1 ?a2 ?a3 ?_)
          case a1 => exact Lies.lit Pr.cells2 rfl
          case a2 => have := HN78.out; omega
          case a3 => first | omega | (simp; omega)
          intro v9 w5 hown5 hg5 hat
          have hk5 : ∀ k, Value.ownBlock _ = some k → w1.heap.size ≤ k := fun k hk => (own_lt hownA hk).1
          have hb5 : Below w1.heap.size w1 w5 := (hb13.alloc hbs3 _).grown hg5 (by simp; omega) hk5
          have H5 := Lib.hid (show w5.ownsRow w1.heap.size 44 2 v9 (lowF l key ++ pairOf key o).length ((lowF l key ++ pairOf key o).flatMap Pr.cells) from by
            show World.ownsRow _ _ _ _ _ _ _
            rw [HE.out, List.length_append, ← HNK.out.1, List.flatMap_append]; simpa using hown5)
          have HB5 := Lib.hid (show w5.ownsRow w1.heap.size 44 2 u8 n8 ((highF l key).flatMap Pr.cells) from own_grown (hownB.alloc _) hg5 HAP.out)
          have HAP5 := Lib.hid (Apart2.grow HAP.out (hownB.alloc (.cells #[] 44)) (by simpa using hat))
          clear hownA hownB hown5 hg5 hat hk5 c1 c2 c3 c4
          go_wp2
          go_meet
          case rel => exact ⟨H5, HB5, HAP5, by show _ ≤ _; rw [HE.out, List.length_append, ← HNK.out.1]; have := HN78.out; simp; omega, hb5⟩
      case rest =>
      obtain ⟨HO9, HO8, HAP9, HLN, hb9⟩ := hcut
      clear D7 D8 c1 c2 c3 c4 hb13 hbs3
      have hbs9 := hb9.size
      have hown9 := HO9.out
      have hown8 := HO8.out
      obtain ⟨A8, c8, rfl⟩ := own_shape hown8
      have hcap8 := row_cap hown8
      have hpr8 : Prs wc wc.heap.size A8 (highF l key) := by rw [HNK.out.2] at hown8; exact Lies.own Pr.cells2 hown8
      have HL8 := Lib.hid (show (highF l key).length = n8 from HNK.out.2.symm)
      go_wp2_with (at_builtin; refine append_prs _ rfl _ _ rfl w1.heap.size _ (lowF l key ++ pairOf key o).length ((lowF l key ++ pairOf key o).flatMap Pr.cells) rfl hown9 wc.heap.size A8 n8 c8 (highF l key) rfl ?d1 ?d2 ?d3 ?d4 hbs9 ?_)
      case d1 => exact HL8.out
      case d2 => exact hpr8
      case d3 => exact hcap8.2
      case d4 => have h1 := HLN.out; have h2 := HN78.out; show _ + _ ≤ _; omega
      intro v' w6 hown6 hg6
      have hk6 : ∀ k, Value.ownBlock _ = some k → w1.heap.size ≤ k := fun k hk => (own_lt hown9 hk).1
      have hb6 : Below w1.heap.size w1 w6 := hb9.grown hg6 hbs9 hk6
      have HPV := Lib.hid (show PV w6 v' (oneL l ⟨nk, key, nv, nn⟩) from by
        rw [← HRES.out]
        refine PV.own (base := w1.heap.size) (n := (lowF l key).length + (pairOf key o).length + n8) ?_ (by rw [List.length_append, List.length_append, HL8.out])
        simpa [List.flatMap_append, List.append_assoc, Nat.add_assoc] using hown6)
      have HBF := Lib.hid (HB1.out.trans (hb6.mono hbs1))
      clear hown6 hg6 hk6 hb6 hown8 hown9 hpr8 hcap8
      go_wp2
      go_ret
      exact ⟨_, rfl, HPV.out, HBF.out⟩

theorem one_v {v : Value} {l : List Pr} {w : World} (h : PV w v l) (nk : Int) (key nv : ByteArray) (nn : UInt64) (hn : l.length ≤ 40000) (hs : Sorted l) :
    Calls Try.prog 26 #[v, .agg #[.int .i64 nk, .string key, .string nv, .int .u64 (nn.toNat : Int)]] w fun e w' => ∃ v', e = .returned v' ∧ PV w' v' (oneL l ⟨nk, key, nv, nn⟩) ∧ Below w.heap.size w w' := by
  obtain ⟨A, c, rfl, h1, _, _⟩ := h
  exact one_any A c l nk key nv nn w h1 hn hs

set_option maxHeartbeats 2000000 in
set_option maxRecDepth 100000 in
theorem dapply_any (A : Option Addr) (c : Nat) (l : List Pr) (B : Option Addr) (d : Nat) (ns : List Nt) (w : World) (hA : Prs w w.heap.size A l) (hB : Nts w w.heap.size B ns) (hc : l.length ≤ c) (hz : A = none → c = 0) (hmax : l.length + ns.length ≤ 40000) :
    Calls Try.prog 12 #[.slice A l.length c, .slice B ns.length d] w fun e w' => ∃ v, e = .returned (.tuple #[v, .int .i64 (applyE l ns)]) ∧ PV w' v (applyL l ns) ∧ Below w.heap.size w w' := by
  have hr := dright_pr A c l w hA (by unfold maxLen; omega)
  have hal := fun wx (h : Below w.heap.size w wx) => dall_any B d ns wx (hB.on h) (by unfold maxLen; omega)
  have hpv : PV w (.slice A l.length c) l := ⟨A, c, rfl, hA, hc, hz⟩
  have HV := Lib.hid hpv
  have HB := Lib.hid hB
  have hE : applyE l ns = if wellL l && ns.all rightN then 0 else 1 := rfl
  have hL : applyL l ns = if wellL l && ns.all rightN then foldOne l ns else l := rfl
  obtain ⟨r1, hr1⟩ : ∃ r1, r1 = wellL l := ⟨_, rfl⟩
  obtain ⟨r2, hr2⟩ : ∃ r2, r2 = ns.all rightN := ⟨_, rfl⟩
  rw [← hr1, ← hr2] at hE hL
  rw [← hr1] at hr
  rw [← hr2] at hal
  have HR := Lib.hid (And.intro hr1 hr2)
  clear hr1 hr2 hpv hA hB hc hz
  obtain ⟨m, hm⟩ : ∃ m, ns.length = m := ⟨_, rfl⟩
  rw [hm] at hal hmax ⊢
  have HM := Lib.hid hm
  obtain ⟨n, hn⟩ : ∃ n, l.length = n := ⟨_, rfl⟩
  rw [hn] at hr HV hmax ⊢
  have HN := Lib.hid hn
  clear hm hn
  obtain ⟨E, hEE⟩ : ∃ E, E = applyE l ns := ⟨_, rfl⟩
  obtain ⟨L, hLL⟩ : ∃ L, L = applyL l ns := ⟨_, rfl⟩
  rw [← hEE] at hE
  rw [← hLL] at hL
  rw [← hEE, ← hLL]
  clear hEE hLL
  have HEL := Lib.hid (And.intro hE hL)
  clear hE hL
  go_enter Try.func12, Try.ntmps12
  go_wp2_with fail
  refine hr.mono ?_
  clear hr
  rintro e w1 ⟨rfl, hb1⟩
  have hal1 := hal w1 hb1
  clear hal
  go_wp2_with fail
  refine hal1.mono ?_
  clear hal1
  rintro e w2 ⟨rfl, hb2⟩
  have hb12 := hb1.trans (hb2.mono hb1.size)
  clear hb1 hb2
  have HE := Lib.hid (show PV w2 (.slice A n c) l from HV.out.on hb12)
  by_cases hrr : r1 = true ∧ r2 = true
  case neg =>
    have hr0 : (r1 && r2) = false := by cases r1 <;> cases r2 <;> simp_all
    obtain ⟨rfl, rfl⟩ : E = 1 ∧ L = l := by have h := HEL.out; rw [hr0] at h; exact h
    cases r1 with
    | false =>
      clear hrr hr0
      go_wp2
      go_ret2
      exact ⟨_, rfl, HE.out, hb12⟩
    | true =>
      cases r2 with
      | false =>
        clear hrr hr0
        go_wp2
        go_ret2
        exact ⟨_, rfl, HE.out, hb12⟩
      | true => exact absurd ⟨rfl, rfl⟩ hrr
  obtain ⟨rfl, rfl⟩ := hrr
  obtain ⟨rfl, hL⟩ : E = 0 ∧ L = foldOne l ns := HEL.out
  have HLL := Lib.hid hL
  clear hL
  have HS := Lib.hid (show Sorted l from well_sorted HR.out.1.symm)
  clear HV
  go_wp2
  go_loopw [0, 8] (fun v0 vi wr => ∃ (k : Nat), vi = .int .i64 k ∧ k ≤ m ∧ Hid (PV wr v0 (foldOne l (ns.take k))) ∧ Below w.heap.size w wr) (fun _ vi _ => (m - intOf vi).toNat)
  case atStart => exact ⟨0, rfl, by omega, HE, hb12⟩
  case round =>
    clear HE hb12
    obtain ⟨k, rfl, hk, HP, hbr⟩ := hrel
    by_cases hlt : k < m
    · have hkl : k < ns.length := by rw [HM.out]; exact hlt
      obtain ⟨ad, rfl, hab, hca⟩ := (HB.out.below hbr).seeN (by rw [HM.out]; omega)
      obtain ⟨c1, c2, c3, c4⟩ := hca k hkl
      obtain ⟨x, hx⟩ : ∃ x, x = ns[k]'hkl := ⟨_, rfl⟩
      rw [← hx] at c1 c2 c3 c4
      have HX := Lib.hid (show foldOne l (ns.take (k + 1)) = oneL (foldOne l (ns.take k)) x from by
        rw [List.take_succ_eq_append_getElem hkl, foldOne_append, ← hx]; rfl)
      clear hx hca
      obtain ⟨xk, xkey, xval, xn⟩ := x
      simp only at c1 c2 c3 c4
      have hone := one_v HP.out xk xkey xval xn (by have h1 := len_fold l (ns.take k); have h2 := HM.out; have h3 := HN.out; simp at h1; omega) (sorted_fold HS.out _)
      rw [← HX.out] at hone
      have hbs := hbr.size
      go_wp2_with fail
      refine hone.mono ?_
      clear hone
      rintro e w3 ⟨v', rfl, hpv, hb3⟩
      have HP3 := Lib.hid hpv
      have hbr3 := hbr.trans (hb3.mono hbs)
      clear hb3 hpv c1 c2 c3 c4 HP
      go_wp2
      go_roundw
      case rel => exact ⟨k + 1, by go_num, by omega, HP3, hbr3⟩
      case measure => simp [intOf]; omega
    · have hkm : ns.take k = ns := List.take_of_length_le (by rw [HM.out]; omega)
      have HE := Lib.hid (show PV wr u0 L from by have h := HP.out; rw [hkm] at h; rw [HLL.out]; exact h)
      clear HP hkm
      go_wp2
      go_ret2
      exact ⟨_, rfl, HE.out, hbr⟩
theorem dapply_v {v u : Value} {l : List Pr} {ns : List Nt} {w : World} (h : PV w v l) (g : NV w u ns) (hmax : l.length + ns.length ≤ 40000) :
    Calls Try.prog 12 #[v, u] w fun e w' => ∃ v', e = .returned (.tuple #[v', .int .i64 (applyE l ns)]) ∧ PV w' v' (applyL l ns) ∧ Below w.heap.size w w' := by
  obtain ⟨A, c, rfl, h1, h2, h3⟩ := h
  obtain ⟨B, d, rfl, g1, g2, g3⟩ := g
  exact dapply_any A c l B d ns w h1 g1 h2 h3 hmax

end Go.Proofs.Yteddjmkoleclpaa

namespace Go.Proofs.Yteddjmkoleclpaa
open Go.RowKit

theorem applyN_eq (l : List Pr) (ns : List Nt) : applyN l ns = applyL l ns := rfl
theorem applyL_len (l : List Pr) (ns : List Nt) : (applyL l ns).length ≤ l.length + ns.length := by
  unfold applyL
  split
  · exact len_fold l ns
  · omega
/-- How many notes wait in the first k nodes. -/
def waitTo (l : List In) (k : Nat) : Nat := ((l.take k).map fun x => x.notes.length).sum
theorem wait_succ {l : List In} {k : Nat} (hk : k < l.length) : waitTo l (k + 1) = waitTo l k + l[k].notes.length := by
  unfold waitTo
  rw [List.take_succ_eq_append_getElem hk, List.map_append, List.sum_append]
  simp
theorem wait_mono (l : List In) {j k : Nat} (h : j ≤ k) (hk : k ≤ l.length) : waitTo l j ≤ waitTo l k := by
  induction k with
  | zero => obtain rfl : j = 0 := by omega
            exact Nat.le_refl _
  | succ k ih =>
    by_cases e : j = k + 1
    · subst e; exact Nat.le_refl _
    · have := ih (by omega) (by omega)
      rw [wait_succ (by omega)]
      omega
theorem level_len (l : List In) (d : Int) (out : List Pr) (k : Nat) (hk : k ≤ l.length) : (levelTo l d out k).length ≤ out.length + waitTo l k := by
  induction k with
  | zero => simp [levelTo]
  | succ k ih =>
    have h1 := ih (by omega)
    rw [level_succ (by omega), wait_succ (by omega)]
    split
    · have h2 := applyL_len (levelTo l d out k) (l[k]'(by omega)).notes
      rw [← applyN_eq] at h2
      omega
    · omega
/-- How many wait in the first k nodes of one depth; of all depths below m. -/
def waitD (l : List In) (d : Int) (k : Nat) : Nat := ((l.take k).map fun x => if x.depth = d then x.notes.length else 0).sum
theorem waitD_succ {l : List In} {k : Nat} (hk : k < l.length) (d : Int) : waitD l d (k + 1) = waitD l d k + if l[k].depth = d then l[k].notes.length else 0 := by
  unfold waitD
  rw [List.take_succ_eq_append_getElem hk, List.map_append, List.sum_append]
  simp
def sumD (l : List In) (k : Nat) : Nat → Nat
  | 0 => 0
  | m + 1 => sumD l k m + waitD l m k
theorem sumD_zero (l : List In) : ∀ m, sumD l 0 m = 0
  | 0 => rfl
  | m + 1 => by show sumD l 0 m + waitD l m 0 = 0; rw [sumD_zero l m]; simp [waitD]
theorem sumD_succ {l : List In} {k : Nat} (hk : k < l.length) : ∀ m : Nat, sumD l (k + 1) m = sumD l k m + if 0 ≤ l[k].depth ∧ l[k].depth < (m : Int) then l[k].notes.length else 0
  | 0 => by
    show 0 = 0 + _
    rw [if_neg (by omega)]
  | m + 1 => by
    show sumD l (k + 1) m + waitD l m (k + 1) = (sumD l k m + waitD l m k) + _
    rw [sumD_succ hk m, waitD_succ hk]
    by_cases h1 : l[k].depth = (m : Int)
    · rw [if_pos h1, if_neg (by omega), if_pos (by omega)]; omega
    · rw [if_neg h1]
      by_cases h2 : 0 ≤ l[k].depth ∧ l[k].depth < (m : Int)
      · rw [if_pos h2, if_pos (by omega)]; omega
      · rw [if_neg h2, if_neg (by omega)]; omega
theorem sumD_le (l : List In) (m : Nat) : ∀ k, k ≤ l.length → sumD l k m ≤ waitTo l k
  | 0, _ => by rw [sumD_zero]; exact Nat.zero_le _
  | k + 1, hk => by
    have h1 := sumD_le l m k (by omega)
    rw [sumD_succ (by omega), wait_succ (by omega)]
    split <;> omega
theorem level_len2 (l : List In) (d : Int) (out : List Pr) (k : Nat) (hk : k ≤ l.length) : (levelTo l d out k).length ≤ out.length + waitD l d k := by
  induction k with
  | zero => simp [levelTo]
  | succ k ih =>
    have h1 := ih (by omega)
    rw [level_succ (by omega), waitD_succ (by omega)]
    split
    · have h2 := applyL_len (levelTo l d out k) (l[k]'(by omega)).notes
      rw [← applyN_eq] at h2
      omega
    · omega
theorem level_zero (l : List In) (d : Int) (out : List Pr) : levelTo l d out 0 = out := by simp [levelTo]

set_option maxHeartbeats 4000000 in
set_option maxRecDepth 100000 in
theorem tpairs_any (A : Option Addr) (n c : Nat) (l : List In) (w : World) (hA : IV w (.slice A n c) l) (hn : n = l.length) (hm : n ≤ 100000000) (hp : (l.flatMap In.pairs).length ≤ 1000) (hw : waitTo l l.length ≤ 1000) (hd : deepI l ≤ 1000000000) :
    Calls Try.prog 29 #[.slice A n c] w fun e w' => ∃ v, e = .returned v ∧ PV w' v (pairsI l) ∧ Below w.heap.size w w' := by
  have HCD := Lib.hid (fun wx (h : IV wx (.slice A n c) l) => deepest_any A n c l wx h hn (by unfold maxLen; omega))
  obtain ⟨D, hD⟩ : ∃ D : Nat, deepI l = (D : Int) := ⟨(deepI l).toNat, by have := deep_pos l l.length (Nat.le_refl _); unfold deepI at *; omega⟩
  have HRR := Lib.hid (show pairsI l = downI l (l.flatMap In.pairs) (D + 1) from by unfold pairsI; rw [hD]; rfl)
  obtain ⟨R, hR⟩ : ∃ R, R = pairsI l := ⟨_, rfl⟩
  rw [← hR] at HRR ⊢
  rw [hD] at HCD hd
  have HD := Lib.hid hd
  have HA := Lib.hid hA
  have HL := Lib.hid hn
  have HP := Lib.hid (show ∀ k, ((l.take k).flatMap In.pairs).length ≤ 1000 from fun k => by
    have h1 : (l.take k).flatMap In.pairs ++ (l.drop k).flatMap In.pairs = l.flatMap In.pairs := by rw [← List.flatMap_append, List.take_append_drop]
    have h2 := congrArg List.length h1
    rw [List.length_append] at h2
    omega)
  have HPP := Lib.hid hp
  have HW := Lib.hid (show ∀ k, k ≤ l.length → waitTo l k ≤ 1000 from fun k hk => Nat.le_trans (wait_mono l hk (Nat.le_refl _)) hw)
  have HWN := Lib.hid (show ∀ (k : Nat) (h : k < l.length), (l[k]).notes.length ≤ 1000 from fun k h => by
    have h1 := wait_succ h
    have h2 := Nat.le_trans (wait_mono l (show k + 1 ≤ l.length from h) (Nat.le_refl _)) hw
    omega)
  clear hA hn hp hw hD hR hd
  go_enter Try.func29, Try.ntmps29
  go_wp2
  go_loopw [3, 4] (fun o i wr => ∃ (k m : Nat), i = .int .i64 k ∧ k ≤ n ∧ Hid (wr.ownsRow w.heap.size 44 2 o m (((l.take k).flatMap In.pairs).flatMap Pr.cells)) ∧ Hid (m = ((l.take k).flatMap In.pairs).length) ∧ Below w.heap.size w wr) (fun _ i _ => (n - intOf i).toNat)
  case atStart => exact ⟨0, 0, rfl, by omega, by show World.ownsRow _ _ _ _ _ _ _; exact World.ownsRow_nil _ _ _ _, by show _ = _; simp, Below.refl _ _⟩
  case round =>
    obtain ⟨k, m, rfl, hk, HO, HM, hbr⟩ := hrel
    have hbs := hbr.size
    by_cases hlt : k < n
    · have hkl : k < l.length := by rw [← HL.out]; exact hlt
      obtain ⟨ad, nv, pv, rfl, hab, c0, c1, c2, c3, c4, hnv, hpv⟩ := (HA.out.on hbr).at_ hkl
      have hst : (l.take (k + 1)).flatMap In.pairs = (l.take k).flatMap In.pairs ++ (l[k]'hkl).pairs := by rw [List.take_succ_eq_append_getElem hkl, List.flatMap_append]; simp
      obtain ⟨q, hq⟩ : ∃ q, q = (l[k]'hkl).pairs := ⟨_, rfl⟩
      rw [← hq] at hpv hst
      obtain ⟨B1, d1, rfl, hpr, _, hz⟩ := hpv
      obtain ⟨a1, ha1⟩ : ∃ a, a = q.length := ⟨_, rfl⟩
      rw [← ha1] at c4
      have hsum : m + a1 ≤ 1000 := by have h1 := HP.out (k + 1); rw [hst, List.length_append] at h1; have h2 := HM.out; omega
      have HST := Lib.hid hst
      have HA1 := Lib.hid ha1.symm
      have HPR := Lib.hid hpr
      have HZ := Lib.hid hz
      have hown := HO.out
      clear hq ha1 hst hpr hz hnv c0 c1 c2 c3 HO
      go_wp2_with (at_builtin; refine append_prs _ rfl _ _ rfl w.heap.size _ m (((l.take k).flatMap In.pairs).flatMap Pr.cells) rfl hown wr.heap.size B1 a1 d1 q rfl ?d1 ?d2 ?d3 ?d4 hbs ?_)
      case d1 => exact HA1.out
      case d2 => exact HPR.out
      case d3 => exact HZ.out
      case d4 => omega
      intro v6 wf hown2 hg2
      have hbf : Below w.heap.size w wf := hbr.grown hg2 hbs (fun k hk => (own_lt hown hk).1)
      have HOF := Lib.hid (show wf.ownsRow w.heap.size 44 2 v6 (m + a1) (((l.take (k + 1)).flatMap In.pairs).flatMap Pr.cells) from by show World.ownsRow _ _ _ _ _ _ _; rw [HST.out, List.flatMap_append]; exact hown2)
      have HBF := Lib.hid hbf
      clear hown2 hg2 hbf hown c4 hab hbr
      go_wp2
      go_roundw
      case rel => exact ⟨k + 1, m + a1, by go_num, by omega, HOF, by show _ = _; rw [HST.out, List.length_append, HM.out, HA1.out], HBF.out⟩
      case measure => simp [intOf]; omega
    · have hlk : l.take k = l := List.take_of_length_le (by have := HL.out; omega)
      have HE := Lib.hid (show PV wr u3 (l.flatMap In.pairs) from by have h1 := HO.out; have h2 := HM.out; rw [hlk] at h1 h2; exact PV.own h1 h2)
      clear HO HM hlk
      obtain ⟨w1, hw1⟩ : ∃ wx, wx = wr := ⟨_, rfl⟩
      rw [← hw1] at HE hbr ⊢
      have hb1 := hbr
      have HB1 := Lib.hid hb1
      clear hw1 hbr
      go_wp2_with fail
      refine (HCD.out _ (HA.out.on hb1)).mono ?_
      clear HCD hb1
      rintro e w2 ⟨rfl, hb2⟩
      have HB2 := Lib.hid (HB1.out.trans (hb2.mono HB1.out.size))
      have HE2 := Lib.hid (HE.out.on hb2)
      clear hb2 HE HB1
      have hD30 : D ≤ 1000000000 := by have := HD.out; omega
      go_wp2
      go_loopw [3, 5] (fun v3 vd wr => ∃ (j : Nat) (z : Int) (cur : List Pr), vd = .int .i64 z ∧ z + 1 = j ∧ j ≤ D + 1 ∧ Hid (downI l cur j = R) ∧ Hid (cur.length + sumD l l.length j ≤ 2000) ∧ Hid (PV wr v3 cur) ∧ Below w.heap.size w wr) (fun _ vd _ => (intOf vd + 1).toNat)
      case atStart => exact ⟨D + 1, D, _, rfl, by omega, by omega, HRR.out.symm, by show _ ≤ _; have := HPP.out; have := sumD_le l (D + 1) l.length (Nat.le_refl _); have := HW.out l.length (Nat.le_refl _); omega, HE2, HB2.out⟩
      case round =>
        clear HE2 HB2
        obtain ⟨j, z, cur, rfl, hz, hj, HR, HC, HV, hbr⟩ := hrel
        rcases j with _ | j
        · obtain rfl : z = -1 := by omega
          have HVR := Lib.hid (show PV wr u3 R from by have h := HR.out; have h2 : cur = R := h; rw [← h2]; exact HV.out)
          clear HR HV HC
          go_wp2
          go_ret
          exact ⟨_, rfl, HVR.out, hbr⟩
        · obtain rfl : z = (j : Int) := by omega
          have HCB := Lib.hid (show cur.length ≤ 31000 from by have h := HC.out; omega)
          obtain ⟨w3, hw3⟩ : ∃ wx, wx = wr := ⟨_, rfl⟩
          rw [← hw3] at HV hbr ⊢
          have HB3 := Lib.hid hbr
          have hj30 : j ≤ 1000000000 := by omega
          clear hw3 hbr
          go_wp2
          go_loopw [3, 6] (fun v3 vi wr => ∃ (i : Nat), vi = .int .i64 i ∧ i ≤ n ∧ Hid (PV wr v3 (levelTo l j cur i)) ∧ Below w.heap.size w wr) (fun _ vi _ => (n - intOf vi).toNat)
          case atStart => exact ⟨0, rfl, by omega, by show PV _ _ _; rw [level_zero]; exact HV.out, HB3.out⟩
          case round =>
            clear HV HB3
            obtain ⟨i, rfl, hi, HV, hbr⟩ := hrel
            by_cases hlt : i < n
            · have hil : i < l.length := by rw [← HL.out]; exact hlt
              have hbs := hbr.size
              obtain ⟨ad, nv, pv, rfl, hab, c0, c1, c2, c3, c4, hnv, hpv⟩ := (HA.out.on hbr).at_ hil
              have hst := level_succ hil j cur
              have hap := dapply_v HV.out hnv (by have h1 := level_len l j cur i (by omega); have h2 := HCB.out; have h3 := HW.out i (by omega); have h4 := HWN.out i hil; omega)
              rw [← applyN_eq] at hap
              generalize pushEX : applyE (levelTo l j cur i) (l[i]'hil).notes = E at hap
              obtain ⟨x, hx⟩ : ∃ x, x = (l[i]'hil).depth := ⟨_, rfl⟩
              rw [← hx] at c0 hst
              clear hx pushEX c1 c2 c4 hpv
              by_cases hxj : x = (j : Int)
              · subst hxj
                rw [if_pos rfl] at hst
                rw [← hst] at hap
                clear hst hnv
                go_wp2_with fail
                refine hap.mono ?_
                clear hap c0 c3 hab
                rintro e w7 ⟨v7, rfl, hv7, hb7⟩
                have HV7 := Lib.hid hv7
                have HB7 := Lib.hid (hbr.trans (hb7.mono hbs))
                clear hv7 hb7 hbr hbs HV
                go_wp2
                go_roundw
                case rel => exact ⟨i + 1, by go_num, by omega, HV7, HB7.out⟩
                case measure => simp [intOf]; omega
              · have hz : (x == (j : Int)) = false := by simpa using hxj
                rw [if_neg hxj] at hst
                have HST := Lib.hid hst
                clear hap hst hxj hnv
                go_wp2
                go_roundw
                case rel => exact ⟨i + 1, by go_num, by omega, by show PV _ _ _; rw [HST.out]; exact HV.out, hbr⟩
                case measure => simp [intOf]; omega
            · have hin : i = l.length := by have := HL.out; omega
              have HVE := Lib.hid (show PV wr u3 (levelTo l j cur l.length) from by have h := HV.out; rw [hin] at h; exact h)
              have HRE := Lib.hid (show downI l (levelTo l j cur l.length) j = R from HR.out)
              have HCE := Lib.hid (show (levelTo l j cur l.length).length + sumD l l.length j ≤ 2000 from by
                have h1 := level_len2 l j cur l.length (Nat.le_refl _)
                have h3 := HC.out
                have h4 : sumD l l.length (j + 1) = sumD l l.length j + waitD l j l.length := rfl
                omega)
              clear HV HR HC hin
              go_wp2
              go_roundw
              case rel => exact ⟨j, (j : Int) - 1, _, by first | rfl | go_num, by omega, by omega, HRE, HCE, HVE, hbr⟩
              case measure => first | (simp [intOf]; done) | (simp [intOf]; omega)
theorem tpairs_v {v : Value} {l : List In} {w : World} (h : IV w v l) (hm : l.length ≤ 100000000) (hp : (l.flatMap In.pairs).length ≤ 1000) (hw : waitTo l l.length ≤ 1000) (hd : deepI l ≤ 1000000000) :
    Calls Try.prog 29 #[v] w fun e w' => ∃ v', e = .returned v' ∧ PV w' v' (pairsI l) ∧ Below w.heap.size w w' := by
  have h0 := h
  obtain ⟨A, c, rfl⟩ := h.shape
  exact tpairs_any A l.length c l w h0 rfl hm hp hw hd

end Go.Proofs.Yteddjmkoleclpaa
