/- The walks of the document's one and Apply. -/
import Derived.Test.YtnlmdgbkfoofoaaRA
import Derived.Test.YtnlmdgbkfoofoaaRLeaf
import Derived.Test.YtnlmdgbkfoofoaaRNote
set_option linter.unusedVariables false
set_option linter.unusedSimpArgs false
namespace Go.Proofs.Ytnlmdgbkfoofoaa
open Go.RowKit

set_option maxHeartbeats 4000000 in
set_option maxRecDepth 100000 in
theorem one_any (A : Option Addr) (c : Nat) (l : List Pr) (nk : Int) (key nv : ByteArray) (nn : UInt64) (w : World) (hA : Prs w w.heap.size A l) (hn : l.length ≤ 1000) (hs : Sorted l) :
    Calls Try.prog 45 #[.slice A l.length c, .agg #[.int .i64 nk, .string key, .string nv, .int .u64 (nn.toNat : Int)]] w fun e w' => ∃ v, e = .returned v ∧ w'.ownsRow w.heap.size 61 2 v (oneL l ⟨nk, key, nv, nn⟩).length ((oneL l ⟨nk, key, nv, nn⟩).flatMap Pr.cells) ∧ Below w.heap.size w w' := by
  have HONE := Lib.hid (one_all l ⟨nk, key, nv, nn⟩)
  obtain ⟨n, hl⟩ : ∃ n, l.length = n := ⟨_, rfl⟩
  rw [hl] at hn ⊢
  have HL := Lib.hid hl
  have HS := Lib.hid hs
  -- the boxed note
  obtain ⟨g, hg⟩ : ∃ g, g = w.heap.size := ⟨_, rfl⟩
  obtain ⟨w1, hw1⟩ : ∃ w1, w1 = w.alloc (.cells #[.int .i64 nk, .string key, .string nv, .int .u64 (nn.toNat : Int)] 58) := ⟨_, rfl⟩
  have hb1 : Below w.heap.size w w1 := by rw [hw1]; exact (Below.refl _ _).alloc (Nat.le_refl _) _
  have hbs1 : w.heap.size ≤ w1.heap.size := hb1.size
  have hbx : NBlk w1 g ⟨nk, key, nv, nn⟩ := by rw [hw1]; exact Box.at_ w _ _ hg
  have HA := Lib.hid (show Prs w1 w1.heap.size A l from hA.on hb1)
  have HBX := Lib.hid hbx
  have HB1 := Lib.hid hb1
  obtain ⟨H, hH⟩ : ∃ H : Nat → Has, ∀ k, H k = hasOf (getL (l.take k) key) := ⟨_, fun _ => rfl⟩
  have h0 : H 0 = (noB, false) := by rw [hH]; rfl
  have H0 := Lib.hid h0
  have HH := Lib.hid hH
  clear hl hs hA hb1 hbx h0 hH
  go_enter Try.func45, Try.ntmps45
  go_upto_region 1 with fail
  rw [← hg, ← hw1]
  clear hg hw1
  go_wp2
  go_loopw [5, 6, 7, 8, 9] (fun v5 v6 v7 v8 vi wr => ∃ (k n7 n8 : Nat), vi = .int .i64 k ∧ k ≤ n ∧ v5 = .string (H k).1 ∧ v6 = .bool (H k).2 ∧ Hid (wr.ownsRow w1.heap.size 61 2 v7 n7 ((lowF (l.take k) key).flatMap Pr.cells)) ∧ Hid (wr.ownsRow w1.heap.size 61 2 v8 n8 ((highF (l.take k) key).flatMap Pr.cells)) ∧ Hid (n7 = (lowF (l.take k) key).length ∧ n8 = (highF (l.take k) key).length) ∧ Hid (Apart2 v7 v8) ∧ Below w1.heap.size w1 wr) (fun _ _ _ _ vi _ => (n - intOf vi).toNat)
  case atStart => exact ⟨0, 0, 0, rfl, by omega, by rw [H0.out], by rw [H0.out], World.ownsRow_nil _ _ _ _, World.ownsRow_nil _ _ _ _, ⟨by simp [lowF], by simp [highF]⟩, .inl rfl, Below.refl _ _⟩
  case round =>
    obtain ⟨k, n7, n8, rfl, hk, rfl, rfl, HO7, HO8, HN, HAP, hbr⟩ := hrel
    have hbs := hbr.size
    by_cases hlt : k < n
    · have hkl : k < l.length := by rw [HL.out]; exact hlt
      have hn78 : n7 ≤ 1000 ∧ n8 ≤ 1000 := by have h1 := low_len l k key; have h2 := HN.out; omega
      have HN78 := Lib.hid hn78
      obtain ⟨x, hx⟩ : ∃ x, x = l[k]'hkl := ⟨_, rfl⟩
      have HX := Lib.hid hx
      obtain ⟨ad, rfl, hab, hca0⟩ := HA.out.seeP (by rw [HL.out]; omega)
      have hca1 := hca0 k hkl
      rw [← hx] at hca1
      obtain ⟨xk, xv⟩ := x
      simp only at hca1
      have HC := Lib.hid (show ∀ wx, Below w1.heap.size w1 wx → wx.cell? (ad.add (k * 2)) = some (.string xk) ∧ wx.cell? ⟨(ad.add (k * 2)).block, (ad.add (k * 2)).off + 1, none⟩ = some (.string xv) ∧ wx.cell? ⟨g, 1, none⟩ = some (.string key) from fun wx hS =>
        ⟨(hS.cell (lt_of_cell hca1.1)).trans hca1.1, (hS.cell (lt_of_cell hca1.2)).trans hca1.2, (NBlk.cells (HBX.out.on hS)).2.1⟩)
      clear hx hca0 hca1 hn78
      -- less
      obtain ⟨bb, hbb⟩ : ∃ bb, Op.bytesLess xk.toList key.toList = bb := ⟨_, rfl⟩
      obtain ⟨c1, c2, c3⟩ := HC.out wr hbr
      go_wp2
      go_quiet (fail)
      obtain ⟨wd, hwd⟩ : ∃ wd, wd = wr.drewN nq := ⟨_, rfl⟩
      rw [← hwd]
      have hbd : Below w1.heap.size w1 wd := by rw [hwd]; exact below_drewN hbr _
      have D7 := Lib.hid (show wd.ownsRow w1.heap.size 61 2 u7 n7 ((lowF (l.take k) key).flatMap Pr.cells) from by show World.ownsRow _ _ _ _ _ _ _; rw [hwd]; exact own_below HO7.out (below_drewN (Below.refl _ _) _))
      have D8 := Lib.hid (show wd.ownsRow w1.heap.size 61 2 u8 n8 ((highF (l.take k) key).flatMap Pr.cells) from by show World.ownsRow _ _ _ _ _ _ _; rw [hwd]; exact own_below HO8.out (below_drewN (Below.refl _ _) _))
      clear hwd c1 c2 c3
      have HBB := Lib.hid hbb
      clear hbb
      go_upto_if 25 with fail
      go_cut [7] (fun v7 wx => ∃ (m7 : Nat), Hid (wx.ownsRow w1.heap.size 61 2 v7 m7 ((lowF (l.take (k + 1)) key).flatMap Pr.cells)) ∧ Hid (wx.ownsRow w1.heap.size 61 2 u8 n8 ((highF (l.take k) key).flatMap Pr.cells)) ∧ Hid (m7 = (lowF (l.take (k + 1)) key).length) ∧ Hid (Apart2 v7 u8) ∧ Below w1.heap.size w1 wx)
      case first =>
        cases bb with
        | true =>
          have HST := Lib.hid (show lowF (l.take (k + 1)) key = lowF (l.take k) key ++ [l[k]'hkl] from (step_lt hkl (by rw [← HX.out]; exact lt_iff.2 HBB.out)).1)
          obtain ⟨c1, c2, c3⟩ := HC.out wd hbd
          have hbs2 := hbd.size
          have hownA := D7.out
          have hownB := D8.out
          go_wp2_with (at_builtin; refine append_pair _ rfl _ _ rfl w1.heap.size _ n7 ((lowF (l.take k) key).flatMap Pr.cells) rfl (hownA.alloc _) (wd.heap.size + 1) wd.heap.size ⟨xk, xv⟩ rfl ?a1 ?a2 ?a3 ?_)
          case a1 => exact Lies.lit Pr.cells2 rfl
          case a2 => have := HN78.out; omega
          case a3 => simp; omega
          intro v' w5 hown5 hg5 hat
          have hk5 : ∀ k, Value.ownBlock _ = some k → w1.heap.size ≤ k := fun k hk => (own_lt hownA hk).1
          have hb5 : Below w1.heap.size w1 w5 := (hbd.alloc hbs2 _).grown hg5 (by simp; omega) hk5
          have H5 := Lib.hid (show w5.ownsRow w1.heap.size 61 2 v' (n7 + 1) ((lowF (l.take (k + 1)) key).flatMap Pr.cells) from by
            show World.ownsRow _ _ _ _ _ _ _
            rw [HST.out, List.flatMap_append, ← HX.out]; simpa using hown5)
          have HB5 := Lib.hid (show w5.ownsRow w1.heap.size 61 2 u8 n8 ((highF (l.take k) key).flatMap Pr.cells) from own_grown (hownB.alloc _) hg5 HAP.out)
          have HAP5 := Lib.hid (Apart2.grow HAP.out (hownB.alloc (.cells #[] 61)) (by simpa using hat))
          have HL5 := Lib.hid (show n7 + 1 = (lowF (l.take (k + 1)) key).length from by rw [HST.out, List.length_append, ← HN.out.1]; rfl)
          clear hownA hownB hown5 hg5 hat hk5 c1 c2 c3
          go_wp2
          go_meet
          case rel => exact ⟨_, H5, HB5, HL5, HAP5, hb5⟩
        | false =>
          have HST := Lib.hid (show lowF (l.take (k + 1)) key = lowF (l.take k) key from by
            have h1 : ¬ xk < key := fun h => by have h2 : ltS xk key = true := lt_iff.1 h; have h3 : ltS xk key = false := HBB.out; rw [h3] at h2; cases h2
            by_cases h2 : xk = key
            · exact (step_eq HS.out hkl (by rw [← HX.out]; exact h2)).1
            · exact (step_gt hkl (by rw [← HX.out]; show key < xk; grind)).1)
          go_wp2
          go_meet
          case rel => exact ⟨_, by show World.ownsRow _ _ _ _ _ _ _; rw [HST.out]; exact D7.out, D8, by show _ = _; rw [HST.out]; exact HN.out.1, HAP, hbd⟩
      case rest =>
      obtain ⟨m7, HO7', HO8', HN7', HAP', hbc⟩ := hcut
      clear D7 D8 hbd HO7 HO8 HAP hbr
      have hbsc := hbc.size
      -- the same
      obtain ⟨be, hbe⟩ : ∃ be, (xk.toList == key.toList) = be := ⟨_, rfl⟩
      obtain ⟨c1, c2, c3⟩ := HC.out wc hbc
      go_wp2
      go_quiet (fail)
      obtain ⟨we, hwd⟩ : ∃ wd, wd = wc.drewN nq := ⟨_, rfl⟩
      rw [← hwd]
      have hbe2 : Below w1.heap.size w1 we := by rw [hwd]; exact below_drewN hbc _
      have E7 := Lib.hid (show we.ownsRow w1.heap.size 61 2 u7 m7 ((lowF (l.take (k + 1)) key).flatMap Pr.cells) from by show World.ownsRow _ _ _ _ _ _ _; rw [hwd]; exact own_below HO7'.out (below_drewN (Below.refl _ _) _))
      have E8 := Lib.hid (show we.ownsRow w1.heap.size 61 2 u8 n8 ((highF (l.take k) key).flatMap Pr.cells) from by show World.ownsRow _ _ _ _ _ _ _; rw [hwd]; exact own_below HO8'.out (below_drewN (Below.refl _ _) _))
      clear hwd c1 c2 c3
      have HBE := Lib.hid hbe
      clear hbe
      go_upto_if 40 with fail
      go_cut [5, 6] (fun v5 v6 wx => v5 = .string (H (k + 1)).1 ∧ v6 = .bool (H (k + 1)).2 ∧ we = wx)
      case first =>
        obtain ⟨c1, c2, c3⟩ := HC.out we hbe2
        cases be with
        | true =>
          have HST := Lib.hid (show H (k + 1) = (xv, true) from by
            have h2 : xk = key := tl_inj (by simpa using HBE.out)
            rw [HH.out, (step_eq HS.out hkl (by rw [← HX.out]; exact h2)).2.2, ← HX.out]; rfl)
          go_wp2
          go_meet
          case rel => exact ⟨by rw [HST.out], by rw [HST.out], rfl⟩
        | false =>
          have HST := Lib.hid (show H (k + 1) = H k from by
            have h2 : xk ≠ key := fun e => by have h := HBE.out; rw [e] at h; simp at h
            rw [HH.out, HH.out]
            by_cases h3 : xk < key
            · rw [(step_lt hkl (by rw [← HX.out]; exact h3)).2.2]
            · rw [(step_gt hkl (by rw [← HX.out]; show key < xk; grind)).2.2])
          clear c1 c2 c3
          go_wp2
          go_meet
          case rel => exact ⟨by rw [HST.out], by rw [HST.out], rfl⟩
      case rest =>
      obtain ⟨rfl, rfl, rfl⟩ := hcut
      clear HO7' HO8'
      -- greater
      obtain ⟨bg, hbg⟩ : ∃ bg, (!Op.bytesLess xk.toList key.toList && !xk.toList == key.toList) = bg := ⟨_, rfl⟩
      obtain ⟨c1, c2, c3⟩ := HC.out we hbe2
      go_wp2
      go_quiet (fail)
      obtain ⟨wf, hwd⟩ : ∃ wd, wd = we.drewN nq := ⟨_, rfl⟩
      rw [← hwd]
      have hbf : Below w1.heap.size w1 wf := by rw [hwd]; exact below_drewN hbe2 _
      have F7 := Lib.hid (show wf.ownsRow w1.heap.size 61 2 u7 m7 ((lowF (l.take (k + 1)) key).flatMap Pr.cells) from by show World.ownsRow _ _ _ _ _ _ _; rw [hwd]; exact own_below E7.out (below_drewN (Below.refl _ _) _))
      have F8 := Lib.hid (show wf.ownsRow w1.heap.size 61 2 u8 n8 ((highF (l.take k) key).flatMap Pr.cells) from by show World.ownsRow _ _ _ _ _ _ _; rw [hwd]; exact own_below E8.out (below_drewN (Below.refl _ _) _))
      clear hwd c1 c2 c3
      have HBG := Lib.hid hbg
      clear hbg
      · skip
        cases bg with
        | true =>
          have hb1 := HBG.out
          have HST := Lib.hid (show highF (l.take (k + 1)) key = highF (l.take k) key ++ [l[k]'hkl] from (step_gt hkl (by rw [← HX.out]; exact gtr_true HBG.out)).2.1)
          obtain ⟨c1, c2, c3⟩ := HC.out wf hbf
          have hbs2 := hbf.size
          have hownA := F8.out
          have hownB := F7.out
          go_wp2_with (at_builtin; refine append_pair _ rfl _ _ rfl w1.heap.size _ n8 ((highF (l.take k) key).flatMap Pr.cells) rfl (hownA.alloc _) (wf.heap.size + 1) wf.heap.size ⟨xk, xv⟩ rfl ?a1 ?a2 ?a3 ?_)
          case a1 => exact Lies.lit Pr.cells2 rfl
          case a2 => have := HN78.out; omega
          case a3 => simp; omega
          intro v' w5 hown5 hg5 hat
          have hk5 : ∀ k, Value.ownBlock _ = some k → w1.heap.size ≤ k := fun k hk => (own_lt hownA hk).1
          have hb5 : Below w1.heap.size w1 w5 := (hbf.alloc hbs2 _).grown hg5 (by simp; omega) hk5
          have H5 := Lib.hid (show w5.ownsRow w1.heap.size 61 2 v' (n8 + 1) ((highF (l.take (k + 1)) key).flatMap Pr.cells) from by
            show World.ownsRow _ _ _ _ _ _ _
            rw [HST.out, List.flatMap_append, ← HX.out]; simpa using hown5)
          have HB5 := Lib.hid (show w5.ownsRow w1.heap.size 61 2 u7 m7 ((lowF (l.take (k + 1)) key).flatMap Pr.cells) from own_grown (hownB.alloc _) hg5 HAP'.out.symm)
          have HAP5 := Lib.hid ((Apart2.grow HAP'.out.symm (hownB.alloc (.cells #[] 61)) (by simpa using hat)).symm)
          have HL5 := Lib.hid (show n8 + 1 = (highF (l.take (k + 1)) key).length from by rw [HST.out, List.length_append, ← HN.out.2]; rfl)
          clear hownA hownB hown5 hg5 hat hk5 c1 c2 c3
          go_wp2
          go_roundw
          case rel => exact ⟨k + 1, m7, n8 + 1, by go_num, by omega, by first | rfl | trivial, by first | rfl | trivial, HB5, H5, ⟨HN7'.out, HL5.out⟩, HAP5, hb5⟩
          case measure => simp [intOf]; omega
        | false =>
          have hb1 := HBG.out
          have HST := Lib.hid (show highF (l.take (k + 1)) key = highF (l.take k) key from by
            have h1 : ¬ key < xk := gtr_false HBG.out
            by_cases h2 : xk = key
            · exact (step_eq HS.out hkl (by rw [← HX.out]; exact h2)).2.1
            · exact (step_lt hkl (by rw [← HX.out]; show xk < key; grind)).2.1)
          go_wp2
          go_roundw
          case rel => exact ⟨k + 1, m7, n8, by go_num, by omega, by first | rfl | trivial, by first | rfl | trivial, F7, by show World.ownsRow _ _ _ _ _ _ _; rw [HST.out]; exact F8.out, ⟨HN7'.out, by rw [HST.out]; exact HN.out.2⟩, HAP', hbf⟩
          case measure => simp [intOf]; omega
    · have hkn : k = n := by omega
      obtain ⟨nk7, nk8⟩ := HN.out
      have hlk : l.take k = l := List.take_of_length_le (by rw [HL.out]; omega)
      rw [hlk] at nk7 nk8
      have HO7' := Lib.hid (show wr.ownsRow w1.heap.size 61 2 u7 n7 ((lowF l key).flatMap Pr.cells) from by have h := HO7.out; rwa [hlk] at h)
      have HO8' := Lib.hid (show wr.ownsRow w1.heap.size 61 2 u8 n8 ((highF l key).flatMap Pr.cells) from by have h := HO8.out; rwa [hlk] at h)
      have hHk : H k = hasOf (getL l key) := by rw [HH.out, hlk]
      have hn78 : n7 ≤ 1000 ∧ n8 ≤ 1000 := by
        have h1 := low_len l l.length key
        rw [List.take_length] at h1
        have h2 := HL.out
        omega
      have HN78 := Lib.hid hn78
      have HNK := Lib.hid (And.intro nk7 nk8)
      have HHK := Lib.hid hHk
      clear HO7 HO8 HN hlk nk7 nk8 hHk hn78
      obtain ⟨o, ho⟩ : ∃ o, o = stepsO (getL l key) [⟨nk, key, nv, nn⟩] := ⟨_, rfl⟩
      have hpo : pairOf key o = if (hasOf o).2 then [⟨key, (hasOf o).1⟩] else [] := by cases o <;> rfl
      have hdn : doneL (H k).1 (H k).2 [⟨nk, key, nv, nn⟩] = hasOf o := by rw [HHK.out, done_hasOf, ho]
      obtain ⟨v', hv'⟩ : ∃ v', v' = (hasOf o).1 := ⟨_, rfl⟩
      obtain ⟨is, his⟩ : ∃ is, is = (hasOf o).2 := ⟨_, rfl⟩
      obtain ⟨d1, hd1⟩ : ∃ d1, d1 = (H k).1 := ⟨_, rfl⟩
      obtain ⟨d2, hd2⟩ : ∃ d2, d2 = (H k).2 := ⟨_, rfl⟩
      have hdone := fun wx (h : Nts wx wx.heap.size (some ⟨wr.heap.size, 0, none⟩) [⟨nk, key, nv, nn⟩]) => ddone_any (H k).1 (H k).2 (some ⟨wr.heap.size, 0, none⟩) 1 [⟨nk, key, nv, nn⟩] wx h (by unfold maxLen; simp)
      rw [hdn, ← hv', ← his, ← hd1, ← hd2] at hdone
      rw [← hd1, ← hd2]
      rw [← hv', ← his] at hpo
      have HRES := Lib.hid (show lowF l key ++ pairOf key o ++ highF l key = oneL l ⟨nk, key, nv, nn⟩ from by rw [ho]; exact HONE.out)
      have HPO := Lib.hid hpo
      obtain ⟨c1, c2, c3, c4⟩ := NBlk.cells (HBX.out.on hbr)
      simp only at c1 c2 c3 c4
      have hdw := hdone (wr.alloc (.cells #[.int .i64 nk, .string key, .string nv, .int .u64 (nn.toNat : Int)] 58)) ((nts_one wr ⟨nk, key, nv, nn⟩ rfl).more (by simp))
      clear ho hpo hdn hv' his hd1 hd2 hdone HONE HHK
      go_wp2_with fail
      refine hdw.mono ?_
      clear hdw
      rintro e w3 ⟨rfl, hb3⟩
      have hb13 : Below w1.heap.size w1 w3 := (hbr.alloc hbs _).trans (hb3.mono (by simp; omega))
      have hbs3 := hb13.size
      have D7 := Lib.hid (own_below (HO7'.out.alloc _) hb3)
      have D8 := Lib.hid (own_below (HO8'.out.alloc _) hb3)
      clear hb3 c1 c2 c3 c4 HO7' HO8' hbr hbs
      obtain ⟨c1, c2, c3, c4⟩ := NBlk.cells (HBX.out.on hb13)
      simp only at c1 c2 c3 c4
      go_upto_if 69 with fail
      go_cut [7] (fun v7 wx => Hid (wx.ownsRow w1.heap.size 61 2 v7 (lowF l key ++ pairOf key o).length ((lowF l key ++ pairOf key o).flatMap Pr.cells)) ∧ Hid (wx.ownsRow w1.heap.size 61 2 u8 n8 ((highF l key).flatMap Pr.cells)) ∧ Hid (Apart2 v7 u8) ∧ Hid ((lowF l key ++ pairOf key o).length ≤ 1001) ∧ Below w1.heap.size w1 wx)
      case first =>
        cases is with
        | false =>
          have e : pairOf key o = [] := by rw [HPO.out]; rfl
          have HE := Lib.hid e
          clear e
          go_wp2
          go_meet
          case rel => exact ⟨by show World.ownsRow _ _ _ _ _ _ _; rw [HE.out, List.append_nil, ← HNK.out.1]; exact D7.out, D8, HAP, by show _ ≤ _; rw [HE.out, List.append_nil, ← HNK.out.1]; have := HN78.out; omega, hb13⟩
        | true =>
          have e : pairOf key o = [⟨key, v'⟩] := by rw [HPO.out]; rfl
          have HE := Lib.hid e
          clear e
          have hownA := D7.out
          have hownB := D8.out
          go_wp2_with (at_builtin; refine append_pair _ rfl _ _ rfl w1.heap.size _ n7 ((lowF l key).flatMap Pr.cells) rfl (hownA.alloc _) (w3.heap.size + 1) w3.heap.size ⟨key, v'⟩ rfl ?a1 ?a2 ?a3 ?_)
          case a1 => exact Lies.lit Pr.cells2 rfl
          case a2 => have := HN78.out; omega
          case a3 => first | omega | (simp; omega)
          intro v9 w5 hown5 hg5 hat
          have hk5 : ∀ k, Value.ownBlock _ = some k → w1.heap.size ≤ k := fun k hk => (own_lt hownA hk).1
          have hb5 : Below w1.heap.size w1 w5 := (hb13.alloc hbs3 _).grown hg5 (by simp; omega) hk5
          have H5 := Lib.hid (show w5.ownsRow w1.heap.size 61 2 v9 (lowF l key ++ pairOf key o).length ((lowF l key ++ pairOf key o).flatMap Pr.cells) from by
            show World.ownsRow _ _ _ _ _ _ _
            rw [HE.out, List.length_append, ← HNK.out.1, List.flatMap_append]; simpa using hown5)
          have HB5 := Lib.hid (show w5.ownsRow w1.heap.size 61 2 u8 n8 ((highF l key).flatMap Pr.cells) from own_grown (hownB.alloc _) hg5 HAP.out)
          have HAP5 := Lib.hid (Apart2.grow HAP.out (hownB.alloc (.cells #[] 61)) (by simpa using hat))
          clear hownA hownB hown5 hg5 hat hk5 c1 c2 c3 c4
          go_wp2
          go_meet
          case rel => exact ⟨H5, HB5, HAP5, by show _ ≤ _; rw [HE.out, List.length_append, ← HNK.out.1]; have := HN78.out; simp; omega, hb5⟩
      case rest =>
      obtain ⟨HO9, HO8, HAP9, HLN, hb9⟩ := hcut
      clear D7 D8 c1 c2 c3 c4 hb13 hbs3
      have hbs9 := hb9.size
      have hown9 := HO9.out
      have hown8 := HO8.out
      obtain ⟨A8, c8, rfl⟩ := own_shape hown8
      have hcap8 := row_cap hown8
      have hpr8 : Prs wc wc.heap.size A8 (highF l key) := by rw [HNK.out.2] at hown8; exact Lies.own Pr.cells2 hown8
      have HL8 := Lib.hid (show (highF l key).length = n8 from HNK.out.2.symm)
      go_wp2_with (at_builtin; refine append_prs _ rfl _ _ rfl w1.heap.size _ (lowF l key ++ pairOf key o).length ((lowF l key ++ pairOf key o).flatMap Pr.cells) rfl hown9 wc.heap.size A8 n8 c8 (highF l key) rfl ?d1 ?d2 ?d3 ?d4 hbs9 ?_)
      case d1 => exact HL8.out
      case d2 => exact hpr8
      case d3 => exact hcap8.2
      case d4 => have h1 := HLN.out; have h2 := HN78.out; show _ + _ ≤ _; omega
      intro v' w6 hown6 hg6
      have hk6 : ∀ k, Value.ownBlock _ = some k → w1.heap.size ≤ k := fun k hk => (own_lt hown9 hk).1
      have hb6 : Below w1.heap.size w1 w6 := hb9.grown hg6 hbs9 hk6
      have HPV := Lib.hid (show w6.ownsRow w.heap.size 61 2 v' (oneL l ⟨nk, key, nv, nn⟩).length ((oneL l ⟨nk, key, nv, nn⟩).flatMap Pr.cells) from by
        have hlen : (oneL l ⟨nk, key, nv, nn⟩).length = (lowF l key).length + (pairOf key o).length + n8 := by rw [← HRES.out, List.length_append, List.length_append, HL8.out]
        rw [hlen, ← HRES.out]
        refine own_more (base := w1.heap.size) ?_ hbs1
        simpa [List.flatMap_append, List.append_assoc, Nat.add_assoc] using hown6)
      have HBF := Lib.hid (HB1.out.trans (hb6.mono hbs1))
      clear hown6 hg6 hk6 hb6 hown8 hown9 hpr8 hcap8
      go_wp2
      go_ret
      exact ⟨_, rfl, HPV.out, HBF.out⟩

theorem one_v {v : Value} {l : List Pr} {w : World} (h : PV w v l) (nk : Int) (key nv : ByteArray) (nn : UInt64) (hn : l.length ≤ 1000) (hs : Sorted l) :
    Calls Try.prog 45 #[v, .agg #[.int .i64 nk, .string key, .string nv, .int .u64 (nn.toNat : Int)]] w fun e w' => ∃ v', e = .returned v' ∧ w'.ownsRow w.heap.size 61 2 v' (oneL l ⟨nk, key, nv, nn⟩).length ((oneL l ⟨nk, key, nv, nn⟩).flatMap Pr.cells) ∧ Below w.heap.size w w' := by
  obtain ⟨A, c, rfl, h1, _, _⟩ := h
  exact one_any A c l nk key nv nn w h1 hn hs

set_option maxHeartbeats 2000000 in
set_option maxRecDepth 100000 in
theorem dapply_any (A : Option Addr) (c : Nat) (l : List Pr) (B : Option Addr) (d : Nat) (ns : List Nt) (w : World) (hA : Prs w w.heap.size A l) (hB : Nts w w.heap.size B ns) (hc : l.length ≤ c) (hz : A = none → c = 0) (hmax : l.length + ns.length ≤ 1000) {B0 : Nat} (hpx : PX B0 w (.slice A l.length c) l) :
    Calls Try.prog 29 #[.slice A l.length c, .slice B ns.length d] w fun e w' => ∃ v, e = .returned (.tuple #[v, .int .i64 (applyE l ns)]) ∧ PX B0 w' v (applyL l ns) ∧ Below w.heap.size w w' := by
  have hr := dright_pr A c l w hA (by unfold maxLen; omega)
  have hal := fun wx (h : Below w.heap.size w wx) => dall_any B d ns wx (hB.on h) (by unfold maxLen; omega)
  have hpv : PX B0 w (.slice A l.length c) l := hpx
  have HPX0 := Lib.hid hpx.le
  clear hpx
  have HV := Lib.hid hpv
  have HB := Lib.hid hB
  have hE : applyE l ns = if wellL l && ns.all rightN then 0 else 1 := rfl
  have hL : applyL l ns = if wellL l && ns.all rightN then foldOne l ns else l := rfl
  obtain ⟨r1, hr1⟩ : ∃ r1, r1 = wellL l := ⟨_, rfl⟩
  obtain ⟨r2, hr2⟩ : ∃ r2, r2 = ns.all rightN := ⟨_, rfl⟩
  rw [← hr1, ← hr2] at hE hL
  rw [← hr1] at hr
  rw [← hr2] at hal
  have HR := Lib.hid (And.intro hr1 hr2)
  clear hr1 hr2 hpv hA hB hc hz
  obtain ⟨m, hm⟩ : ∃ m, ns.length = m := ⟨_, rfl⟩
  rw [hm] at hal hmax ⊢
  have HM := Lib.hid hm
  obtain ⟨n, hn⟩ : ∃ n, l.length = n := ⟨_, rfl⟩
  rw [hn] at hr HV hmax ⊢
  have HN := Lib.hid hn
  clear hm hn
  obtain ⟨E, hEE⟩ : ∃ E, E = applyE l ns := ⟨_, rfl⟩
  obtain ⟨L, hLL⟩ : ∃ L, L = applyL l ns := ⟨_, rfl⟩
  rw [← hEE] at hE
  rw [← hLL] at hL
  rw [← hEE, ← hLL]
  clear hEE hLL
  have HEL := Lib.hid (And.intro hE hL)
  clear hE hL
  go_enter Try.func29, Try.ntmps29
  go_wp2_with fail
  refine hr.mono ?_
  clear hr
  rintro e w1 ⟨rfl, hb1⟩
  have hal1 := hal w1 hb1
  clear hal
  go_wp2_with fail
  refine hal1.mono ?_
  clear hal1
  rintro e w2 ⟨rfl, hb2⟩
  have hb12 := hb1.trans (hb2.mono hb1.size)
  clear hb1 hb2
  have HE := Lib.hid (show PX B0 w2 (.slice A n c) l from HV.out.on hb12)
  by_cases hrr : r1 = true ∧ r2 = true
  case neg =>
    have hr0 : (r1 && r2) = false := by cases r1 <;> cases r2 <;> simp_all
    obtain ⟨rfl, rfl⟩ : E = 1 ∧ L = l := by have h := HEL.out; rw [hr0] at h; exact h
    cases r1 with
    | false =>
      clear hrr hr0
      go_wp2
      go_ret2
      exact ⟨_, rfl, HE.out, hb12⟩
    | true =>
      cases r2 with
      | false =>
        clear hrr hr0
        go_wp2
        go_ret2
        exact ⟨_, rfl, HE.out, hb12⟩
      | true => exact absurd ⟨rfl, rfl⟩ hrr
  obtain ⟨rfl, rfl⟩ := hrr
  obtain ⟨rfl, hL⟩ : E = 0 ∧ L = foldOne l ns := HEL.out
  have HLL := Lib.hid hL
  clear hL
  have HS := Lib.hid (show Sorted l from well_sorted HR.out.1.symm)
  clear HV
  go_wp2
  go_loopw [0, 8] (fun v0 vi wr => ∃ (k : Nat), vi = .int .i64 k ∧ k ≤ m ∧ Hid (PX B0 wr v0 (foldOne l (ns.take k))) ∧ Below w.heap.size w wr) (fun _ vi _ => (m - intOf vi).toNat)
  case atStart => exact ⟨0, rfl, by omega, HE, hb12⟩
  case round =>
    clear HE hb12
    obtain ⟨k, rfl, hk, HP, hbr⟩ := hrel
    by_cases hlt : k < m
    · have hkl : k < ns.length := by rw [HM.out]; exact hlt
      obtain ⟨ad, rfl, hab, hca⟩ := (HB.out.below hbr).seeN (by rw [HM.out]; omega)
      obtain ⟨c1, c2, c3, c4⟩ := hca k hkl
      obtain ⟨x, hx⟩ : ∃ x, x = ns[k]'hkl := ⟨_, rfl⟩
      rw [← hx] at c1 c2 c3 c4
      have HX := Lib.hid (show foldOne l (ns.take (k + 1)) = oneL (foldOne l (ns.take k)) x from by
        rw [List.take_succ_eq_append_getElem hkl, foldOne_append, ← hx]; rfl)
      clear hx hca
      obtain ⟨xk, xkey, xval, xn⟩ := x
      simp only at c1 c2 c3 c4
      have hone := one_v HP.out.pv xk xkey xval xn (by have h1 := len_fold l (ns.take k); have h2 := HM.out; have h3 := HN.out; simp at h1; omega) (sorted_fold HS.out _)
      rw [← HX.out] at hone
      have hbs := hbr.size
      go_wp2_with fail
      refine hone.mono ?_
      clear hone
      rintro e w3 ⟨v', rfl, hpv, hb3⟩
      have HP3 := Lib.hid (show PX B0 w3 v' _ from PX.row (Nat.le_trans HPX0.out (Nat.le_trans hbs hb3.size)) hpv)
      have hbr3 := hbr.trans (hb3.mono hbs)
      clear hb3 hpv c1 c2 c3 c4 HP
      go_wp2
      go_roundw
      case rel => exact ⟨k + 1, by go_num, by omega, HP3, hbr3⟩
      case measure => simp [intOf]; omega
    · have hkm : ns.take k = ns := List.take_of_length_le (by rw [HM.out]; omega)
      have HE := Lib.hid (show PX B0 wr u0 L from by have h := HP.out; rw [hkm] at h; rw [HLL.out]; exact h)
      clear HP hkm
      go_wp2
      go_ret2
      exact ⟨_, rfl, HE.out, hbr⟩
theorem dapply_x {B0 : Nat} {v u : Value} {l : List Pr} {ns : List Nt} {w : World} (h : PX B0 w v l) (g : NV w u ns) (hmax : l.length + ns.length ≤ 1000) :
    Calls Try.prog 29 #[v, u] w fun e w' => ∃ v', e = .returned (.tuple #[v', .int .i64 (applyE l ns)]) ∧ PX B0 w' v' (applyL l ns) ∧ Below w.heap.size w w' := by
  obtain ⟨A, c, rfl, h1, h2, h3⟩ := h.pv
  obtain ⟨B, d, rfl, g1, g2, g3⟩ := g
  exact dapply_any A c l B d ns w h1 g1 h2 h3 hmax h

end Go.Proofs.Ytnlmdgbkfoofoaa
