/- The walk of the document's Meet. -/
import Derived.Test.YtmbcmacegncnmaaRngs
import Derived.BigQuiet
import Derived.Deep.QuietTactic
namespace Go.Proofs.Ytmbcmacegncnmaa
open Go.RowKit

theorem drewN_blk {w : World} {g n : Nat} {r : Rng} (h : RBlk w g r) : RBlk (w.drewN n) g r := h

theorem ref_step {m x : Rng} (h : Norm m) (b1 b2 : Bool) (h1 : decide (m.lo < x.lo) = b1) (h2 : (!x.op && (m.op || ltS x.hi m.hi)) = b2) :
    meet2 m x = ⟨if b1 then x.lo else m.lo, if b2 then x.hi else m.hi, if b2 then false else m.op⟩ := by
  rw [← refStep_eq x h]
  unfold refStep
  subst h1 h2
  rw [ltS_eq]
  have e : (x.op = false ∧ (m.op = true ∨ x.hi < m.hi)) ↔ (!x.op && (m.op || decide (x.hi < m.hi))) = true := by cases x.op <;> cases m.op <;> simp
  simp only [e, decide_eq_true_eq]

theorem gtr_lt (a b : ByteArray) : (!(Op.bytesLess a.toList b.toList || a.toList == b.toList)) = decide (b < a) := by
  show (!leS a b) = _
  rw [leS_eq, Bool.eq_iff_iff]
  simp only [Bool.not_eq_true', decide_eq_false_iff_not, decide_eq_true_eq]
  grind

set_option maxHeartbeats 1000000 in
theorem rmeet_any (A : Option Addr) (c : Nat) (l : List Rng) (w : World) (hA : Rngs w w.heap.size A l) (hn : l.length ≤ maxLen) :
    Calls Try.prog 12 #[.slice A l.length c] w fun e w' => e = .returned (meetL l).v ∧ Below w.heap.size w w' := by
  unfold maxLen at hn
  generalize hl : l.length = n at *
  have HL := Lib.hid hl
  have HA := Lib.hid hA
  clear hl hA
  go_enter Try.func12, Try.ntmps12
  go_wp2
  go_loopw [4] (fun i wr => ∃ (k : Nat), i = .int .i64 k ∧ k ≤ n ∧ RBlk wr (w.heap.size + 1) (meetL (l.take k)) ∧ RBlk wr w.heap.size ⟨noS, noS, false⟩ ∧ Below w.heap.size w wr) (fun i _ => (n - intOf i).toNat)
  case atStart => exact ⟨0, rfl, by omega, (by have h := Box.fresh (w.alloc (rcells noS noS false)) 25 #[.string noS, .string noS, .bool true]; simp only [World.alloc, Array.size_push] at h; exact h), Box.push (Box.fresh _ _ _) _, ((Below.refl _ _).alloc (Nat.le_refl _) _).alloc (by simp) _⟩
  case round =>
    obtain ⟨k, rfl, hk, hm, hz, hbr⟩ := hrel
    have hms := Box.lt hm
    by_cases hlt : k < n
    · obtain ⟨ad, rfl, hab, hca⟩ := (HA.out.below hbr).seeR (by rw [HL.out]; omega)
      obtain ⟨c1, c2, c3⟩ := hca k (by rw [HL.out]; omega)
      obtain ⟨x, hx⟩ : ∃ x, x = l[k]'(by rw [HL.out]; omega) := ⟨_, rfl⟩
      rw [← hx] at c1 c2 c3
      have HX := Lib.hid hx
      obtain ⟨m1, m2, m3⟩ := RBlk.cells hm
      have f0 := Box.free hm 0
      have f1 := Box.free hm 1
      have f2 := Box.free hm 2
      have HM := Lib.hid hm
      have HZ := Lib.hid hz
      obtain ⟨m, hmk⟩ : ∃ m, m = meetL (l.take k) := ⟨_, rfl⟩
      rw [← hmk] at m1 m2 m3 HM
      have HMK := Lib.hid hmk.symm
      have HN := Lib.hid (show Norm m by rw [hmk]; exact meetL_norm _)
      have HS := Lib.hid (show meetL (l.take (k + 1)) = meet2 m x by rw [take_foldl l k (by rw [HL.out]; omega), ← hmk, ← hx])
      clear hx hca hm hz hmk
      have hlt3 : (ad.add (k * 3)).block < w.heap.size := by rw [block_of_add]; exact hab
      have hne0 : (ad.add (k * 3)).block ≠ w.heap.size + 1 := by omega
      have hki : (k : Int) < n := by omega
      obtain ⟨xl, xh, xo⟩ := x
      obtain ⟨ml, mh, mo⟩ := m
      simp only at c1 c2 c3 m1 m2 m3
      cases hb1 : (!(Op.bytesLess xl.toList ml.toList || xl.toList == ml.toList)) with
      | true =>
        cases xo with
        | true =>
          have HE := Lib.hid (ref_step (m := ⟨ml, mh, mo⟩) (x := ⟨xl, xh, true⟩) HN.out true false (by rw [← gtr_lt]; exact hb1) (rfl))
          go_wp2
          go_quiet (fail)
          go_wp2
          go_quiet (fail)
          go_wp2
          go_roundw
          case rel =>
            refine ⟨k + 1, by go_num, by omega, ?_, ?_, ?_⟩
            · rw [HS.out, HE.out]
              exact (Box.set HM.out 0 _)
            · exact (Box.away HZ.out (by simp) _)
            · exact (below_drewN ((below_drewN hbr _).setCell (by simp) _) _)
          case measure => simp [intOf]; omega
        | false =>
          cases mo with
          | true =>
            have HE := Lib.hid (ref_step (m := ⟨ml, mh, true⟩) (x := ⟨xl, xh, false⟩) HN.out true true (by rw [← gtr_lt]; exact hb1) (rfl))
            go_wp2
            go_quiet (fail)
            go_wp2
            go_quiet (fail)
            go_wp2
            go_roundw
            case rel =>
              refine ⟨k + 1, by go_num, by omega, ?_, ?_, ?_⟩
              · rw [HS.out, HE.out]
                exact (Box.set (Box.set (Box.set HM.out 0 _) 1 _) 2 _)
              · exact (Box.away (Box.away (Box.away HZ.out (by simp) _) (by simp) _) (by simp) _)
              · exact (((below_drewN ((below_drewN hbr _).setCell (by simp) _) _).setCell (by simp) _).setCell (by simp) _)
            case measure => simp [intOf]; omega
          | false =>
            cases hb2 : Op.bytesLess xh.toList mh.toList with
            | true =>
              have HE := Lib.hid (ref_step (m := ⟨ml, mh, false⟩) (x := ⟨xl, xh, false⟩) HN.out true true (by rw [← gtr_lt]; exact hb1) (by simp only [ltS, hb2]; rfl))
              go_wp2
              go_quiet (fail)
              go_wp2
              go_quiet (fail)
              go_wp2
              go_roundw
              case rel =>
                refine ⟨k + 1, by go_num, by omega, ?_, ?_, ?_⟩
                · rw [HS.out, HE.out]
                  exact (Box.set (Box.set (Box.set HM.out 0 _) 1 _) 2 _)
                · exact (Box.away (Box.away (Box.away HZ.out (by simp) _) (by simp) _) (by simp) _)
                · exact (((below_drewN ((below_drewN hbr _).setCell (by simp) _) _).setCell (by simp) _).setCell (by simp) _)
              case measure => simp [intOf]; omega
            | false =>
              have HE := Lib.hid (ref_step (m := ⟨ml, mh, false⟩) (x := ⟨xl, xh, false⟩) HN.out true false (by rw [← gtr_lt]; exact hb1) (by simp only [ltS, hb2]; rfl))
              go_wp2
              go_quiet (fail)
              go_wp2
              go_quiet (fail)
              go_wp2
              go_roundw
              case rel =>
                refine ⟨k + 1, by go_num, by omega, ?_, ?_, ?_⟩
                · rw [HS.out, HE.out]
                  exact (Box.set HM.out 0 _)
                · exact (Box.away HZ.out (by simp) _)
                · exact (below_drewN ((below_drewN hbr _).setCell (by simp) _) _)
              case measure => simp [intOf]; omega
      | false =>
        cases xo with
        | true =>
          have HE := Lib.hid (ref_step (m := ⟨ml, mh, mo⟩) (x := ⟨xl, xh, true⟩) HN.out false false (by rw [← gtr_lt]; exact hb1) (rfl))
          go_wp2
          go_quiet (fail)
          go_wp2
          go_quiet (fail)
          go_wp2
          go_roundw
          case rel =>
            refine ⟨k + 1, by go_num, by omega, ?_, ?_, ?_⟩
            · rw [HS.out, HE.out]
              exact HM.out
            · exact HZ.out
            · exact (below_drewN hbr _)
          case measure => simp [intOf]; omega
        | false =>
          cases mo with
          | true =>
            have HE := Lib.hid (ref_step (m := ⟨ml, mh, true⟩) (x := ⟨xl, xh, false⟩) HN.out false true (by rw [← gtr_lt]; exact hb1) (rfl))
            go_wp2
            go_quiet (fail)
            go_wp2
            go_quiet (fail)
            go_wp2
            go_roundw
            case rel =>
              refine ⟨k + 1, by go_num, by omega, ?_, ?_, ?_⟩
              · rw [HS.out, HE.out]
                exact (Box.set (Box.set HM.out 1 _) 2 _)
              · exact (Box.away (Box.away HZ.out (by simp) _) (by simp) _)
              · exact (((below_drewN hbr _).setCell (by simp) _).setCell (by simp) _)
            case measure => simp [intOf]; omega
          | false =>
            cases hb2 : Op.bytesLess xh.toList mh.toList with
            | true =>
              have HE := Lib.hid (ref_step (m := ⟨ml, mh, false⟩) (x := ⟨xl, xh, false⟩) HN.out false true (by rw [← gtr_lt]; exact hb1) (by simp only [ltS, hb2]; rfl))
              go_wp2
              go_quiet (fail)
              go_wp2
              go_quiet (fail)
              go_wp2
              go_roundw
              case rel =>
                refine ⟨k + 1, by go_num, by omega, ?_, ?_, ?_⟩
                · rw [HS.out, HE.out]
                  exact (Box.set (Box.set HM.out 1 _) 2 _)
                · exact (Box.away (Box.away HZ.out (by simp) _) (by simp) _)
                · exact (((below_drewN hbr _).setCell (by simp) _).setCell (by simp) _)
              case measure => simp [intOf]; omega
            | false =>
              have HE := Lib.hid (ref_step (m := ⟨ml, mh, false⟩) (x := ⟨xl, xh, false⟩) HN.out false false (by rw [← gtr_lt]; exact hb1) (by simp only [ltS, hb2]; rfl))
              go_wp2
              go_quiet (fail)
              go_wp2
              go_quiet (fail)
              go_wp2
              go_roundw
              case rel =>
                refine ⟨k + 1, by go_num, by omega, ?_, ?_, ?_⟩
                · rw [HS.out, HE.out]
                  exact HM.out
                · exact HZ.out
                · exact (below_drewN hbr _)
              case measure => simp [intOf]; omega
    · have hkn : k = n := by omega
      subst hkn
      rw [List.take_of_length_le (by rw [HL.out]; omega)] at hm
      obtain ⟨m1, m2, m3⟩ := RBlk.cells hm
      have f0 := Box.free hz 0
      have f1 := Box.free hz 1
      have f2 := Box.free hz 2
      obtain ⟨k1, k2, k3⟩ := RBlk.cells hz
      have HM := Lib.hid hm
      have HZ := Lib.hid hz
      obtain ⟨m, hmk⟩ : ∃ m, m = meetL l := ⟨_, rfl⟩
      rw [← hmk] at m1 m2 m3 HM
      have HMK := Lib.hid hmk
      clear hm hz hmk
      go_wp2
      have hp := RBlk.cells (RBlk.put (q := m) HZ.out)
      exact bodyPost_ret (v := m.v) (by simp [results, Try.results12, go_sem, Rng.v, hp.1, hp.2.1, hp.2.2]) rfl ⟨by rw [HMK.out], ((hbr.setCell (by simp) _).setCell (by simp) _).setCell (by simp) _⟩

end Go.Proofs.Ytmbcmacegncnmaa
