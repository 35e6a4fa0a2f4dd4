/- The walk of the document's Newest. -/
import Derived.Test.YtidigbjlglomhaaWSince
set_option linter.unusedVariables false
set_option linter.unusedSimpArgs false
namespace Go.Proofs.Ytidigbjlglomhaa
open Go.RowKit

/-- Is a change old, as far as one has looked? -/
def oldTo (l : List Ch) (s : Int) (c : Ch) (i j : Nat) : Bool := ((l.take j).drop (i + 1)).any fun d => decide (d.key = c.key) && decide (d.seq ≤ s)
theorem oldTo_start (l : List Ch) (s : Int) (c : Ch) (i : Nat) : oldTo l s c i (i + 1) = false := by
  unfold oldTo
  rw [List.drop_of_length_le (by simp; omega)]
  rfl
theorem oldTo_step {l : List Ch} {s : Int} {c : Ch} {i j : Nat} (hj : j < l.length) (hij : i + 1 ≤ j) : oldTo l s c i (j + 1) = (oldTo l s c i j || (decide (l[j].key = c.key) && decide (l[j].seq ≤ s))) := by
  unfold oldTo
  rw [take_snoc hj, List.drop_append_of_le_length (by simp; omega), List.any_append]
  simp
theorem oldTo_end {l : List Ch} (h : Trail l) (s : Int) {i : Nat} (hi : i < l.length) : oldTo l s l[i] i l.length = decide (OldC l s l[i]) := by
  unfold oldTo
  rw [List.take_of_length_le (Nat.le_refl _), Bool.eq_iff_iff, List.any_eq_true, decide_eq_true_eq]
  unfold OldC
  constructor
  · rintro ⟨d, hd, h1⟩
    simp only [Bool.and_eq_true, decide_eq_true_eq] at h1
    obtain ⟨j, hj, rfl⟩ := List.getElem_of_mem hd
    rw [List.length_drop] at hj
    rw [List.getElem_drop] at h1
    exact ⟨_, List.getElem_mem _, h1.1, List.pairwise_iff_getElem.1 h.2 i (i + 1 + j) hi (by omega) (by omega), h1.2⟩
  · rintro ⟨d, hd, hk, h1, h2⟩
    obtain ⟨j, hj, rfl⟩ := List.getElem_of_mem hd
    have hij : i < j := by
      rcases Nat.lt_trichotomy i j with h3 | h3 | h3
      · exact h3
      · subst h3; omega
      · have := List.pairwise_iff_getElem.1 h.2 j i hj hi h3; omega
    refine ⟨l[j], ?_, by simp [hk, h2]⟩
    rw [List.mem_iff_getElem]
    exact ⟨j - (i + 1), by simp; omega, by rw [List.getElem_drop]; congr 1; omega⟩
theorem key_eq (a b : ByteArray) : (a.toList == b.toList) = decide (a = b) := by
  rw [Bool.eq_iff_iff, beq_iff_eq, decide_eq_true_iff]
  exact ⟨tl_inj, fun e => by rw [e]⟩

set_option maxRecDepth 100000 in
set_option maxHeartbeats 8000000 in
theorem dnewest_v {v : Value} {l : List Ch} (s : Int) {w : World} (h : CV w v l) (hn : l.length ≤ 1000) (ht : Trail l) :
    Calls Try.prog 20 #[v, .int .i64 s] w fun e w' => ∃ v', e = .returned v' ∧ CV w' v' (newestL l s) ∧ Below w.heap.size w w' := by
  rw [newest_eq ht]
  obtain ⟨A, c, rfl, hA, _⟩ := h
  obtain ⟨n, hl⟩ : ∃ n, l.length = n := ⟨_, rfl⟩
  rw [hl] at hn ⊢
  have HL := Lib.hid hl
  have HA := Lib.hid hA
  have HT := Lib.hid ht
  obtain ⟨p, hp⟩ : ∃ p : Ch → Bool, p = fun c => decide (¬ OldC l s c) := ⟨_, rfl⟩
  rw [← hp]
  have HP := Lib.hid hp
  clear hl hA ht hp
  go_enter Try.func20, Try.ntmps20
  go_wp2
  go_loopw [5, 6] (fun v i wr => ∃ (k m : Nat), i = .int .i64 k ∧ k ≤ n ∧ Hid (m = ((l.take k).filter p).length ∧ m ≤ k) ∧ Hid (wr.ownsRow w.heap.size 30 6 v m (((l.take k).filter p).flatMap Ch.cells)) ∧ Below w.heap.size w wr) (fun _ i _ => (n - intOf i).toNat)
  case atStart => exact ⟨0, 0, rfl, by omega, (show _ ∧ _ from ⟨rfl, by omega⟩), (show World.ownsRow _ _ _ _ _ _ _ from World.ownsRow_nil _ _ _ _), Below.refl _ _⟩
  case round =>
    obtain ⟨k, m, rfl, hk, HM, HO, hbr⟩ := hrel
    obtain ⟨A2, c2, rfl⟩ := own_shape HO.out
    have hbs := hbr.size
    by_cases hlt : k < n
    · have hkl : k < l.length := by rw [HL.out]; exact hlt
      obtain ⟨x, hx⟩ : ∃ x, x = l[k]'hkl := ⟨_, rfl⟩
      have HTF := Lib.hid (filter_take p l hkl)
      have HX := Lib.hid hx
      have HST := Lib.hid (oldTo_start l s x k)
      obtain ⟨wo, hwo⟩ : ∃ wo, wo = wr := ⟨_, rfl⟩
      have HBO := Lib.hid (show Below w.heap.size w wo from by rw [hwo]; exact hbr)
      have HOO := Lib.hid (show World.ownsRow wo w.heap.size 30 6 (.slice A2 m c2) m (((l.take k).filter p).flatMap Ch.cells) from by rw [hwo]; exact HO.out)
      rw [← hwo]
      clear hx hwo hbr HO hbs
      go_wp2
      go_loopw [7, 8] (fun o j wr => ∃ (q : Nat) (b : Bool), j = .int .i64 q ∧ k + 1 ≤ q ∧ q ≤ n ∧ o = .bool b ∧ Hid (b = oldTo l s x k q) ∧ Below wo.heap.size wo wr) (fun _ j _ => (n - intOf j).toNat)
      case atStart => exact ⟨k + 1, false, by go_num, by omega, by omega, rfl, HST.out.symm, Below.refl _ _⟩
      case round =>
        obtain ⟨q, b, rfl, hkq, hqn, rfl, HOLD, hbq⟩ := hrel
        have HBQ := Lib.hid hbq
        have HBW := Lib.hid (HBO.out.trans (hbq.mono HBO.out.size))
        by_cases hqt : q < n
        · have hql : q < l.length := by rw [HL.out]; exact hqt
          obtain ⟨ad, rfl, hab, hca⟩ := (HA.out.below HBW.out).seeC (by rw [HL.out]; omega)
          obtain ⟨_, c1, _, _, _, _⟩ := hca k hkl
          obtain ⟨d0, d1, _, _, _, _⟩ := hca q hql
          obtain ⟨y, hy⟩ : ∃ y, y = l[q]'hql := ⟨_, rfl⟩
          rw [← HX.out] at c1
          have HSTEP := Lib.hid (oldTo_step (s := s) (c := x) hql hkq)
          rw [← hy] at d0 d1 HSTEP
          clear hy hca hab hbq
          obtain ⟨ys, yk, yh, yb, yg, ya⟩ := y
          simp only at d0 d1 HSTEP
          obtain ⟨xk, hxk⟩ : ∃ xk, xk = x.key := ⟨_, rfl⟩
          rw [← hxk] at c1 HSTEP
          have HXK := Lib.hid hxk
          clear hxk
          rcases he : (yk.toList == xk.toList) with _ | _
          · have HN := Lib.hid (show b = oldTo l s x k (q + 1) from by rw [HSTEP.out, ← key_eq, he, ← HOLD.out]; simp)
            clear HSTEP
            go_wp2
            go_quiet (fail)
            go_wp2
            go_roundw
            case rel => exact ⟨q + 1, b, by go_num, by omega, by omega, rfl, HN, below_drewN HBQ.out _⟩
            case measure => simp [intOf]; omega
          · by_cases hs : ys ≤ s
            · have hd : decide (ys ≤ s) = true := decide_eq_true hs
              have HN := Lib.hid (show true = oldTo l s x k (q + 1) from by rw [HSTEP.out, ← key_eq, he, hd]; simp)
              clear HSTEP hs
              go_wp2
              go_quiet (fail)
              go_wp2
              go_roundw
              case rel => exact ⟨q + 1, true, by go_num, by omega, by omega, rfl, HN, below_drewN HBQ.out _⟩
              case measure => simp [intOf]; omega
            · have hd : decide (ys ≤ s) = false := decide_eq_false hs
              have HN := Lib.hid (show b = oldTo l s x k (q + 1) from by rw [HSTEP.out, ← key_eq, he, hd, ← HOLD.out]; simp)
              clear HSTEP hs
              go_wp2
              go_quiet (fail)
              go_wp2
              go_roundw
              case rel => exact ⟨q + 1, b, by go_num, by omega, by omega, rfl, HN, below_drewN HBQ.out _⟩
              case measure => simp [intOf]; omega
        · have hqe : q = n := by omega
          have HB := Lib.hid (show p x = !b from by
            rw [HP.out, HOLD.out, HX.out, hqe, ← HL.out, oldTo_end HT.out s hkl]
            simp)
          have HOZ := Lib.hid (own_on HOO.out hbq)
          rw [← HX.out] at HTF
          clear hqe hbq
          cases b with
          | true =>
            have HF := Lib.hid (show (l.take (k + 1)).filter p = (l.take k).filter p from by rw [HTF.out, HB.out]; simp)
            have h8 := HBW.out
            go_wp2
            go_roundw
            case rel => exact ⟨k + 1, m, by go_num, by omega, (show _ ∧ _ from by rw [HF.out]; exact ⟨HM.out.1, by have := HM.out.2; omega⟩), (show World.ownsRow _ _ _ _ _ _ _ from by rw [HF.out]; exact HOZ.out), h8⟩
            case measure => simp [intOf]; omega
          | false =>
            have HF := Lib.hid (show (l.take (k + 1)).filter p = (l.take k).filter p ++ [x] from by rw [HTF.out, HB.out]; simp)
            obtain ⟨ad, rfl, hab, hca⟩ := (HA.out.below HBW.out).seeC (by rw [HL.out]; omega)
            obtain ⟨y0, y1, y2, y3, y4, y5⟩ := hca k hkl
            rw [← HX.out] at y0 y1 y2 y3 y4 y5
            clear hca hab
            obtain ⟨xs, xk, xh, xb, xg, xa⟩ := x
            simp only at y0 y1 y2 y3 y4 y5
            have own := HOZ.out
            have h8 := HBW.out
            have h8s := h8.size
            go_wp2_with (at_builtin; refine append_change _ rfl _ _ rfl w.heap.size _ m (((l.take k).filter p).flatMap Ch.cells) rfl (own.alloc _) (wr.heap.size + 1) wr.heap.size ⟨xs, xk, xh, xb, xg, xa⟩ rfl ?a1 ?a2 ?a3 ?_)
            case a1 => exact Lies.lit Ch.cells6 rfl
            case a2 => have := HM.out.2; omega
            case a3 => first | omega | (simp; omega)
            intro v' w5 hown5 hg5 hat
            have hk5 : ∀ k, Value.ownBlock _ = some k → w.heap.size ≤ k := fun k hk => (own_lt own hk).1
            have hb5 : Below w.heap.size w w5 := (h8.alloc h8s _).grown hg5 (by simp; omega) hk5
            have H5 := Lib.hid (row_step hown5 HF.out)
            have HM5 := Lib.hid (show m + 1 = ((l.take (k + 1)).filter p).length ∧ m + 1 ≤ k + 1 from ⟨by rw [HF.out, List.length_append, ← HM.out.1]; rfl, by have := HM.out.2; omega⟩)
            clear own hown5 hg5 hat hk5 y0 y1 y2 y3 y4 y5 h8 h8s
            go_wp2
            go_roundw
            case rel => exact ⟨k + 1, m + 1, by go_num, by omega, HM5, H5, hb5⟩
            case measure => simp [intOf]; omega
    · have hkn : k = n := by omega
      have HRES := Lib.hid (show (l.take k).filter p = l.filter p from by rw [List.take_of_length_le (by rw [HL.out]; omega)])
      clear hkn
      go_wp2
      go_ret
      exact ⟨_, rfl, by rw [← HRES.out]; exact CV.own HO.out HM.out.1, hbr⟩

end Go.Proofs.Ytidigbjlglomhaa
