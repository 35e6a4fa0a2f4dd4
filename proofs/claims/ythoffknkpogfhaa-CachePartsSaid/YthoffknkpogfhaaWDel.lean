/- The walk of slices.Delete of one item, in a row of the call's own. -/
import Derived.Test.YthoffknkpogfhaaRw
import Derived.StillTailTactics
import Derived.Lib.SliceRun
import Derived.Lib.Walk
import Derived.Lib.Hide
set_option linter.unusedVariables false
set_option linter.unusedSimpArgs false
namespace Go.Proofs.Ythoffknkpogfhaa
open Go.RowKit

theorem erase_flat (l : List It) (i : Nat) : (l.eraseIdx i).flatMap It.cells = (l.flatMap It.cells).take (i * 3) ++ (l.flatMap It.cells).drop ((i + 1) * 3) := by
  rw [List.eraseIdx_eq_take_drop_succ, List.flatMap_append]
  have h : ∀ k, (l.take k).flatMap It.cells = (l.flatMap It.cells).take (k * 3) ∧ (l.drop k).flatMap It.cells = (l.flatMap It.cells).drop (k * 3) := by
    intro k
    have e : l.flatMap It.cells = (l.take k).flatMap It.cells ++ (l.drop k).flatMap It.cells := by rw [← List.flatMap_append, List.take_append_drop]
    rcases Nat.lt_or_ge l.length k with hk | hk
    · rw [List.take_of_length_le (by omega), List.drop_of_length_le (by omega), List.take_of_length_le (by rw [its_len]; omega), List.drop_of_length_le (by rw [its_len]; omega)]
      exact ⟨rfl, rfl⟩
    · have h2 : ((l.take k).flatMap It.cells).length = k * 3 := by rw [its_len, List.length_take]; omega
      constructor
      · rw [e, ← h2, List.take_left]
      · rw [e, ← h2, List.drop_left]
  rw [(h i).1, (h (i + 1)).2]

theorem zero_three : (Builtin.zeroCells (Value.cells (.agg #[.int .i64 0, .string ⟨#[]⟩, .bool false])) 1).toList = [.int .i64 0, .string ⟨#[]⟩, .bool false] := by kernel_rfl
/-- What the two operations make of the row. -/
theorem del_runs (w : World) (base g c i : Nat) (l : List It) (C : Array Value) (h : OwnR w base 27 g c l.length (l.flatMap It.cells) C) (hi : i < l.length) (A : Addr) (hA : A = if c = i + 1 then ⟨g, 0, none⟩ else ⟨g, (i + 1) * 3, none⟩) :
    ∃ W1 W2 D, (∀ ty cc, (Builtin.append_ #[22, 22] ty #[.slice (some ⟨g, 0, none⟩) i c, .slice (some A) (l.length - (i + 1)) cc]).run Try.prog w.drew = .ok (.slice (some ⟨g, 0, none⟩) (i + (l.length - (i + 1))) c) W1) ∧
      (∀ ty cc, (Builtin.clear_ #[22] ty #[.slice (some ⟨g, (l.length - 1) * 3, none⟩) 1 cc]).run Try.prog W1 = .ok (.tuple #[]) W2) ∧
      OwnR W2 base 27 g c (l.length - 1) ((l.eraseIdx i).flatMap It.cells) D ∧ w.grownBy W2 (some g) := by
  obtain ⟨i0, hi0, hz0, hz1, hz2⟩ := info_parts item_info
  obtain ⟨xs, hxs⟩ : ∃ xs, xs = l.flatMap It.cells := ⟨_, rfl⟩
  have hn : xs.length = l.length * 3 := by rw [hxs, its_len]
  have hpl : ∀ u ∈ xs, u.oneCell' = true := by rw [hxs]; exact its_plain l
  rw [erase_flat, ← hxs]
  rw [← hxs] at h
  clear hxs
  generalize l.length = n at *
  have hd : OwnR w.drew base 27 g c n xs C := ⟨h.box, h.low, h.fit, h.max, h.size, h.len, h.take⟩
  have hfit := h.fit
  have hf : w.drew.ownsRow base 27 3 (.slice (some ⟨g, 0, none⟩) i c) i (xs.take (i * 3)) := by
    refine own_front (m := n - i) ?_ (by rw [List.length_take]; omega) (news := xs.drop (i * 3))
    rw [List.take_append_drop, show i + (n - i) = n by omega]
    exact hd.own
  obtain ⟨W1, r1, o1, g1⟩ := run_append_fits (P := Try.prog) w.drew base 22 0 27 i0 3 Try.underlying22 hi0 hz1 g i c (xs.take (i * 3)) hf A (n - (i + 1)) 0 (xs.drop ((i + 1) * 3))
    (by rw [List.length_drop, hn]; omega) (fun j u hu => by
      have hj := (List.getElem?_eq_some_iff.1 hu).1
      rw [List.length_drop, hn] at hj
      rw [hA, if_neg (by omega), Addr.add_lit]
      rw [List.getElem?_drop] at hu
      exact hd.cell hu) (fun u hu => hpl u (List.mem_of_mem_drop hu)) (by omega)
  have hin : i + (n - (i + 1)) = n - 1 := by omega
  rcases own_open o1 with ⟨e, _⟩ | ⟨g', c', D, e, hD⟩
  · cases e
  injection e with e1 e2 e3
  injection e1 with e1
  injection e1 with e1 _ _
  subst e1 e3
  have hsz : (Builtin.zeroCells (Value.cells (.agg #[.int .i64 0, .string ⟨#[]⟩, .bool false])) 1).size = 3 := by kernel_rfl
  have r2 := fun ty cc => run_clear_k (P := Try.prog) W1 22 27 ty _ Try.underlying22 Try.zeroValue27 g ((n - 1) * 3) 1 cc D 27 (by decide) hD.box (by rw [hsz, hD.size]; omega) (by rw [zero_three]; intro v hv; simp at hv; rcases hv with rfl | rfl | rfl <;> rfl)
  refine ⟨W1, _, _, fun ty cc => ?_, r2, ⟨box_setRow hD.box _, hD.low, by omega, hD.max, ?_, ?_, ?_⟩, grown_trans (grown_trans (grown_drew w _) g1) (grown_setRow _ _ _)⟩
  · exact r1
  · have h5 := hD.size
    simp only [List.size_toArray, List.length_append, List.length_take, List.length_drop, Array.length_toList, hsz]
    omega
  · simp; omega
  · have h6 := hD.take
    rw [hin] at h6
    rw [List.append_assoc, List.take_append_of_le_length (by rw [List.length_take, Array.length_toList, hD.size]; omega), List.take_take, Nat.min_self]
    exact h6

set_option maxHeartbeats 2000000 in
set_option maxRecDepth 100000 in
theorem del_own (w : World) (base g c i n : Nat) (l : List It) (C : Array Value) (h : OwnR w base 27 g c l.length (l.flatMap It.cells) C) (hn : l.length = n) (hi : i < n) (j : Nat) (hj : j = i + 1) :
    Calls Try.prog 31 #[.slice (some ⟨g, 0, none⟩) n c, .int .i64 i, .int .i64 j] w fun e w' => ∃ D, e = .returned (.slice (some ⟨g, 0, none⟩) (n - 1) c) ∧ OwnR w' base 27 g c (n - 1) ((l.eraseIdx i).flatMap It.cells) D ∧ w.grownBy w' (some g) := by
  obtain ⟨A, hA⟩ : ∃ A : Addr, A = if c = i + 1 then ⟨g, 0, none⟩ else ⟨g, (i + 1) * 3, none⟩ := ⟨_, rfl⟩
  have hfit := h.fit
  obtain ⟨W1, W2, D, r1, r2, hD, hg⟩ := del_runs w base g c i l C h (by omega) A hA
  rw [hn] at *
  have HR := Lib.hid (show _ ∧ _ from ⟨hD, hg⟩)
  rw [← hj] at hA r1
  have hij : ¬ ((i : Int) = (j : Int)) := by omega
  have hij1 : i ≤ j := by omega
  have hjn : j ≤ n := by omega
  have hic : i ≤ c := by omega
  have hjc : j ≤ c := by omega
  have hin : i ≤ n := by omega
  have hn0 : n - 1 ≤ n := by omega
  have hm : i + (n - j) = n - 1 := by omega
  rw [hm] at r1
  have hcb : ¬ c = n - 1 := by omega
  have hn1 : n - (n - 1) = 1 := by omega
  have hnc : n ≤ c := hfit
  have hcm := h.max
  unfold maxLen at hcm
  have hni : IntKind.i64.wrap (n : Int) = n := by rw [IntKind.wrap_i64]; omega
  have hci : ¬ c = i := by omega
  clear h hD hg hj hi hm hfit
  by_cases hcc : c = j
  · rw [if_pos hcc] at hA
    subst hA hcc
    rw [show n - c = 0 by omega] at r1
    go_enter Try.func31, Try.ntmps31
    go_wp2
    go_region_law (refine step_append_runI rfl (.tmp 22) (.tmp 25) 22 22 rfl (.slice (some ⟨g, 0, none⟩) i c) (.slice (some ⟨g, 0, none⟩) 0 0) (by simp [Act.eval, Act.put]) (by simp [Act.eval, Act.put]) (r1 _ _) ?_)
    go_wp2
    go_ret
    exact ⟨D, rfl, HR.out.1, HR.out.2⟩
  · rw [if_neg hcc] at hA
    subst hA
    go_enter Try.func31, Try.ntmps31
    go_wp2
    go_region_law (refine step_append_runI rfl (.tmp 22) (.tmp 25) 22 22 rfl (.slice (some ⟨g, 0, none⟩) i c) (.slice (some ⟨g, j * 3, none⟩) (n - j) (c - j)) (by simp [Act.eval, Act.put]) (by simp [Act.eval, Act.put]) (r1 _ _) ?_)
    go_wp2
    go_ret
    exact ⟨D, rfl, HR.out.1, HR.out.2⟩

end Go.Proofs.Ythoffknkpogfhaa
