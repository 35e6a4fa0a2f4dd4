/- The walks of slices.Clone (of strings, of writes) and of written. -/
import Derived.Test.YtdgjnjhmjgdhnaaDoorWRight
import Derived.Laws.OwnMore
import Derived.Laws.AppendOwnNone
import Derived.Lib.SliceRun
namespace Go.Proofs.YtdgjnjhmjgdhnaaDoor
open Go.RowKit

theorem str_info : (Tryd.prog.info? 9).map (fun i => (i.zero, i.size, i.bytes)) = some (some (.string ⟨#[]⟩), 1, 16) := by kernel_rfl
theorem wr_info : (Tryd.prog.info? 83).map (fun i => (i.zero, i.size, i.bytes)) = some (some (.agg #[.int .i64 0, .string ⟨#[]⟩]), 2, 24) := by kernel_rfl

theorem strs_cells {w : World} {B : Nat} {ad : Addr} {ss : List ByteArray} (h : Strs w B (some ad) ss) : ∀ j u, (ss.map Value.string)[j]? = some u → w.cell? (ad.add j) = some u := by
  intro j u hu
  rw [List.getElem?_map] at hu
  rcases hs : ss[j]? with _ | x
  · rw [hs] at hu; simp at hu
  · rw [hs] at hu
    simp at hu
    subst hu
    obtain ⟨hj, hx⟩ := List.getElem?_eq_some_iff.1 hs
    obtain ⟨ad', e, _, hc⟩ := h (by omega)
    injection e with e
    subst e
    rw [hc j hj, hx]
theorem strs_plain (ss : List ByteArray) : ∀ u ∈ ss.map Value.string, u.oneCell' = true := by
  intro u hu
  obtain ⟨x, _, rfl⟩ := List.mem_map.1 hu
  rfl
theorem strs_none {w : World} {B : Nat} {ss : List ByteArray} (h : Strs w B none ss) : ss = [] := by
  rcases ss with _ | ⟨t, l⟩
  · rfl
  · obtain ⟨_, e, _⟩ := h (by simp)
    cases e
theorem flat_len (W : List Wr) : (W.flatMap Wr.cells).length = W.length * 2 := by
  induction W with
  | nil => rfl
  | cons x W ih => rw [List.flatMap_cons, List.length_append, ih, Wr.cells2, List.length_cons]; omega
theorem wrs_cells {w : World} {B : Nat} {ad : Addr} {W : List Wr} (h : Wrs w B (some ad) W) : ∀ j u, (W.flatMap Wr.cells)[j]? = some u → w.cell? (ad.add j) = some u := by
  intro j u hu
  have hj : j < W.length * 2 := by rw [← flat_len]; exact (List.getElem?_eq_some_iff.1 hu).1
  obtain ⟨ad', e, _, hc⟩ := h (by omega)
  injection e with e
  subst e
  have h1 := flat_get Wr.cells2 W (j / 2) (by omega) (j % 2) (by omega)
  rw [show j / 2 * 2 + j % 2 = j by omega, hu] at h1
  have h2 := hc (j / 2) (by omega) (j % 2) u h1.symm
  rwa [Go.Addr.add_add, show j / 2 * 2 + j % 2 = j by omega] at h2
theorem wrs_plain (W : List Wr) : ∀ u ∈ W.flatMap Wr.cells, u.oneCell' = true := by
  intro u hu
  obtain ⟨x, _, hx⟩ := List.mem_flatMap.1 hu
  unfold Wr.cells at hx
  simp at hx
  rcases hx with rfl | rfl <;> rfl
theorem wrs_none {w : World} {B : Nat} {W : List Wr} (h : Wrs w B none W) : W = [] := by
  rcases W with _ | ⟨t, l⟩
  · rfl
  · obtain ⟨_, e, _⟩ := h (by simp)
    cases e

set_option maxHeartbeats 1000000 in
set_option maxRecDepth 100000 in
theorem clone_str (A : Option Addr) (c : Nat) (S : List ByteArray) (w : World) (hA : Strs w w.heap.size A S) (hn : S.length ≤ 1000000) :
    Calls Tryd.prog 58 #[.slice A S.length c] w fun e w' => ∃ v', e = .returned v' ∧ w'.ownsRow w.heap.size 9 1 v' S.length (S.map Value.string) ∧ Below w.heap.size w w' := by
  have q : ∀ (w : World) (a : Option Addr) (n c n' c' : Nat), (binOp .eql 22 (.slice a n c) (.slice none n' c')).run Tryd.prog w = .ok (.bool a.isNone) w := fun w a n c n' c' => Lib.run_eql_slice_nil w _ _ a n c n' c' Tryd.underlying22
  rcases A with _ | ad
  · obtain rfl := strs_none hA
    clear hA
    go_enter Tryd.func58, Tryd.ntmps58
    go_wp2
    go_ret
    exact ⟨_, rfl, World.ownsRow_nil _ _ _ _, Below.refl _ _⟩
  · obtain ⟨i0, hi0, hz0, hz1, hz2⟩ := info_parts str_info
    have HC := Lib.hid (strs_cells hA)
    generalize hs : S.length = n at *
    have HS := Lib.hid hs
    clear hs hA
    go_enter Tryd.func58, Tryd.ntmps58
    go_wp2_with (at_builtin; refine wpList_append_own _ rfl _ _ 22 rfl w.heap.size 9 i0 (.string ⟨#[]⟩) 1 16 Tryd.underlying22 hi0 hz0 hz1 hz2 rfl (by decide) _ _ _ rfl (World.ownsRow_made w #[] 0 (Nat.le_refl _) (Nat.zero_le _) rfl) ad n c (S.map Value.string) rfl (by rw [List.length_map, HS.out, Nat.mul_one]) ?c1 (strs_plain S) ?c3 ?c4 ?c5 ?_)
    case c1 =>
      intro j u hu
      have h1 := HC.out j u hu
      exact ((Below.refl _ w).alloc (Nat.le_refl _) _).cell (lt_of_cell h1) |>.trans h1
    case c3 => unfold maxLen; omega
    case c4 => omega
    case c5 => simp
    intro v' w1 hown hgrow _
    go_wp2
    go_ret
    exact ⟨v', rfl, by simpa using hown, ((Below.refl _ w).alloc (Nat.le_refl _) _).grown hgrow (by simp) (by intro k hk; simp [Value.ownBlock] at hk; omega)⟩

set_option maxHeartbeats 1000000 in
set_option maxRecDepth 100000 in
theorem clone_wr (A : Option Addr) (c : Nat) (W : List Wr) (w : World) (hA : Wrs w w.heap.size A W) (hn : W.length ≤ 1000000) :
    Calls Tryd.prog 57 #[.slice A W.length c] w fun e w' => ∃ v', e = .returned v' ∧ w'.ownsRow w.heap.size 83 2 v' W.length (W.flatMap Wr.cells) ∧ Below w.heap.size w w' := by
  have q : ∀ (w : World) (a : Option Addr) (n c n' c' : Nat), (binOp .eql 34 (.slice a n c) (.slice none n' c')).run Tryd.prog w = .ok (.bool a.isNone) w := fun w a n c n' c' => Lib.run_eql_slice_nil w _ _ a n c n' c' Tryd.underlying34
  rcases A with _ | ad
  · obtain rfl := wrs_none hA
    clear hA
    go_enter Tryd.func57, Tryd.ntmps57
    go_wp2
    go_ret
    exact ⟨_, rfl, World.ownsRow_nil _ _ _ _, Below.refl _ _⟩
  · obtain ⟨i0, hi0, hz0, hz1, hz2⟩ := info_parts wr_info
    have HC := Lib.hid (wrs_cells hA)
    generalize hs : W.length = n at *
    have HS := Lib.hid hs
    clear hs hA
    go_enter Tryd.func57, Tryd.ntmps57
    go_wp2_with (at_builtin; refine wpList_append_own _ rfl _ _ 34 rfl w.heap.size 83 i0 (.agg #[.int .i64 0, .string ⟨#[]⟩]) 2 24 Tryd.underlying34 hi0 hz0 hz1 hz2 rfl (by decide) _ _ _ rfl (World.ownsRow_made w #[] 0 (Nat.le_refl _) (Nat.zero_le _) rfl) ad n c (W.flatMap Wr.cells) rfl (by rw [flat_len, HS.out]) ?c1 (wrs_plain W) ?c3 ?c4 ?c5 ?_)
    case c1 =>
      intro j u hu
      have h1 := HC.out j u hu
      exact ((Below.refl _ w).alloc (Nat.le_refl _) _).cell (lt_of_cell h1) |>.trans h1
    case c3 => unfold maxLen; omega
    case c4 => omega
    case c5 => simp
    intro v' w1 hown hgrow _
    go_wp2
    go_ret
    exact ⟨v', rfl, by simpa using hown, ((Below.refl _ w).alloc (Nat.le_refl _) _).grown hgrow (by simp) (by intro k hk; simp [Value.ownBlock] at hk; omega)⟩

theorem own_shape {w : World} {base n k : Nat} {e : TypeId} {v : Value} {xs : List Value} (h : w.ownsRow base e k v n xs) : ∃ A c, v = .slice A n c := by
  rcases h.2 with ⟨hv, h0⟩ | ⟨g, cap, cur, hv, _⟩
  · exact ⟨_, _, by rw [hv, h0]⟩
  · exact ⟨_, _, hv⟩
theorem own_below {w w' : World} {base n k : Nat} {e : TypeId} {v : Value} {xs : List Value} (h : w.ownsRow base e k v n xs) (hb : Below w.heap.size w w') : w'.ownsRow base e k v n xs := by
  obtain ⟨A, c, rfl⟩ := own_shape h
  exact h.kept (row := .none) ⟨hb.os, hb.tape, hb.output, hb.size, fun k hk _ => hb.block k hk⟩ (by cases A <;> simp [Value.ownBlock])

set_option maxHeartbeats 1000000 in
/-- What is written: a row of its own, that holds the sectors behind the writes. -/
theorem written_any (A : Option Addr) (c : Nat) (S : List ByteArray) (B : Option Addr) (d : Nat) (W : List Wr) (w : World) (hA : Strs w w.heap.size A S) (hB : Wrs w w.heap.size B W) (hn : S.length ≤ 1000000) (hm : W.length ≤ 1000000) (hn0 : 1 ≤ S.length)
    (hW : ∀ x ∈ W, 0 ≤ x.a ∧ x.a < S.length) :
    Calls Tryd.prog 47 #[.slice A S.length c, .slice B W.length d] w fun e w' =>
      ∃ g cap, e = .returned (.slice (some ⟨g, 0, none⟩) S.length cap) ∧ w'.ownsRow w.heap.size 9 1 (.slice (some ⟨g, 0, none⟩) S.length cap) S.length ((doneL S W).map Value.string) ∧ Below w.heap.size w w' := by
  have hcl := clone_str A c S w hA hn
  generalize hs : S.length = n at *
  generalize hl : W.length = m at *
  have HL := Lib.hid hl
  have HS := Lib.hid hs
  have HB := Lib.hid hB
  have HW := Lib.hid hW
  clear hl hB hA hs hW
  go_enter Tryd.func47, Tryd.ntmps47
  go_wp2_with fail
  refine hcl.mono ?_
  clear hcl
  rintro e w1 ⟨v1, rfl, hown, hb1⟩
  obtain ⟨g, cap, rfl⟩ := Joins.ownsRow_form hown (by omega)
  have hnl : S.map Value.string = (doneL S (W.take 0)).map Value.string := rfl
  rw [hnl] at hown
  have HO := Lib.hid hown
  clear hown hnl
  go_wp2
  go_loopw [12] (fun i wr => ∃ (k : Nat), i = .int .i64 k ∧ k ≤ m ∧ wr.ownsRow w.heap.size 9 1 (.slice (some ⟨g, 0, none⟩) n cap) n ((doneL S (W.take k)).map Value.string) ∧ Below w.heap.size w wr) (fun i _ => (m - intOf i).toNat)
  case atStart => exact ⟨0, rfl, by omega, HO.out, hb1⟩
  case round =>
    obtain ⟨k, rfl, hk, hown, hbr⟩ := hrel
    by_cases hlt : k < m
    · obtain ⟨ad, rfl, hab, hca⟩ := (HB.out.below hbr).seeW (by rw [HL.out]; omega)
      obtain ⟨x1, x2⟩ := hca k (by rw [HL.out]; omega)
      have HT := Lib.hid (done_take S W k (by rw [HL.out]; omega))
      have hx := HW.out (W[k]'(by rw [HL.out]; omega)) (List.getElem_mem _)
      generalize W[k]'(by rw [HL.out]; omega) = x at *
      obtain ⟨xa, xt⟩ := x
      simp only at x1 x2 hx
      clear hca
      obtain ⟨j, rfl⟩ := Int.eq_ofNat_of_zero_le hx.1
      have hj : j < n := by omega
      simp only [Int.toNat_natCast] at HT
      have hlt3 : (ad.add (k * 2)).block < w.heap.size := by rw [block_of_add]; exact hab
      have hlg := (hown.lt g rfl).2
      have hge := (hown.lt g rfl).1
      have hfz := hown.frozenAt j
      have hcj := hown.cellAt j (by omega)
      have hsome : j < ((doneL S (W.take k)).map Value.string).length := by rw [List.length_map, done_len, HS.out]; exact hj
      rw [List.getElem?_eq_getElem hsome, List.getElem_map] at hcj
      obtain ⟨ho3, hg3⟩ := hown.stored j (.string xt)
      rw [show ((doneL S (W.take k)).map Value.string).set j (.string xt) = (doneL S (W.take (k + 1))).map Value.string by rw [HT.out, List.map_set]] at ho3
      have HO3 := Lib.hid ho3
      have HB2 := Lib.hid (show Below w.heap.size w (wr.setCell ⟨g, j, none⟩ (.string xt)) from hbr.setCell hge _)
      generalize (doneL S (W.take k))[j]'_ = old at hcj
      clear hown hx ho3 hg3 hsome
      go_wp2
      go_roundw
      case rel => exact ⟨k + 1, by go_num, by omega, by simpa [Addr.add] using HO3.out.alloc _, by simpa [Addr.add] using HB2.out.alloc HB2.out.size _⟩
      case measure => simp [intOf]; omega
    · have HE := Lib.hid (show wr.ownsRow w.heap.size 9 1 (.slice (some ⟨g, 0, none⟩) n cap) n ((doneL S W).map Value.string) by rwa [List.take_of_length_le (by rw [HL.out]; omega)] at hown)
      clear hown
      go_wp2
      go_ret
      exact ⟨g, cap, rfl, HE.out, hbr⟩

end Go.Proofs.YtdgjnjhmjgdhnaaDoor
