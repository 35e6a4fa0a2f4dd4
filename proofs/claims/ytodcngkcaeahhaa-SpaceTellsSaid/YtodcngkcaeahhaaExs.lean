/- Slices of extents that read as lists, the program's and the document's alike; the walks of slices.Clone and of sorted. -/
import Derived.Test.YtodcngkcaeahhaaSp
import Derived.Test.YtodcngkcaeahhaaLies
import Derived.Test.YtodcngkcaeahhaaBox
import Derived.Test.YtodcngkcaeahhaaLay
import Derived.Test.YtodcngkcaeahhaaRows
import Derived.Lib.Hide
import Derived.Laws.OwnMore
import Derived.Laws.AppendOwnNone
import Derived.Lib.SliceRun
import Derived.Lib.SmallJoins
namespace Go.Proofs.Ytodcngkcaeahhaa
open Go.RowKit

def Ex.cells (x : Ex) : List Value := [.int .i64 x.a, .int .i64 x.n]
theorem Ex.cells2 (x : Ex) : x.cells.length = 2 := rfl
/-- The slice value '.slice A l.length c' holds the extents l. -/
abbrev Exs (w : World) (B : Nat) (A : Option Addr) (l : List Ex) : Prop := Lies Ex.cells 2 w B A l
theorem Lies.seeE {w : World} {B : Nat} {A : Option Addr} {l : List Ex} (h : Exs w B A l) (hl : 0 < l.length) : ∃ ad, A = some ad ∧ ad.block < B ∧ ∀ (i : Nat) (h : i < l.length),
    w.cell? (ad.add (i * 2)) = some (.int .i64 l[i].a) ∧ w.cell? ⟨(ad.add (i * 2)).block, (ad.add (i * 2)).off + 1, none⟩ = some (.int .i64 l[i].n) := by
  obtain ⟨ad, e, hB, hc⟩ := h hl
  refine ⟨ad, e, hB, fun i hi => ⟨?_, ?_⟩⟩
  · have := hc i hi 0 _ rfl; rwa [Addr.add_zero'] at this
  · have := hc i hi 1 _ rfl; rwa [Addr.add_succ'] at this

theorem info_parts {P : Program} {t : TypeId} {z : Option Value} {s b : Nat} (h : (P.info? t).map (fun i => (i.zero, i.size, i.bytes)) = some (z, s, b)) : ∃ i, P.info? t = some i ∧ i.zero = z ∧ i.size = s ∧ i.bytes = b := by
  rcases hi : P.info? t with _ | i
  · rw [hi] at h; simp at h
  · rw [hi] at h; simp at h; exact ⟨i, rfl, h.1, h.2.1, h.2.2⟩
theorem ex_info : (Try.prog.info? 27).map (fun i => (i.zero, i.size, i.bytes)) = some (some (.agg #[.int .i64 0, .int .i64 0]), 2, 16) := by kernel_rfl
theorem rx_info : (Try.prog.info? 34).map (fun i => (i.zero, i.size, i.bytes)) = some (some (.agg #[.int .i64 0, .int .i64 0]), 2, 16) := by kernel_rfl

theorem flat_len (W : List Ex) : (W.flatMap Ex.cells).length = W.length * 2 := by
  induction W with
  | nil => rfl
  | cons x W ih => rw [List.flatMap_cons, List.length_append, ih, Ex.cells2, List.length_cons]; omega
theorem exs_cells {w : World} {B : Nat} {ad : Addr} {W : List Ex} (h : Exs w B (some ad) W) : ∀ j u, (W.flatMap Ex.cells)[j]? = some u → w.cell? (ad.add j) = some u := by
  intro j u hu
  have hj : j < W.length * 2 := by rw [← flat_len]; exact (List.getElem?_eq_some_iff.1 hu).1
  obtain ⟨ad', e, _, hc⟩ := h (by omega)
  injection e with e
  subst e
  have h1 := flat_get Ex.cells2 W (j / 2) (by omega) (j % 2) (by omega)
  rw [show j / 2 * 2 + j % 2 = j by omega, hu] at h1
  have h2 := hc (j / 2) (by omega) (j % 2) u h1.symm
  rwa [Go.Addr.add_add, show j / 2 * 2 + j % 2 = j by omega] at h2
theorem exs_plain (W : List Ex) : ∀ u ∈ W.flatMap Ex.cells, u.oneCell' = true := by
  intro u hu
  obtain ⟨x, _, hx⟩ := List.mem_flatMap.1 hu
  unfold Ex.cells at hx
  simp at hx
  rcases hx with rfl | rfl <;> rfl
theorem exs_none {w : World} {B : Nat} {W : List Ex} (h : Exs w B none W) : W = [] := by
  rcases W with _ | ⟨t, l⟩
  · rfl
  · obtain ⟨_, e, _⟩ := h (by simp)
    cases e
theorem own_shape {w : World} {base n k : Nat} {e : TypeId} {v : Value} {xs : List Value} (h : w.ownsRow base e k v n xs) : ∃ A c, v = .slice A n c := by
  rcases h.2 with ⟨hv, h0⟩ | ⟨g, cap, cur, hv, _⟩
  · exact ⟨_, _, by rw [hv, h0]⟩
  · exact ⟨_, _, hv⟩
theorem own_below {w w' : World} {base n k : Nat} {e : TypeId} {v : Value} {xs : List Value} (h : w.ownsRow base e k v n xs) (hb : Below w.heap.size w w') : w'.ownsRow base e k v n xs := by
  obtain ⟨A, c, rfl⟩ := own_shape h
  exact h.kept (row := .none) ⟨hb.os, hb.tape, hb.output, hb.size, fun k hk _ => hb.block k hk⟩ (by cases A <;> simp [Value.ownBlock])

set_option maxHeartbeats 1000000 in
set_option maxRecDepth 100000 in
theorem clone_ex (A : Option Addr) (c : Nat) (W : List Ex) (w : World) (hA : Exs w w.heap.size A W) (hn : W.length ≤ 1000000) :
    Calls Try.prog 25 #[.slice A W.length c] w fun e w' => ∃ v', e = .returned v' ∧ w'.ownsRow w.heap.size 27 2 v' W.length (W.flatMap Ex.cells) ∧ Below w.heap.size w w' := by
  have q : ∀ (w : World) (a : Option Addr) (n c n' c' : Nat), (binOp .eql 22 (.slice a n c) (.slice none n' c')).run Try.prog w = .ok (.bool a.isNone) w := fun w a n c n' c' => Lib.run_eql_slice_nil w _ _ a n c n' c' Try.underlying22
  rcases A with _ | ad
  · obtain rfl := exs_none hA
    clear hA
    go_enter Try.func25, Try.ntmps25
    go_wp2
    go_ret
    exact ⟨_, rfl, World.ownsRow_nil _ _ _ _, Below.refl _ _⟩
  · obtain ⟨i0, hi0, hz0, hz1, hz2⟩ := info_parts ex_info
    have HC := Lib.hid (exs_cells hA)
    generalize hs : W.length = n at *
    have HS := Lib.hid hs
    clear hs hA
    go_enter Try.func25, Try.ntmps25
    go_wp2_with (at_builtin; refine wpList_append_own _ rfl _ _ 22 rfl w.heap.size 27 i0 (.agg #[.int .i64 0, .int .i64 0]) 2 16 Try.underlying22 hi0 hz0 hz1 hz2 rfl (by decide) _ _ _ rfl (World.ownsRow_made w #[] 0 (Nat.le_refl _) (Nat.zero_le _) rfl) ad n c (W.flatMap Ex.cells) rfl (by rw [flat_len, HS.out]) ?c1 (exs_plain W) ?c3 ?c4 ?c5 ?_)
    case c1 =>
      intro j u hu
      have h1 := HC.out j u hu
      exact ((Below.refl _ w).alloc (Nat.le_refl _) _).cell (lt_of_cell h1) |>.trans h1
    case c3 => unfold maxLen; omega
    case c4 => omega
    case c5 => simp
    intro v' w1 hown hgrow _
    go_wp2
    go_ret
    exact ⟨v', rfl, by simpa using hown, ((Below.refl _ w).alloc (Nat.le_refl _) _).grown hgrow (by simp) (by intro k hk; simp [Value.ownBlock] at hk; omega)⟩

/-! the sort -/
open Go.Shelf Go.Lib Go.Sort

abbrev cmpE (x y : Ex) : Int := Lib.compareInt x.a y.a
theorem ltE (x y : Ex) : ltOf cmpE x y = decide (x.a < y.a) := by
  unfold ltOf cmpE Lib.compareInt
  by_cases h1 : x.a < y.a
  · simp [h1]
  · by_cases h2 : y.a < x.a <;> simp [h1, h2]
theorem swoE : SWO (ltOf cmpE) :=
  ⟨fun x => by rw [ltE]; simp, fun x y z h1 h2 => by rw [ltE] at *; simp at *; omega, fun x y z h1 h2 => by rw [ltE] at *; simp at *; omega⟩

set_option maxHeartbeats 1000000 in
theorem closureE (x y : Ex) (W : World) : Calls Try.prog 27 #[.agg #[.int .i64 x.a, .int .i64 x.n], .agg #[.int .i64 y.a, .int .i64 y.n]] W fun e w' => e = .returned (.int .i64 (cmpE x y)) ∧ ∃ q os', w' = grow (W.drewN q) os' := by
  have hcon := fun W' => AnyG.cmp_Compare_int Try.cmpInt x.a y.a W'
  change ∀ W', Calls Try.prog 28 _ _ _ at hcon
  unfold cmpE
  generalize Lib.compareInt x.a y.a = r at hcon ⊢
  go_enter Try.func27, Try.ntmps27
  go_wp2_with (go_at_call 28; refine (hcon _).mono ?_; rintro e w' ⟨rfl, rfl⟩)
  go_ret
  exact ⟨rfl, 0, _, by rw [alloc_eq_grow, alloc_eq_grow, grow_grow]; rfl⟩

theorem cmpLaysE (blk off size : Nat) (w : World) : CmpLays Try.prog 27 #[] Ex.cells 2 cmpE blk off size w := fun _ _ _ _ x y => closureE x y _

theorem aggE : ∀ w, (isAgg 27).run Try.prog w = .ok true w := fun _ => by kernel_rfl
theorem sizeE : ∀ w, (Go.sizeOf 27).run Try.prog w = .ok 2 w := fun _ => by kernel_rfl

theorem flat_eq (l : List Ex) (j : Nat) (h : j < l.length * 2) : (l.flatMap Ex.cells)[j]? = some ((flatK Ex.cells 2 l.toArray)[j]!) := by
  have hj : j / 2 < l.length := by omega
  have h1 := flat_get Ex.cells2 l (j / 2) hj (j % 2) (by omega)
  rw [show j / 2 * 2 + j % 2 = j by omega] at h1
  rw [h1, get_flatK Ex.cells 2 l.toArray j (by simpa using h)]
  have e : l.toArray[j / 2]! = l[j / 2] := by simp [hj]
  rw [e]
  have h2 : j % 2 < (Ex.cells l[j / 2]).length := by rw [Ex.cells2]; omega
  rw [List.getElem?_eq_getElem h2, getElem!_pos (Ex.cells l[j / 2]) (j % 2) h2]

theorem holdsE {w : World} {base g cap : Nat} {e : TypeId} {l : List Ex} (h : w.ownsRow base e 2 (.slice (some ⟨g, 0, none⟩) l.length cap) l.length (l.flatMap Ex.cells)) : HoldsK Ex.cells 2 w g 0 l.toArray := by
  intro j hj
  rw [size_flatK] at hj
  simp at hj
  rw [Nat.zero_add]
  exact ⟨by rw [h.cellAt j hj, flat_eq l j hj]; rfl, h.frozenAt j⟩

theorem liesE {w : World} {g : Nat} {l : List Ex} (h : HoldsK Ex.cells 2 w g 0 l.toArray) (hg : g < w.heap.size) : Exs w w.heap.size (some ⟨g, 0, none⟩) l := by
  intro _
  refine ⟨_, rfl, hg, fun i hi j v hv => ?_⟩
  have hj : j < 2 := by rw [← Ex.cells2 l[i]]; exact (List.getElem?_eq_some_iff.1 hv).1
  have h1 := (h (i * 2 + j) (by rw [size_flatK]; simp; omega)).1
  have h2 := flat_get Ex.cells2 l i hi j hj
  rw [hv, flat_eq l _ (by omega)] at h2
  injection h2 with h2
  rw [h2, Nat.zero_add] at h1
  rw [Go.Addr.add_add]
  have e : ((⟨g, 0, none⟩ : Addr).add (i * 2 + j)) = ⟨g, i * 2 + j, none⟩ := by unfold Addr.add; split <;> simp_all
  rw [e]
  exact h1

theorem perm_list {d d' : Array Ex} {n : Nat} (hn : n = d.size) (h : PermIn 0 n d d') : d'.toList.Perm d.toList := by
  subst hn
  obtain ⟨h1, _, h3⟩ := h
  rw [Array.toList_extract, Array.toList_extract, List.extract_eq_take_drop, List.extract_eq_take_drop, List.drop_zero, List.drop_zero, List.take_of_length_le (by simp [h1]), List.take_of_length_le (by simp)] at h3
  exact h3
theorem rising_list {d : Array Ex} {n : Nat} (hn : n = d.size) (h : SortedIn (ltOf cmpE) 0 n d) : Rising d.toList := by
  unfold Rising
  rw [List.pairwise_iff_getElem]
  intro i j hi hj hij
  have h1 := h i j (Nat.zero_le _) hij (by rw [hn]; simpa using hj)
  rw [ltE] at h1
  have e1 : d[i]! = d.toList[i] := by simp at hi; simp [hi]
  have e2 : d[j]! = d.toList[j] := by simp at hj; simp [hj]
  rw [e1, e2] at h1
  simp at h1 ⊢
  omega

theorem below_sort {w w1 : World} {B g n : Nat} {d : Array Ex} {os : Array Obj} (h : Below B w w1) (hg : B ≤ g) (hB : B ≤ w1.heap.size) : Below B w (sortWorldK Ex.cells 2 w1 g 0 n d os) := by
  unfold sortWorldK putRowK
  refine ⟨h.os, h.tape, h.output, ?_, fun k hk => ?_⟩
  · have := h.size
    rw [size_grow, size_putRow, heap_ahead]
    omega
  · rw [heap_grow_old _ _ (by rw [size_putRow, heap_ahead]; omega)]
    rw [← h.block k hk]
    simp only [putRow, mapBlock, heap_ahead]
    rw [Array.getElem?_modify, if_neg (by omega)]

set_option maxHeartbeats 1000000 in
/-- What a call of sorted comes to. -/
theorem sorted_any (A : Option Addr) (c : Nat) (l : List Ex) (w : World) (hA : Exs w w.heap.size A l) (hn : l.length ≤ 1000000) :
    Calls Try.prog 21 #[.slice A l.length c] w fun e w' => ∃ (A' : Option Addr) (c' : Nat) (s : List Ex), e = .returned (.slice A' l.length c') ∧ s.length = l.length ∧ s.Perm l ∧ Rising s ∧ Exs w' w'.heap.size A' s ∧ Below w.heap.size w w' := by
  have hcl := clone_ex A c l w hA hn
  have eg : ∀ args w, (callFunc 27 args).run Try.prog w = .ok (.enter 27 args) w := enters_of Try.func27 (by kernel_rfl) rfl
  by_cases hl : l = []
  · subst hl
    have hcon := fun p cap fv W => AnyF.slices_SortFunc_none Try.sortX p cap fv W
    change ∀ (p : Option Addr) (cap : Nat) (fv : Value) (W : World), Calls Try.prog 26 _ _ _ at hcon
    clear hA hn
    simp only [List.length_nil, List.flatMap_nil] at hcl ⊢
    go_enter Try.func21, Try.ntmps21
    go_wp2_with fail
    refine hcl.mono ?_
    clear hcl
    rintro e w1 ⟨v1, rfl, hown, hb1⟩
    obtain ⟨A1, c1, rfl⟩ := own_shape hown
    clear hown
    go_wp2_with fail
    refine (hcon A1 c1 _ w1).mono ?_
    clear hcon
    rintro e w2 ⟨rfl, rfl⟩
    go_wp2
    go_ret
    exact ⟨A1, c1, [], rfl, rfl, .refl _, .nil, Lies.nil, hb1⟩
  · have hpos : 0 < l.length := List.length_pos_iff.2 hl
    have hcon := fun g cap W (hH : HoldsK Ex.cells 2 W g 0 l.toArray) (hblk : g < W.heap.size) => AnyQ.slices_SortFunc Try.sortX 2 aggE sizeE Ex.cells (fun _ => rfl) (fun x v hv => by simp [Ex.cells] at hv; rcases hv with rfl | rfl <;> rfl) cmpE swoE 27 #[] g 0 cap l.toArray W eg (cmpLaysE g 0 _ W) hH hblk (by simp; omega)
    change ∀ (g cap : Nat) (W : World) (hH : HoldsK Ex.cells 2 W g 0 l.toArray) (hblk : g < W.heap.size), Calls Try.prog 26 #[.slice (some ⟨g, 0, none⟩) l.toArray.size cap, _] _ _ at hcon
    rw [List.size_toArray] at hcon
    generalize hs : l.length = n at *
    have HS := Lib.hid hs
    clear hA hs hl
    go_enter Try.func21, Try.ntmps21
    go_wp2_with fail
    refine hcl.mono ?_
    clear hcl
    rintro e w1 ⟨v1, rfl, hown, hb1⟩
    obtain ⟨g, cap, rfl⟩ := Joins.ownsRow_form hown hpos
    have hge := (hown.lt g rfl)
    have hH : HoldsK Ex.cells 2 w1 g 0 l.toArray := holdsE (by rw [HS.out]; exact hown)
    have hc := hcon g cap w1 hH hge.2
    have HH := Lib.hid hH
    clear hcon hown hH
    go_wp2_with fail
    refine hc.mono ?_
    clear hc
    rintro e w2 ⟨rfl, d, k, os, hp, hr, hw⟩
    have hd : d.size = n := by rw [hp.1]; simpa using HS.out
    have HK : HoldsK Ex.cells 2 w2 g 0 d := by
      rw [hw]
      exact holdsK_grow _ _ _ _ _ _ _ (by simp [putRowK]; exact hge.2) (holdsK_putRowK _ _ _ _ _ _ _ (holdsK_ahead _ _ _ _ _ _ _ HH.out) hp.1)
    have hb2 : Below w.heap.size w w2 := by rw [hw]; exact below_sort hb1 hge.1 hb1.size
    have hgl : g < w2.heap.size := by rw [hw]; simp [sortWorldK, putRowK]; omega
    have HR := Lib.hid (show ∃ s : List Ex, s.length = n ∧ s.Perm l ∧ Rising s ∧ Exs w2 w2.heap.size (some ⟨g, 0, none⟩) s from
      ⟨d.toList, by simpa using hd, by have := perm_list (by simpa using HS.out.symm) hp; simpa using this, rising_list hd.symm hr, liesE (by simpa using HK) hgl⟩)
    clear hp hr HK hw hge hb1 HH hd
    go_wp2
    go_ret
    obtain ⟨s, h1, h2, h3, h4⟩ := HR.out
    exact ⟨some ⟨g, 0, none⟩, cap, s, rfl, h1, h2, h3, h4, hb2⟩

end Go.Proofs.Ytodcngkcaeahhaa
