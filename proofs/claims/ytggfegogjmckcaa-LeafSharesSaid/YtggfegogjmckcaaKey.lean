/- Notes by their keys: the walks of SortStableFunc and byKey. -/
import Derived.Test.YtggfegogjmckcaaSv
import Derived.Test.YtggfegogjmckcaaPrs
import Derived.Lib.SmallJoins
namespace Go.Proofs.Ytggfegogjmckcaa
open Go.Shelf Go.RowKit Go.Lib Go.Sort

theorem flat_nt (l : List Nt) (j : Nat) (h : j < l.length * 4) : (l.flatMap Nt.cells)[j]? = some ((flatK Nt.cells 4 l.toArray)[j]!) := by
  have hj : j / 4 < l.length := by omega
  have h1 := flat_get Nt.cells4 l (j / 4) hj (j % 4) (by omega)
  rw [show j / 4 * 4 + j % 4 = j by omega] at h1
  rw [h1, get_flatK Nt.cells 4 l.toArray j (by simpa using h)]
  have e : l.toArray[j / 4]! = l[j / 4] := by simp [hj]
  rw [e]
  have h2 : j % 4 < (Nt.cells l[j / 4]).length := by rw [Nt.cells4]; omega
  rw [List.getElem?_eq_getElem h2, getElem!_pos (Nt.cells l[j / 4]) (j % 4) h2]
theorem holdsN {w : World} {base g cap : Nat} {e : TypeId} {l : List Nt} (h : w.ownsRow base e 4 (.slice (some ⟨g, 0, none⟩) l.length cap) l.length (l.flatMap Nt.cells)) : HoldsK Nt.cells 4 w g 0 l.toArray := by
  intro j hj
  rw [size_flatK] at hj
  simp at hj
  rw [Nat.zero_add]
  exact ⟨by rw [h.cellAt j hj, flat_nt l j hj]; rfl, h.frozenAt j⟩
theorem liesN {w : World} {g : Nat} {l : List Nt} (h : HoldsK Nt.cells 4 w g 0 l.toArray) (hg : g < w.heap.size) : Nts w w.heap.size (some ⟨g, 0, none⟩) l := by
  intro _
  refine ⟨_, rfl, hg, fun i hi j v hv => ?_⟩
  have hj : j < 4 := by rw [← Nt.cells4 l[i]]; exact (List.getElem?_eq_some_iff.1 hv).1
  have h1 := (h (i * 4 + j) (by rw [size_flatK]; simp; omega)).1
  have h2 := flat_get Nt.cells4 l i hi j hj
  rw [hv, flat_nt l _ (by omega)] at h2
  injection h2 with h2
  rw [h2, Nat.zero_add] at h1
  rw [Go.Addr.add_add]
  have e : ((⟨g, 0, none⟩ : Addr).add (i * 4 + j)) = ⟨g, i * 4 + j, none⟩ := by unfold Addr.add; split <;> simp_all
  rw [e]
  exact h1
theorem below_sort {w w1 : World} {B g n : Nat} {d : Array Nt} {os : Array Obj} (h : Below B w w1) (hg : B ≤ g) (hB : B ≤ w1.heap.size) : Below B w (sortWorldK Nt.cells 4 w1 g 0 n d os) := by
  unfold sortWorldK putRowK
  refine ⟨h.os, h.tape, h.output, ?_, fun k hk => ?_⟩
  · have := h.size
    rw [size_grow, size_putRow, heap_ahead]
    omega
  · rw [heap_grow_old _ _ (by rw [size_putRow, heap_ahead]; omega)]
    rw [← h.block k hk]
    simp only [putRow, mapBlock, heap_ahead]
    rw [Array.getElem?_modify, if_neg (by omega)]

set_option maxHeartbeats 1000000 in
set_option maxRecDepth 100000 in
theorem sortstable_any {w : World} {g : Nat} {d0 : Array Nt} (hH : HoldsK Nt.cells 4 w g 0 d0) (hg : g < w.heap.size) (hmax : d0.size ≤ 1000000) (cap : Nat) :
    Calls Try.prog 35 #[.slice (some ⟨g, 0, none⟩) d0.size cap, .func (.func 36) #[] #[]] w fun e w' =>
      e = .returned (.tuple #[]) ∧ ∃ dk' : Array Nt, dk'.size = d0.size ∧ Rising dk'.toList ∧ StEq dk'.toList d0.toList ∧ SWK Nt.cells 4 w g 0 dk' w' := by
  have hc := stable_any (nctx hH hg hmax) hmax cap
  clear hH
  generalize d0.size = N at *
  go_enter Try.func35, Try.ntmps35
  go_wp2_with fail
  refine hc.mono ?_
  clear hc
  rintro e w1 ⟨rfl, dk, h1, h2, h3, h4⟩
  have H := Lib.hid (And.intro h1 (And.intro h2 (And.intro h3 h4)))
  clear h1 h2 h3 h4
  go_wp2
  go_end0
  exact ⟨rfl, dk, H.out.1, H.out.2.1, H.out.2.2.1, H.out.2.2.2⟩

set_option maxHeartbeats 1000000 in
set_option maxRecDepth 100000 in
theorem insertion_nil (A : Option Addr) (cap : Nat) (w : World) :
    Calls Try.prog 49 #[.slice A 0 cap, .int .i64 0, .int .i64 0, .func (.func 36) #[] #[]] w fun e w' => e = .returned (.tuple #[]) ∧ w' = w := by
  go_enter Try.func49, Try.ntmps49
  go_wp2
  go_loopw [8] (fun i wr => i = .int .i64 1 ∧ wr = w) (fun _ _ => 0)
  case atStart => exact ⟨rfl, rfl⟩
  case round =>
    obtain ⟨rfl, rfl⟩ := hrel
    go_wp2
    go_end0
    exact ⟨rfl, rfl⟩

set_option maxHeartbeats 1000000 in
set_option maxRecDepth 100000 in
theorem stable_nil (A : Option Addr) (cap : Nat) (w : World) :
    Calls Try.prog 43 #[.slice A 0 cap, .int .i64 0, .func (.func 36) #[] #[]] w fun e w' => e = .returned (.tuple #[]) ∧ w' = w := by
  have hc := fun w => insertion_nil A cap w
  go_enter Try.func43, Try.ntmps43
  go_wp2
  go_loopw [7, 8] (fun a b wr => a = .int .i64 0 ∧ b = .int .i64 20 ∧ wr = w) (fun _ _ _ => 0)
  case atStart => exact ⟨rfl, rfl, rfl⟩
  case round =>
    obtain ⟨rfl, rfl, rfl⟩ := hrel
    go_wp2_with fail
    refine (hc _).mono ?_
    rintro e w1 ⟨rfl, rfl⟩
    go_wp2
    go_loopw [6, 7, 8] (fun s a b wr => s = .int .i64 20 ∧ wr = w1) (fun _ _ _ _ => 0)
    case atStart => exact ⟨rfl, rfl⟩
    case round =>
      obtain ⟨rfl, rfl⟩ := hrel
      go_wp2
      go_end0
      exact ⟨rfl, rfl⟩

set_option maxHeartbeats 1000000 in
set_option maxRecDepth 100000 in
theorem sortstable_nil (A : Option Addr) (cap : Nat) (w : World) :
    Calls Try.prog 35 #[.slice A 0 cap, .func (.func 36) #[] #[]] w fun e w' => e = .returned (.tuple #[]) ∧ w' = w := by
  have hc := fun w => stable_nil A cap w
  go_enter Try.func35, Try.ntmps35
  go_wp2_with fail
  refine (hc _).mono ?_
  rintro e w1 ⟨rfl, rfl⟩
  go_wp2
  go_end0
  exact ⟨rfl, rfl⟩

theorem row_cap {w : World} {base n k c : Nat} {e : TypeId} {A : Option Addr} {xs : List Value} (h : w.ownsRow base e k (.slice A n c) n xs) : n ≤ c ∧ (A = none → c = 0) := by
  rcases h.2 with ⟨hv, h0⟩ | ⟨g, cap, cur, hv, _, _, h1, _⟩
  · injection hv with e1 e2 e3
    exact ⟨by omega, fun _ => e3⟩
  · injection hv with e1 e2 e3
    exact ⟨by omega, fun h => by rw [e1] at h; cases h⟩

set_option maxHeartbeats 1000000 in
set_option maxRecDepth 100000 in
/-- What a call of byKey comes to. -/
theorem bykey_any (A : Option Addr) (c : Nat) (l : List Nt) (w : World) (hA : Nts w w.heap.size A l) (hn : l.length ≤ 1000000) :
    Calls Try.prog 26 #[.slice A l.length c] w fun e w' => ∃ (A' : Option Addr) (c' : Nat) (s : List Nt), e = .returned (.slice A' s.length c') ∧ s.length = l.length ∧ Rising s ∧ StEq s l ∧ Nts w' w'.heap.size A' s ∧ s.length ≤ c' ∧ Below w.heap.size w w' := by
  have hcl := clone_nt A c l w hA hn
  by_cases hl : l = []
  · subst hl
    have hcon := fun p cap W => sortstable_nil p cap W
    clear hA hn
    simp only [List.length_nil, List.flatMap_nil] at hcl ⊢
    go_enter Try.func26, Try.ntmps26
    go_wp2_with fail
    refine hcl.mono ?_
    clear hcl
    rintro e w1 ⟨v1, rfl, hown, hb1⟩
    obtain ⟨A1, c1, rfl⟩ := own_shape hown
    clear hown
    go_wp2_with fail
    refine (hcon A1 c1 w1).mono ?_
    clear hcon
    rintro e w2 ⟨rfl, rfl⟩
    go_wp2
    go_ret
    exact ⟨A1, c1, [], rfl, rfl, .nil, StEq.rfl' _, Lies.nil, Nat.zero_le _, hb1⟩
  · have hpos : 0 < l.length := List.length_pos_iff.2 hl
    have hcon := fun g cap W (hH : HoldsK Nt.cells 4 W g 0 l.toArray) (hblk : g < W.heap.size) => sortstable_any hH hblk (by simpa using hn) cap
    rw [List.size_toArray] at hcon
    generalize hs : l.length = n at *
    have HS := Lib.hid hs
    clear hA hs hl
    go_enter Try.func26, Try.ntmps26
    go_wp2_with fail
    refine hcl.mono ?_
    clear hcl
    rintro e w1 ⟨v1, rfl, hown, hb1⟩
    obtain ⟨g, cap, rfl⟩ := Joins.ownsRow_form hown hpos
    have hge := (hown.lt g rfl)
    have HCAP := Lib.hid (row_cap hown).1
    have hH : HoldsK Nt.cells 4 w1 g 0 l.toArray := holdsN (by rw [HS.out]; exact hown)
    have hc := hcon g cap w1 hH hge.2
    have HH := Lib.hid hH
    clear hcon hown hH
    go_wp2_with fail
    refine hc.mono ?_
    clear hc
    rintro e w2 ⟨rfl, d, hd, hr, hst, hw⟩
    have HK : HoldsK Nt.cells 4 w2 g 0 d := hw.holds hge.2 HH.out (by rw [hd]; simpa using HS.out.symm)
    have hgl : g < w2.heap.size := hw.lt hge.2
    have hb2 : Below w.heap.size w w2 := by
      obtain ⟨k, os, hw⟩ := hw
      rw [hw]
      exact below_sort hb1 hge.1 hb1.size
    have HR := Lib.hid (show ∃ s : List Nt, s.length = n ∧ Rising s ∧ StEq s l ∧ Nts w2 w2.heap.size (some ⟨g, 0, none⟩) s from
      ⟨d.toList, by simpa using hd, hr, by simpa using hst, liesN (by simpa using HK) hgl⟩)
    clear hst hr HK hw hge hb1 HH hd
    go_wp2
    go_ret
    obtain ⟨s, h1, h2, h3, h4⟩ := HR.out
    exact ⟨some ⟨g, 0, none⟩, cap, s, by rw [h1]; rfl, h1, h2, h3, h4, by rw [h1]; exact HCAP.out, hb2⟩

end Go.Proofs.Ytggfegogjmckcaa
