/- The walks of the statements' Ref and Same (layer 4's, at a seat that has no Small). -/
import Derived.Test.YtdgjnjhmjgdhnaaDoorWFlush
import Derived.BigQuiet
namespace Go.Proofs.YtdgjnjhmjgdhnaaDoor
open Go.RowKit

theorem rwr_info : (Tryd.prog.info? 84).map (fun i => (i.zero, i.size, i.bytes)) = some (some (.agg #[.int .i64 0, .string ⟨#[]⟩]), 2, 24) := by kernel_rfl

/-- A document's disk in a block of its own. -/
def EBlk (w : World) (g : Nat) (x y : Value) : Prop := Box w g 39 #[x, y]
theorem EBlk.cells {w : World} {g : Nat} {x y : Value} (h : EBlk w g x y) : w.cell? ⟨g, 0, none⟩ = some x ∧ w.cell? ⟨g, 1, none⟩ = some y := ⟨Box.cell h 0 rfl, Box.cell h 1 rfl⟩

/-- The blocks of Ref. -/
def Three (w : World) (g : Nat) (A : Option Addr) (n c : Nat) (B : Option Addr) (m d : Nat) (v : Value) : Prop :=
  DBlk w g A n c B m d ∧ EBlk w (g + 1) (.slice none 0 0) (.slice none 0 0) ∧ EBlk w (g + 2) (.slice A n c) v
theorem Three.laid (w : World) (A : Option Addr) (n c : Nat) (B : Option Addr) (m d : Nat) :
    Three (((w.alloc (.cells #[.slice A n c, .slice B m d] 36)).alloc (.cells #[.slice none 0 0, .slice none 0 0] 39)).alloc (.cells #[.slice A n c, .slice none 0 0] 39)) w.heap.size A n c B m d (.slice none 0 0) :=
  ⟨Box.push (Box.push (Box.fresh _ _ _) _) _, Box.push (Box.at_ (w.alloc _) _ _ (by simp)) _, Box.at_ ((w.alloc _).alloc _) _ _ (by simp)⟩

/-- A disk whose list of what waits, if it is nil, has no room. -/
def DZ (w : World) (v : Value) (S : List ByteArray) (W : List Wr) : Prop := ∃ A c B d, v = .agg #[.slice A S.length c, .slice B W.length d] ∧ Strs w w.heap.size A S ∧ Wrs w w.heap.size B W ∧ (B = none → d = 0)
theorem DZ.dv {w : World} {v : Value} {S : List ByteArray} {W : List Wr} (h : DZ w v S W) : DV w v S W := by
  obtain ⟨A, c, B, d, e, h1, h2, _⟩ := h
  exact ⟨A, c, B, d, e, h1, h2⟩
theorem DZ.on {w w' : World} {v : Value} {S : List ByteArray} {W : List Wr} (h : DZ w v S W) (hb : Below w.heap.size w w') : DZ w' v S W := by
  obtain ⟨A, c, B, d, e, h1, h2, h3⟩ := h
  exact ⟨A, c, B, d, e, h1.on hb, h2.on hb, h3⟩
theorem own_room {w : World} {base e k n c : Nat} {A : Option Addr} {xs : List Value} (h : w.ownsRow base e k (.slice A n c) n xs) : A = none → c = 0 := by
  intro hA
  rcases h.2 with ⟨hv, _⟩ | ⟨g, cap, cur, hv, _⟩
  · injection hv
  · injection hv with h1
    rw [hA] at h1
    cases h1

set_option maxHeartbeats 2000000 in
theorem refz_any (A : Option Addr) (c : Nat) (S : List ByteArray) (B : Option Addr) (d : Nat) (W : List Wr) (w : World) (hA : Strs w w.heap.size A S) (hB : Wrs w w.heap.size B W) (h24 : W.length * 24 ≤ 140737488355328) :
    Calls Tryd.prog 18 #[.agg #[.slice A S.length c, .slice B W.length d]] w fun e w' => ∃ v', e = .returned v' ∧ DZ w' v' S W ∧ Below w.heap.size w w' := by
  obtain ⟨i0, hi0, hz0, hz1, hz2⟩ := info_parts rwr_info
  have HA := Lib.hid hA
  have HB := Lib.hid hB
  generalize hs : S.length = n at *
  generalize hl : W.length = m at *
  have HS := Lib.hid hs
  have HL := Lib.hid hl
  clear hA hB hs hl
  have HT := Lib.hid (Three.laid w A n c B m d)
  have HB0 := Lib.hid (show Below w.heap.size w (((w.alloc (.cells #[.slice A n c, .slice B m d] 36)).alloc (.cells #[.slice none 0 0, .slice none 0 0] 39)).alloc (.cells #[.slice A n c, .slice none 0 0] 39)) from (below_two w _ _).alloc (by simp; omega) _)
  go_enter Tryd.func18, Tryd.ntmps18
  go_wp2
  go_loopw [12] (fun i wr => ∃ (k : Nat) (v : Value), i = .int .i64 k ∧ k ≤ m ∧ wr.ownsRow (w.heap.size + 3) 84 2 v k ((W.take k).flatMap Wr.cells) ∧ Three wr w.heap.size A n c B m d v ∧ Below w.heap.size w wr) (fun i _ => (m - intOf i).toNat)
  case atStart => exact ⟨0, _, rfl, by omega, World.ownsRow_nil _ _ _ _, HT.out, HB0.out⟩
  case round =>
    obtain ⟨k, v, rfl, hk, hown, ht, hbr⟩ := hrel
    obtain ⟨A2, c2, rfl⟩ := own_shape hown
    have hlr2 : w.heap.size + 2 < wr.heap.size := Box.lt ht.2.2
    by_cases hlt : k < m
    · obtain ⟨ad, rfl, hab, hca⟩ := (HB.out.below hbr).seeW (by rw [HL.out]; omega)
      obtain ⟨x1, x2⟩ := hca k (by rw [HL.out]; omega)
      have HP := Lib.hid (List.take_succ_eq_append_getElem (l := W) (i := k) (by rw [HL.out]; omega))
      generalize W[k]'(by rw [HL.out]; omega) = x at *
      obtain ⟨xa, xt⟩ := x
      simp only at x1 x2
      clear hca
      obtain ⟨e1, e2⟩ := EBlk.cells ht.2.2
      have HT4 := Lib.hid ht
      have HO4 := Lib.hid hown
      have hlt3 : (ad.add (k * 2)).block < wr.heap.size := by rw [block_of_add]; omega
      have hown1 := HO4.out.alloc (.cells #[.int .i64 xa, .string xt] 83)
      clear ht hown
      go_wp2_with (at_builtin; refine wpList_append_own _ rfl _ _ 37 rfl (w.heap.size + 3) 84 i0 (.agg #[.int .i64 0, .string ⟨#[]⟩]) 2 24 Tryd.underlying37 hi0 hz0 (by assumption) (by assumption) rfl (by decide) _ _ _ rfl (hown1.alloc _) ⟨wr.heap.size + 1, 0, none⟩ 1 1 [.int .i64 xa, .string xt] rfl rfl ?c1 ?c2 ?c3 ?c4 ?c5 ?_)
      case c1 =>
        intro j u hj
        match j, hj with
        | 0, hj => simp at hj; subst hj; simp [Addr.add]
        | 1, hj => simp at hj; subst hj; simp [Addr.add]
      case c2 => intro u hu; simp at hu; rcases hu with rfl | rfl <;> rfl
      case c3 => unfold maxLen; omega
      case c4 => omega
      case c5 => simp; omega
      intro v' w5 hown5 hg5 _
      obtain ⟨A5, c5, rfl⟩ := own_shape hown5
      have hbr5 : Below w.heap.size w w5 := ((hbr.alloc hbr.size _).alloc (by have := hbr.size; simp; omega) _).grown hg5 (by have := hbr.size; simp at this ⊢; omega) (fun k hk => by have := (hown1.lt k hk).1; omega)
      have hTW : Three w5 w.heap.size A n c (some ad) m d (.slice A2 k c2) :=
        ⟨Box.grown (Box.push (Box.push HT4.out.1 _) _) hg5 (fun e => by have := (hown1.lt _ e.symm).1; omega), Box.grown (Box.push (Box.push HT4.out.2.1 _) _) hg5 (fun e => by have := (hown1.lt _ e.symm).1; omega), Box.grown (Box.push (Box.push HT4.out.2.2 _) _) hg5 (fun e => by have := (hown1.lt _ e.symm).1; omega)⟩
      have HO5 := Lib.hid (show w5.ownsRow (w.heap.size + 3) 84 2 (.slice A5 (k + 1) c5) (k + 1) ((W.take (k + 1)).flatMap Wr.cells) by
        rw [HP.out, List.flatMap_append]
        exact hown5)
      have f1 := Box.free hTW.2.2 1
      obtain ⟨k0, k1⟩ := EBlk.cells hTW.2.2
      have hz5 : w.heap.size + 2 < w5.heap.size := Box.lt hTW.2.2
      have HTW := Lib.hid hTW
      clear hown5 hg5 hown1 hTW e1 e2 x1 x2
      go_wp2
      go_roundw
      case rel => exact ⟨k + 1, .slice A5 (k + 1) c5, by go_num, by omega, ownsRow_setCell_below HO5.out (a := ⟨w.heap.size + 2, 1, none⟩) (Nat.lt_succ_self _) _, ⟨Box.away HTW.out.1 (by simp; omega) _, Box.away HTW.out.2.1 (by simp) _, Box.set HTW.out.2.2 1 _⟩, hbr5.setCell (by simp; omega) _⟩
      case measure => simp [intOf]; omega
    · have hkn : k = m := by omega
      subst hkn
      rw [List.take_of_length_le (by rw [HL.out]; omega)] at hown
      obtain ⟨e1, e2⟩ := EBlk.cells ht.2.2
      have f0 := Box.free ht.2.1 0
      have f1 := Box.free ht.2.1 1
      obtain ⟨k0, k1⟩ := EBlk.cells ht.2.1
      have HT2 := Lib.hid ht
      have HO6 := Lib.hid hown
      clear hown ht
      go_wp2
      have h2 : Box _ (w.heap.size + 1) 39 _ := Box.set (Box.set HT2.out.2.1 0 (.slice A n c)) 1 (.slice A2 k c2)
      have hp : _ ∧ _ := ⟨Box.cell h2 0 (v := .slice A n c) rfl, Box.cell h2 1 (v := .slice A2 k c2) rfl⟩
      have e7 := ownsRow_setCell_below (ownsRow_setCell_below HO6.out (a := ⟨w.heap.size + 1, 0, none⟩) (by simp) (.slice A n c)) (a := ⟨w.heap.size + 1, 1, none⟩) (by simp) (.slice A2 k c2)
      have hB9 : Below w.heap.size w ((wr.setCell ⟨w.heap.size + 1, 0, none⟩ (.slice A n c)).setCell ⟨w.heap.size + 1, 1, none⟩ (.slice A2 k c2)) := (hbr.setCell (by simp) _).setCell (by simp) _
      exact bodyPost_ret (v := .agg #[.slice A n c, .slice A2 k c2]) (by simp [results, Tryd.results18, go_sem, hp.1, hp.2]) rfl
        ⟨_, rfl, ⟨A, c, A2, c2, by rw [HS.out, HL.out], HA.out.on hB9, Lies.own Wr.cells2 (by rw [HL.out]; exact e7), own_room HO6.out⟩, hB9⟩
theorem ref_any (A : Option Addr) (c : Nat) (S : List ByteArray) (B : Option Addr) (d : Nat) (W : List Wr) (w : World) (hA : Strs w w.heap.size A S) (hB : Wrs w w.heap.size B W) (h24 : W.length * 24 ≤ 140737488355328) :
    Calls Tryd.prog 18 #[.agg #[.slice A S.length c, .slice B W.length d]] w fun e w' => ∃ v', e = .returned v' ∧ DV w' v' S W ∧ Below w.heap.size w w' :=
  (refz_any A c S B d W w hA hB h24).mono fun _ _ ⟨v', he, hd, hb⟩ => ⟨v', he, hd.dv, hb⟩

def smallB (n m : Nat) : Bool := decide (n ≤ 100) && decide (m ≤ 60)

set_option maxHeartbeats 4000000 in
/-- The document's Same, of disks that are the same. -/
theorem same2_eq (v u : Value) (S : List ByteArray) (W : List Wr) (w : World) (hv : DV w v S W) (hu : DV w u S W) (hn : S.length ≤ 1000000) (hm : W.length ≤ 1000000) :
    Calls Tryd.prog 23 #[v, u] w fun e w' => e = .returned (.bool true) ∧ Below w.heap.size w w' := by
  obtain ⟨A, c, B, d, rfl, hA, hB⟩ := hv
  obtain ⟨A', c', B', d', rfl, hA', hB'⟩ := hu
  have HA := Lib.hid hA
  have HA' := Lib.hid hA'
  have HB := Lib.hid hB
  have HB' := Lib.hid hB'
  generalize hs : S.length = n at *
  generalize hl : W.length = m at *
  have HS := Lib.hid hs
  have HL := Lib.hid hl
  clear hA hA' hB hB' hs hl
  have e1 : ((n : Int) != (n : Int)) = false := by simp
  have e2 : ((m : Int) != (m : Int)) = false := by simp
  have HX := Lib.hid (show EBlk ((w.alloc (.cells #[.slice A n c, .slice B m d] 39)).alloc (.cells #[.slice A' n c', .slice B' m d'] 39)) w.heap.size (.slice A n c) (.slice B m d) ∧ EBlk ((w.alloc (.cells #[.slice A n c, .slice B m d] 39)).alloc (.cells #[.slice A' n c', .slice B' m d'] 39)) (w.heap.size + 1) (.slice A' n c') (.slice B' m d') from ⟨Box.push (Box.fresh _ _ _) _, Box.at_ (w.alloc _) _ _ (by simp)⟩)
  have HB0 := Lib.hid (below_two w (.cells #[.slice A n c, .slice B m d] 39) (.cells #[.slice A' n c', .slice B' m d'] 39))
  go_enter Tryd.func23, Tryd.ntmps23
  go_wp2
  go_loopw [5] (fun i wr => ∃ (k : Nat), i = .int .i64 k ∧ k ≤ n ∧ (EBlk wr w.heap.size (.slice A n c) (.slice B m d) ∧ EBlk wr (w.heap.size + 1) (.slice A' n c') (.slice B' m d')) ∧ Below w.heap.size w wr) (fun i _ => (n - intOf i).toNat)
  case atStart => exact ⟨0, rfl, by omega, HX.out, HB0.out⟩
  case round =>
    obtain ⟨k, rfl, hk, hx, hbr⟩ := hrel
    obtain ⟨x1, x2⟩ := EBlk.cells hx.1
    obtain ⟨y1, y2⟩ := EBlk.cells hx.2
    have HX2 := Lib.hid hx
    clear hx
    by_cases hlt : k < n
    · obtain ⟨a1, rfl, hab, hca⟩ := (HA.out.below hbr) (by rw [HS.out]; omega)
      obtain ⟨b1, rfl, hbb, hcb⟩ := (HA'.out.below hbr) (by rw [HS.out]; omega)
      have c1 := hca k (by rw [HS.out]; omega)
      have d1 := hcb k (by rw [HS.out]; omega)
      generalize S[k]'(by rw [HS.out]; omega) = s at *
      have hne := str_eq (x := s) rfl
      clear hca hcb
      go_wp2
      go_quiet (fail)
      go_wp2
      go_roundw
      case rel => exact ⟨k + 1, by go_num, by omega, HX2.out, below_drewN hbr _⟩
      case measure => simp [intOf]; omega
    · have hkn : k = n := by omega
      go_wp2
      clear hkn hlt hk x1 x2 y1 y2
      go_loopw [6] (fun i wr => ∃ (k : Nat), i = .int .i64 k ∧ k ≤ m ∧ (EBlk wr w.heap.size (.slice A n c) (.slice B m d) ∧ EBlk wr (w.heap.size + 1) (.slice A' n c') (.slice B' m d')) ∧ Below w.heap.size w wr) (fun i _ => (m - intOf i).toNat)
      case atStart => exact ⟨0, rfl, by omega, HX2.out, hbr⟩
      case round =>
        obtain ⟨k2, rfl, hk, hx, hbr2⟩ := hrel
        obtain ⟨x1, x2⟩ := EBlk.cells hx.1
        obtain ⟨y1, y2⟩ := EBlk.cells hx.2
        have HX3 := Lib.hid hx
        clear hx
        by_cases hlt : k2 < m
        · obtain ⟨a1, rfl, hab, hca⟩ := (HB.out.below hbr2).seeW (by rw [HL.out]; omega)
          obtain ⟨b1, rfl, hbb, hcb⟩ := (HB'.out.below hbr2).seeW (by rw [HL.out]; omega)
          obtain ⟨c1, c2⟩ := hca k2 (by rw [HL.out]; omega)
          obtain ⟨d1, d2⟩ := hcb k2 (by rw [HL.out]; omega)
          generalize W[k2]'(by rw [HL.out]; omega) = x at *
          obtain ⟨xa, xt⟩ := x
          simp only at c1 c2 d1 d2
          have hne := str_eq (x := xt) rfl
          clear hca hcb
          go_wp2
          go_quiet (fail)
          go_wp2
          go_roundw
          case rel => exact ⟨k2 + 1, by go_num, by omega, HX3.out, below_drewN hbr2 _⟩
          case measure => simp [intOf]; omega
        · go_wp2
          go_ret
          exact ⟨rfl, hbr2⟩

end Go.Proofs.YtdgjnjhmjgdhnaaDoor
