/- The walks of Right, Free, Left and Fit. -/
import Derived.Test.YtodcngkcaeahhaaWMay
namespace Go.Proofs.Ytodcngkcaeahhaa
open Go.RowKit

set_option maxHeartbeats 1000000 in
theorem right_any (f t : Int) (A : Option Addr) (c : Nat) (l : List Ex) (w : World) (hA : Exs w w.heap.size A l) (hn : l.length ≤ 100000) :
    Calls Try.prog 16 #[.int .i64 f, .int .i64 t, .slice A l.length c] w fun e w' => e = .returned (.bool (decide (Ok f t l))) ∧ Below w.heap.size w w' := by
  have hso := sorted_any A c l w hA (by omega)
  generalize hdb : decide (Ok f t l) = db
  generalize hl : l.length = n at *
  clear hA
  go_enter Try.func16, Try.ntmps16
  go_wp2_with fail
  refine hso.mono ?_
  clear hso
  rintro e w1 ⟨A1, c1, s, rfl, hs, hp, hr, hS, hb1⟩
  have hm := may_any f t A1 c1 s w1 hS (by omega)
  have HE := Lib.hid (show (decide (Area f t) && mayL t f s) = db by
    rw [← hdb]
    by_cases ha : Area f t
    · rw [decide_eq_true ha, Bool.true_and, may_sorted hp hr ha]
    · rw [decide_eq_false ha, Bool.false_and, decide_eq_false fun h => ha h.1])
  rw [hs] at hm
  clear hS hp hr hs hl hdb
  go_wp2_with fail
  refine hm.mono ?_
  clear hm
  rintro e w2 ⟨rfl, hb2⟩
  rw [HE.out]
  clear HE
  go_wp2
  go_ret
  exact ⟨rfl, hb1.trans (hb2.mono hb1.size)⟩

set_option maxHeartbeats 1000000 in
theorem free_any (f t : Int) (A : Option Addr) (c : Nat) (l : List Ex) (w : World) (hA : Exs w w.heap.size A l) (hn : l.length ≤ 100000) :
    Calls Try.prog 11 #[.int .i64 f, .int .i64 t, .slice A l.length c] w (ExsPost (freeL f t l) w) := by
  have hso := sorted_any A c l w hA (by omega)
  generalize hl : l.length = n at *
  clear hA
  go_enter Try.func11, Try.ntmps11
  go_wp2_with fail
  refine hso.mono ?_
  clear hso
  rintro e w1 ⟨A1, c1, s, rfl, hs, hp, hr, hS, hb1⟩
  have hm := may_any f t A1 c1 s w1 hS (by omega)
  have e1 : (decide (Area f t) && mayL t f s) = decide (Ok f t l) := by
    by_cases ha : Area f t
    · rw [decide_eq_true ha, Bool.true_and, may_sorted hp hr ha]
    · rw [decide_eq_false ha, Bool.false_and, decide_eq_false fun h => ha h.1]
  rw [e1, hs] at hm
  by_cases hok : Ok f t l
  · rw [decide_eq_true hok] at hm e1
    rw [Bool.and_eq_true, decide_eq_true_eq] at e1
    have hg := fun w2 (h : Below w1.heap.size w1 w2) => gaps_any f t A1 c1 s w2 (Lies.on hS h) (by omega) e1.1 e1.2
    rw [gaps_sorted hp hr hok, hs] at hg
    have HG := Lib.hid hg
    clear hS hp hr hs hl e1 hok hg
    generalize freeL f t l = F at *
    go_wp2_with fail
    refine hm.mono ?_
    clear hm
    rintro e w2 ⟨rfl, hb2⟩
    have hg := HG.out w2 hb2
    clear HG
    go_wp2_with fail
    refine hg.mono ?_
    clear hg
    rintro e w3 ⟨A3, c3, rfl, hF, hb3, hz3⟩
    have HF := Lib.hid hF
    have HB := Lib.hid ((hb1.trans (hb2.mono hb1.size)).trans (hb3.mono (Nat.le_trans hb1.size hb2.size)))
    clear hF hb1 hb2 hb3
    go_wp2
    go_ret
    exact ⟨A3, c3, rfl, HF.out, HB.out, hz3⟩
  · rw [decide_eq_false hok] at hm
    have HN := Lib.hid (free_not hok)
    clear hS hp hr hs hl e1 hok
    go_wp2_with fail
    refine hm.mono ?_
    clear hm
    rintro e w2 ⟨rfl, hb2⟩
    go_wp2
    go_ret
    rw [HN.out]
    exact ⟨none, 0, rfl, Lies.nil, hb1.trans (hb2.mono hb1.size), fun _ => rfl⟩

set_option maxHeartbeats 1000000 in
theorem left_any (f t : Int) (A : Option Addr) (c : Nat) (l : List Ex) (w : World) (hA : Exs w w.heap.size A l) (hn : l.length ≤ 100000) :
    Calls Try.prog 19 #[.int .i64 f, .int .i64 t, .slice A l.length c] w fun e w' => e = .returned (.int .i64 (leftL f t l)) ∧ Below w.heap.size w w' := by
  have hfr := free_any f t A c l w hA hn
  have hfl := free_len f t l
  have HP := Lib.hid (fun k => sum_front (l := freeL f t l) (fun x hx => free_pos hx) k)
  have hlb := left_bound f t l
  unfold leftL at *
  generalize freeL f t l = F at *
  generalize hl : l.length = n at *
  clear hA hl
  go_enter Try.func19, Try.ntmps19
  go_wp2_with fail
  refine hfr.mono ?_
  clear hfr
  rintro e w1 ⟨A1, c1, rfl, hF, hb1, _⟩
  have HF := Lib.hid hF
  generalize hl : F.length = m at *
  have HL := Lib.hid hl
  clear hF hl
  go_wp2
  go_loopw [7, 15] (fun s i wr => ∃ (k : Nat), s = .int .i64 (sumL (F.take k)) ∧ i = .int .i64 k ∧ k ≤ m ∧ Below w1.heap.size w1 wr) (fun _ i _ => (m - intOf i).toNat)
  case atStart => exact ⟨0, rfl, rfl, by omega, Below.refl _ _⟩
  case round =>
    obtain ⟨k, rfl, rfl, hk, hbr⟩ := hrel
    by_cases hlt : k < m
    · obtain ⟨ad, rfl, hab, hca⟩ := (HF.out.below hbr).seeE (by rw [HL.out]; omega)
      obtain ⟨x1, x2⟩ := hca k (by rw [HL.out]; omega)
      have HT := Lib.hid (sumL_take F k (by rw [HL.out]; omega))
      have hp1 := HP.out k
      have hp2 := HP.out (k + 1)
      rw [HT.out] at hp2
      obtain ⟨x, hx⟩ : ∃ x, x = F[k]'(by rw [HL.out]; omega) := ⟨_, rfl⟩
      rw [← hx] at x1 x2 HT hp2
      clear hx hca
      obtain ⟨xa, xn⟩ := x
      simp only at x1 x2 hp2 HT
      have hlt3 : (ad.add (k * 2)).block < w1.heap.size := by rw [block_of_add]; exact hab
      have hlw := hbr.size
      generalize sumL (F.take k) = q at *
      go_wp2
      go_roundw
      case rel => exact ⟨k + 1, by rw [HT.out], by go_num, by omega, hbr.alloc hbr.size _⟩
      case measure => simp [intOf]; omega
    · have HE := Lib.hid (show sumL (F.take k) = sumL F by rw [List.take_of_length_le (by rw [HL.out]; omega)])
      generalize sumL (F.take k) = q at *
      go_wp2
      go_ret
      rw [← HE.out]
      exact ⟨rfl, hb1.trans (hbr.mono hb1.size)⟩

theorem find_drop {F : List Ex} {n : Int} {k : Nat} (h : k < F.length) : (F.drop k).find? (fun g => decide (n ≤ g.n)) = if n ≤ F[k].n then some F[k] else (F.drop (k + 1)).find? (fun g => decide (n ≤ g.n)) := by
  rw [drop_at h, List.find?_cons]
  by_cases h1 : n ≤ F[k].n
  · rw [decide_eq_true h1, if_pos h1]
  · rw [decide_eq_false h1, if_neg h1]

theorem eput {w : World} {g : Nat} {x : Ex} (y : Ex) (h : EBlk w g x) : EBlk ((w.setCell ⟨g, 0, none⟩ (.int .i64 y.a)).setCell ⟨g, 1, none⟩ (.int .i64 y.n)) g y := Box.set (Box.set h 0 _) 1 _

set_option maxHeartbeats 2000000 in
theorem fit_any (n f t : Int) (A : Option Addr) (c : Nat) (l : List Ex) (w : World) (hA : Exs w w.heap.size A l) (hn : l.length ≤ 100000) :
    Calls Try.prog 12 #[.int .i64 n, .int .i64 f, .int .i64 t, .slice A l.length c] w fun e w' => e = .returned (.tuple #[.agg #[.int .i64 (fitL n f t l).1.a, .int .i64 (fitL n f t l).1.n], .int .i64 (fitL n f t l).2]) ∧ Below w.heap.size w w' := by
  have hb0 : Below w.heap.size w (w.alloc (.cells #[.int .i64 0, .int .i64 0] 27)) := (Below.refl _ _).alloc (Nat.le_refl _) _
  have hso := sorted_any A c l _ (Lies.on hA hb0) (by omega)
  have HB0 := Lib.hid (show EBlk (w.alloc (.cells #[.int .i64 0, .int .i64 0] 27)) w.heap.size ⟨0, 0⟩ from Box.fresh _ _ _)
  generalize hl : l.length = m at *
  clear hA
  go_enter Try.func12, Try.ntmps12
  go_wp2_with fail
  refine hso.mono ?_
  clear hso
  rintro e w1 ⟨A1, c1, s, rfl, hs, hp, hr, hS, hb1⟩
  have HB1 := Lib.hid (show EBlk w1 w.heap.size ⟨0, 0⟩ from Box.on HB0.out hb1)
  have hb01 : Below w.heap.size w w1 := hb0.trans (hb1.mono (by simp))
  clear HB0 hb0 hb1
  have hm := may_any f t A1 c1 s w1 hS (by omega)
  have e1 : (decide (Area f t) && mayL t f s) = decide (Ok f t l) := by
    by_cases ha : Area f t
    · rw [decide_eq_true ha, Bool.true_and, may_sorted hp hr ha]
    · rw [decide_eq_false ha, Bool.false_and, decide_eq_false fun h => ha h.1]
  rw [e1, hs] at hm
  by_cases hcond : Ok f t l ∧ 1 ≤ n ∧ n ≤ 2147483647
  · obtain ⟨hok, hn1, hn2⟩ := hcond
    rw [decide_eq_true hok] at hm e1
    rw [Bool.and_eq_true, decide_eq_true_eq] at e1
    have hg := fun w2 (h : Below w1.heap.size w1 w2) => gaps_any f t A1 c1 s w2 (Lies.on hS h) (by omega) e1.1 e1.2
    rw [gaps_sorted hp hr hok, hs] at hg
    have HG := Lib.hid hg
    have HFT := Lib.hid (show fitL n f t l = match (freeL f t l).find? (fun g => decide (n ≤ g.n)) with | some g => (⟨g.a, n⟩, 0) | none => (⟨0, 0⟩, 5) by rw [fitL, if_pos ⟨hok, hn1, hn2⟩]; rfl)
    have hfl := free_len f t l
    rw [hl] at hfl
    clear hS hp hr hs hl e1 hok hg
    generalize hFF : freeL f t l = F at *
    clear hFF
    go_wp2_with fail
    refine hm.mono ?_
    clear hm
    rintro e w2 ⟨rfl, hb2⟩
    have hg := HG.out w2 hb2
    clear HG
    have g1 : ¬ n < 1 := by omega
    have g2 : ¬ n > 2147483647 := by omega
    go_wp2_with fail
    refine hg.mono ?_
    clear hg
    rintro e w3 ⟨A3, c3, rfl, hF, hb3, _⟩
    have HB3 := Lib.hid (show EBlk w3 w.heap.size ⟨0, 0⟩ from Box.on (Box.on HB1.out hb2) hb3)
    have hb03 : Below w.heap.size w w3 := (hb01.trans (hb2.mono hb01.size)).trans (hb3.mono (Nat.le_trans hb01.size hb2.size))
    have HF := Lib.hid hF
    generalize hl : F.length = fl at *
    have HL := Lib.hid hl
    clear hF hl HB1 hb01 hb2 hb3
    go_wp2
    go_loopw [34] (fun i wr => ∃ (k : Nat), i = .int .i64 k ∧ k ≤ fl ∧ F.find? (fun g => decide (n ≤ g.n)) = (F.drop k).find? (fun g => decide (n ≤ g.n)) ∧ EBlk wr w.heap.size ⟨0, 0⟩ ∧ Below w3.heap.size w3 wr) (fun i _ => (fl - intOf i).toNat)
    case atStart => exact ⟨0, rfl, by omega, rfl, HB3.out, Below.refl _ _⟩
    case round =>
      obtain ⟨k, rfl, hk, hfd, hbk, hbr⟩ := hrel
      have HFD := Lib.hid hfd
      have hbw : Below w.heap.size w wr := hb03.trans (hbr.mono hb03.size)
      have hlk := Box.lt hbk
      clear hfd
      by_cases hlt : k < fl
      · obtain ⟨ad, rfl, hab, hca⟩ := (HF.out.below hbr).seeE (by rw [HL.out]; omega)
        obtain ⟨x1, x2⟩ := hca k (by rw [HL.out]; omega)
        have HT := Lib.hid (find_drop (F := F) (n := n) (k := k) (by rw [HL.out]; omega))
        obtain ⟨x, hx⟩ : ∃ x, x = F[k]'(by rw [HL.out]; omega) := ⟨_, rfl⟩
        rw [← hx] at x1 x2 HT
        clear hx hca
        obtain ⟨xa, xn⟩ := x
        simp only at x1 x2 HT
        have hlt3 : (ad.add (k * 2)).block < w3.heap.size := by rw [block_of_add]; exact hab
        have hlw := hbr.size
        have HX := Lib.hid hbk
        by_cases hx : xn ≥ n
        · have HE := Lib.hid (show fitL n f t l = (⟨xa, n⟩, 0) by rw [HFT.out, HFD.out, HT.out, if_pos hx])
          obtain ⟨k0, k1⟩ := EBlk.cells hbk
          have f0 := Box.free hbk 0
          have f1 := Box.free hbk 1
          clear hbk
          go_wp2
          have hp := EBlk.cells (show EBlk _ w.heap.size ⟨xa, n⟩ from Box.push (eput ⟨xa, n⟩ HX.out) (.cells #[.int .i64 xa, .int .i64 xn] 27))
          simp only at hp
          rw [HE.out]
          exact bodyPost_ret (v := .tuple #[.agg #[.int .i64 xa, .int .i64 n], .int .i64 0]) (by simp [results, Try.results12, go_sem, hp.1, hp.2]) rfl ⟨rfl, ((hbw.setCell (by simp) _).setCell (by simp) _).alloc (by simpa using hbw.size) _⟩
        · have HE := Lib.hid (show F.find? (fun g => decide (n ≤ g.n)) = (F.drop (k + 1)).find? (fun g => decide (n ≤ g.n)) by rw [HFD.out, HT.out, if_neg hx])
          clear hbk
          go_wp2
          go_roundw
          case rel => exact ⟨k + 1, by go_num, by omega, HE.out, Box.push HX.out _, hbr.alloc hbr.size _⟩
          case measure => simp [intOf]; omega
      · have HE := Lib.hid (show fitL n f t l = (⟨0, 0⟩, 5) by rw [HFT.out, HFD.out, List.drop_of_length_le (by rw [HL.out]; omega)]; rfl)
        obtain ⟨k0, k1⟩ := EBlk.cells hbk
        have f0 := Box.free hbk 0
        have f1 := Box.free hbk 1
        have HX := Lib.hid hbk
        clear hbk
        go_wp2
        have hp := EBlk.cells (eput ⟨0, 0⟩ HX.out)
        simp only at hp
        rw [HE.out]
        exact bodyPost_ret (v := .tuple #[.agg #[.int .i64 0, .int .i64 0], .int .i64 5]) (by simp [results, Try.results12, go_sem, hp.1, hp.2]) rfl ⟨rfl, (hbw.setCell (by simp) _).setCell (by simp) _⟩
  · have HE := Lib.hid (show fitL n f t l = (⟨0, 0⟩, 1) by rw [fitL, if_neg hcond])
    have hcase : decide (Ok f t l) = false ∨ (decide (Ok f t l) = true ∧ n < 1) ∨ (decide (Ok f t l) = true ∧ ¬ n < 1 ∧ n > 2147483647) := by
      by_cases hok : Ok f t l
      · right
        by_cases h1 : n < 1
        · exact .inl ⟨decide_eq_true hok, h1⟩
        · refine .inr ⟨decide_eq_true hok, h1, ?_⟩
          by_cases h2 : n ≤ 2147483647
          · exact absurd ⟨hok, by omega, h2⟩ hcond
          · omega
      · exact .inl (decide_eq_false hok)
    clear hcond hS hp hr hs hl e1
    generalize decide (Ok f t l) = b at *
    go_wp2_with fail
    refine hm.mono ?_
    clear hm
    rintro e w2 ⟨rfl, hb2⟩
    have hbk : EBlk w2 w.heap.size ⟨0, 0⟩ := Box.on HB1.out hb2
    have hb02 := hb01.trans (hb2.mono hb01.size)
    have hlk := Box.lt hbk
    obtain ⟨k0, k1⟩ := EBlk.cells hbk
    have f0 := Box.free hbk 0
    have f1 := Box.free hbk 1
    have HX := Lib.hid hbk
    clear hbk hb2 HB1
    rcases hcase with rfl | ⟨rfl, h1⟩ | ⟨rfl, h1, h2⟩
    all_goals
      go_wp2
      have hp := EBlk.cells (eput ⟨0, 0⟩ HX.out)
      simp only at hp
      rw [HE.out]
      exact bodyPost_ret (v := .tuple #[.agg #[.int .i64 0, .int .i64 0], .int .i64 1]) (by simp [results, Try.results12, go_sem, hp.1, hp.2]) rfl ⟨rfl, (hb02.setCell (by simp) _).setCell (by simp) _⟩

end Go.Proofs.Ytodcngkcaeahhaa
