/- The walks of the document's Fit and of small. -/
import Derived.Test.YtodcngkcaeahhaaWFree
namespace Go.Proofs.Ytodcngkcaeahhaa
open Go.RowKit

def RBlk (w : World) (g : Nat) (x : Ex) : Prop := Box w g 34 #[.int .i64 x.a, .int .i64 x.n]
theorem RBlk.cells {w : World} {g : Nat} {x : Ex} (h : RBlk w g x) : w.cell? ⟨g, 0, none⟩ = some (.int .i64 x.a) ∧ w.cell? ⟨g, 1, none⟩ = some (.int .i64 x.n) := ⟨Box.cell h 0 rfl, Box.cell h 1 rfl⟩
theorem rput {w : World} {g : Nat} {x : Ex} (y : Ex) (h : RBlk w g x) : RBlk ((w.setCell ⟨g, 0, none⟩ (.int .i64 y.a)).setCell ⟨g, 1, none⟩ (.int .i64 y.n)) g y := Box.set (Box.set h 0 _) 1 _

set_option maxHeartbeats 2000000 in
theorem dfit_any (n f t : Int) (A : Option Addr) (c : Nat) (l : List Ex) (w : World) (hA : Exs w w.heap.size A l) (hn : l.length ≤ 100000) (hsm : Ok f t l → t - f ≤ 100) :
    Calls Try.prog 15 #[.int .i64 n, .int .i64 f, .int .i64 t, .slice A l.length c] w fun e w' => e = .returned (.tuple #[.agg #[.int .i64 (fitL n f t l).1.a, .int .i64 (fitL n f t l).1.n], .int .i64 (fitL n f t l).2]) ∧ Below w.heap.size w w' := by
  have hb0 : Below w.heap.size w (w.alloc (.cells #[.int .i64 0, .int .i64 0] 34)) := (Below.refl _ _).alloc (Nat.le_refl _) _
  have hm := dright_any f t A c l _ (Lies.on hA hb0) hn
  have HG := Lib.hid (fun w2 (h : Below w.heap.size w w2) => dfree_any f t A c l w2 (Lies.on hA h) hn hsm)
  have HB0 := Lib.hid (show RBlk (w.alloc (.cells #[.int .i64 0, .int .i64 0] 34)) w.heap.size ⟨0, 0⟩ from Box.fresh _ _ _)
  have hfl := free_len f t l
  by_cases hcond : Ok f t l ∧ 1 ≤ n ∧ n ≤ 2147483647
  · obtain ⟨hok, hn1, hn2⟩ := hcond
    rw [decide_eq_true hok] at hm
    have HFT := Lib.hid (show fitL n f t l = match (freeL f t l).find? (fun g => decide (n ≤ g.n)) with | some g => (⟨g.a, n⟩, 0) | none => (⟨0, 0⟩, 5) by rw [fitL, if_pos ⟨hok, hn1, hn2⟩]; rfl)
    generalize hl : l.length = m at *
    clear hA hok hsm hl
    generalize hFF : freeL f t l = F at *
    clear hFF
    go_enter Try.func15, Try.ntmps15
    go_wp2_with fail
    refine hm.mono ?_
    clear hm
    rintro e w2 ⟨rfl, hb2⟩
    have hb02 := hb0.trans (hb2.mono hb0.size)
    have HB2 := Lib.hid (show RBlk w2 w.heap.size ⟨0, 0⟩ from Box.on HB0.out hb2)
    have hg := HG.out w2 hb02
    clear HG HB0 hb0 hb2
    have g1 : ¬ n < 1 := by omega
    have g2 : ¬ n > 2147483647 := by omega
    go_wp2_with fail
    refine hg.mono ?_
    clear hg
    rintro e w3 ⟨A3, c3, rfl, hF, hb3, _⟩
    have HB3 := Lib.hid (show RBlk w3 w.heap.size ⟨0, 0⟩ from Box.on HB2.out hb3)
    have hb03 : Below w.heap.size w w3 := hb02.trans (hb3.mono hb02.size)
    have HF := Lib.hid hF
    generalize hl : F.length = fl at *
    have HL := Lib.hid hl
    clear hF hl HB2 hb02 hb3
    go_wp2
    go_loopw [12] (fun i wr => ∃ (k : Nat), i = .int .i64 k ∧ k ≤ fl ∧ F.find? (fun g => decide (n ≤ g.n)) = (F.drop k).find? (fun g => decide (n ≤ g.n)) ∧ RBlk wr w.heap.size ⟨0, 0⟩ ∧ Below w3.heap.size w3 wr) (fun i _ => (fl - intOf i).toNat)
    case atStart => exact ⟨0, rfl, by omega, rfl, HB3.out, Below.refl _ _⟩
    case round =>
      obtain ⟨k, rfl, hk, hfd, hbk, hbr⟩ := hrel
      have HFD := Lib.hid hfd
      have hbw : Below w.heap.size w wr := hb03.trans (hbr.mono hb03.size)
      have hlk := Box.lt hbk
      clear hfd
      by_cases hlt : k < fl
      · obtain ⟨ad, rfl, hab, hca⟩ := (HF.out.below hbr).seeE (by rw [HL.out]; omega)
        obtain ⟨x1, x2⟩ := hca k (by rw [HL.out]; omega)
        have HT := Lib.hid (find_drop (F := F) (n := n) (k := k) (by rw [HL.out]; omega))
        obtain ⟨x, hx⟩ : ∃ x, x = F[k]'(by rw [HL.out]; omega) := ⟨_, rfl⟩
        rw [← hx] at x1 x2 HT
        clear hx hca
        obtain ⟨xa, xn⟩ := x
        simp only at x1 x2 HT
        have hlt3 : (ad.add (k * 2)).block < w3.heap.size := by rw [block_of_add]; exact hab
        have hlw := hbr.size
        have HX := Lib.hid hbk
        by_cases hx : xn ≥ n
        · have HE := Lib.hid (show fitL n f t l = (⟨xa, n⟩, 0) by rw [HFT.out, HFD.out, HT.out, if_pos hx])
          obtain ⟨k0, k1⟩ := RBlk.cells hbk
          have f0 := Box.free hbk 0
          have f1 := Box.free hbk 1
          clear hbk
          go_wp2
          have hp := RBlk.cells (rput ⟨xa, n⟩ HX.out)
          simp only at hp
          rw [HE.out]
          exact bodyPost_ret (v := .tuple #[.agg #[.int .i64 xa, .int .i64 n], .int .i64 0]) (by simp [results, Try.results15, go_sem, hp.1, hp.2]) rfl ⟨rfl, (hbw.setCell (by simp) _).setCell (by simp) _⟩
        · have HE := Lib.hid (show F.find? (fun g => decide (n ≤ g.n)) = (F.drop (k + 1)).find? (fun g => decide (n ≤ g.n)) by rw [HFD.out, HT.out, if_neg hx])
          clear hbk
          go_wp2
          go_roundw
          case rel => exact ⟨k + 1, by go_num, by omega, HE.out, HX.out, hbr⟩
          case measure => simp [intOf]; omega
      · have HE := Lib.hid (show fitL n f t l = (⟨0, 0⟩, 5) by rw [HFT.out, HFD.out, List.drop_of_length_le (by rw [HL.out]; omega)]; rfl)
        obtain ⟨k0, k1⟩ := RBlk.cells hbk
        have f0 := Box.free hbk 0
        have f1 := Box.free hbk 1
        have HX := Lib.hid hbk
        clear hbk
        go_wp2
        have hp := RBlk.cells (rput ⟨0, 0⟩ HX.out)
        simp only at hp
        rw [HE.out]
        exact bodyPost_ret (v := .tuple #[.agg #[.int .i64 0, .int .i64 0], .int .i64 5]) (by simp [results, Try.results15, go_sem, hp.1, hp.2]) rfl ⟨rfl, (hbw.setCell (by simp) _).setCell (by simp) _⟩
  · have HE := Lib.hid (show fitL n f t l = (⟨0, 0⟩, 1) by rw [fitL, if_neg hcond])
    have hcase : decide (Ok f t l) = false ∨ (decide (Ok f t l) = true ∧ n < 1) ∨ (decide (Ok f t l) = true ∧ ¬ n < 1 ∧ n > 2147483647) := by
      by_cases hok : Ok f t l
      · right
        by_cases h1 : n < 1
        · exact .inl ⟨decide_eq_true hok, h1⟩
        · refine .inr ⟨decide_eq_true hok, h1, ?_⟩
          by_cases h2 : n ≤ 2147483647
          · exact absurd ⟨hok, by omega, h2⟩ hcond
          · omega
      · exact .inl (decide_eq_false hok)
    generalize hl : l.length = m at *
    clear hcond hA hl hsm HG hfl
    generalize decide (Ok f t l) = b at *
    go_enter Try.func15, Try.ntmps15
    go_wp2_with fail
    refine hm.mono ?_
    clear hm
    rintro e w2 ⟨rfl, hb2⟩
    have hbk : RBlk w2 w.heap.size ⟨0, 0⟩ := Box.on HB0.out hb2
    have hb02 := hb0.trans (hb2.mono hb0.size)
    have hlk := Box.lt hbk
    obtain ⟨k0, k1⟩ := RBlk.cells hbk
    have f0 := Box.free hbk 0
    have f1 := Box.free hbk 1
    have HX := Lib.hid hbk
    clear hbk hb2 HB0 hb0
    rcases hcase with rfl | ⟨rfl, h1⟩ | ⟨rfl, h1, h2⟩
    all_goals
      go_wp2
      have hp := RBlk.cells (rput ⟨0, 0⟩ HX.out)
      simp only at hp
      rw [HE.out]
      exact bodyPost_ret (v := .tuple #[.agg #[.int .i64 0, .int .i64 0], .int .i64 1]) (by simp [results, Try.results15, go_sem, hp.1, hp.2]) rfl ⟨rfl, (hb02.setCell (by simp) _).setCell (by simp) _⟩

abbrev Small (f t : Int) (m : Nat) : Prop := m ≤ 30 ∧ (f < 0 ∨ t < f ∨ t > 2147483647 ∨ t - f ≤ 100)

set_option maxHeartbeats 1000000 in
theorem small_any (f t : Int) (A : Option Addr) (c m : Nat) (w : World) :
    Calls Try.prog 9 #[.int .i64 f, .int .i64 t, .slice A m c] w fun e w' => e = .returned (.bool (decide (Small f t m))) ∧ w' = w := by
  by_cases h1 : m ≤ 30
  · have g1 : (m : Int) ≤ 30 := by omega
    by_cases h2 : f < 0
    · rw [decide_eq_true (show Small f t m from ⟨h1, .inl h2⟩)]
      go_enter Try.func9, Try.ntmps9
      go_wp2
      go_ret
      exact ⟨rfl, rfl⟩
    by_cases h3 : t < f
    · rw [decide_eq_true (show Small f t m from ⟨h1, .inr (.inl h3)⟩)]
      go_enter Try.func9, Try.ntmps9
      go_wp2
      go_ret
      exact ⟨rfl, rfl⟩
    by_cases h4 : t > 2147483647
    · rw [decide_eq_true (show Small f t m from ⟨h1, .inr (.inr (.inl h4))⟩)]
      go_enter Try.func9, Try.ntmps9
      go_wp2
      go_ret
      exact ⟨rfl, rfl⟩
    by_cases h5 : t - f ≤ 100
    · rw [decide_eq_true (show Small f t m from ⟨h1, .inr (.inr (.inr h5))⟩)]
      go_enter Try.func9, Try.ntmps9
      go_wp2
      go_ret
      exact ⟨rfl, rfl⟩
    · rw [decide_eq_false (show ¬ Small f t m from fun h => by have := h.2; omega)]
      go_enter Try.func9, Try.ntmps9
      go_wp2
      go_ret
      exact ⟨rfl, rfl⟩
  · have g1 : ¬ (m : Int) ≤ 30 := by omega
    rw [decide_eq_false (show ¬ Small f t m from fun h => h1 h.1)]
    go_enter Try.func9, Try.ntmps9
    go_wp2
    go_ret
    exact ⟨rfl, rfl⟩

end Go.Proofs.Ytodcngkcaeahhaa
