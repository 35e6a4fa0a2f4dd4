/- The walk of the law BlockApart. -/
import Derived.Test.YtaodhghpphpflaaBack
namespace Go.Proofs.Ytaodhghpphpflaa
open Go.RowKit

theorem has_nat {n a k : Nat} (h : a + k ≤ n) : hasB n a k = true := by
  unfold hasB
  exact decide_eq_true (by omega)
theorem write_nat {v : Value} {S : List ByteArray} {W : List Wr} {a : Nat} {ai : Int} {t : ByteArray} {w : World} (ha : ai = a) (h : DV w v S W) (hm : W.length ≤ 100000) (ht : t.size ≤ 65535) (hR : rightB S W = true) (hh : a + needN t.size ≤ S.length) :
    Calls Try.prog 11 #[v, .int .i64 ai, .string t] w fun e w' => ∃ v', e = .returned (.tuple #[v', .int .i64 0]) ∧ DV w' v' S (W ++ putL a (secsL t.data.toList)) ∧ Below w.heap.size w w' := by
  subst ha
  exact write_ok h hm ht hR (has_nat hh)
theorem right_write {S : List ByteArray} {W : List Wr} {a : Nat} {t : ByteArray} (hR : rightB S W = true) (hh : a + needN t.size ≤ S.length) : rightB S (W ++ putL a (secsL t.data.toList)) = true :=
  put_right hR (secs_fill _) (by rw [secs_len']; exact has_nat hh)
theorem len_write (W : List Wr) (a : Nat) (t : ByteArray) : (W ++ putL a (secsL t.data.toList)).length = W.length + needN t.size := by rw [List.length_append, put_len, secs_len']

/-- A value that is a disk, and the block of a variable that holds it. -/
structure Holds (w0 w : World) (g : Nat) (A : Option Addr) (n c : Nat) (B : Option Addr) (m d : Nat) (S : List ByteArray) (W : List Wr) : Prop where
  dv : DV w (.agg #[.slice A n c, .slice B m d]) S W
  blk : DBlk w g A n c B m d
  low : w0.heap.size ≤ g
  below : Below w0.heap.size w0 w
theorem Holds.on {w0 w w' : World} {g : Nat} {A : Option Addr} {n c : Nat} {B : Option Addr} {m d : Nat} {S : List ByteArray} {W : List Wr} (h : Holds w0 w g A n c B m d S W) (hb : Below w.heap.size w w') : Holds w0 w' g A n c B m d S W :=
  ⟨h.dv.on hb, Box.on h.blk hb, h.low, h.below.trans (hb.mono h.below.size)⟩
theorem Holds.fresh {w0 w : World} {A : Option Addr} {n c : Nat} {B : Option Addr} {m d : Nat} {S : List ByteArray} {W : List Wr} (h : DV w (.agg #[.slice A n c, .slice B m d]) S W) (hb : Below w0.heap.size w0 w) : Holds w0 (w.alloc (.cells #[.slice A n c, .slice B m d] 25)) w.heap.size A n c B m d S W :=
  ⟨h.on ((Below.refl _ _).alloc (Nat.le_refl _) _), Box.fresh _ _ _, hb.size, hb.alloc hb.size _⟩
theorem Holds.put {w0 w : World} {g : Nat} {A : Option Addr} {n c : Nat} {B : Option Addr} {m d : Nat} {S : List ByteArray} {W : List Wr} {A' : Option Addr} {n' c' : Nat} {B' : Option Addr} {m' d' : Nat} {S' : List ByteArray} {W' : List Wr} (h : Holds w0 w g A n c B m d S W) (hv : DV w (.agg #[.slice A' n' c', .slice B' m' d']) S' W') :
    Holds w0 ((w.setCell ⟨g, 0, none⟩ (.slice A' n' c')).setCell ⟨g, 1, none⟩ (.slice B' m' d')) g A' n' c' B' m' d' S' W' :=
  ⟨hv.apart h.blk A' n' c' B' m' d', Box.set (Box.set h.blk 0 _) 1 _, h.low, (h.below.setCell h.low _).setCell h.low _⟩

set_option maxHeartbeats 4000000 in
set_option maxRecDepth 100000 in
theorem apart_walk (a b : ByteArray) (first : Bool) (w : World) (ha : a.size ≤ maxLen) (hb : b.size ≤ maxLen) :
    Calls Try.prog 7 #[.string a, .string b, .bool first] w fun e w' => e = .returned (.bool true) ∧ Below w.heap.size w w' := by
  unfold maxLen at ha hb
  by_cases h1 : 500 < a.size
  · go_enter Try.func7, Try.ntmps7
    go_wp2_with fail
    refine (awake_true _).mono ?_
    rintro e w1 ⟨rfl, hb1⟩
    go_wp2
    go_ret
    exact ⟨rfl, hb1⟩
  by_cases h2 : 500 < b.size
  · have g1 : decide (500 < (a.size : Int)) = false := decide_eq_false (by omega)
    go_enter Try.func7, Try.ntmps7
    go_wp2_with fail
    refine (awake_true _).mono ?_
    rintro e w1 ⟨rfl, hb1⟩
    go_wp2
    go_ret
    exact ⟨rfl, hb1⟩
  have g1 : decide (500 < (a.size : Int)) = false := decide_eq_false (by omega)
  have g2 : decide (500 < (b.size : Int)) = false := decide_eq_false (by omega)
  have hna := need_room a.size
  have hnb := need_room b.size
  have HNA := Lib.hid (fun wx => need_in a.size wx (by omega))
  have HNB := Lib.hid (fun wx => need_in b.size wx (by omega))
  have HNW := Lib.hid (new_ok 60 w (by decide) (by decide))
  obtain ⟨n, hn⟩ : ∃ n, n = needN a.size := ⟨_, rfl⟩
  obtain ⟨m, hm⟩ : ∃ m, m = needN b.size := ⟨_, rfl⟩
  rw [← hn] at hna HNA
  rw [← hm] at hnb HNB
  have hn16 : n ≤ 16 := by omega
  have hm16 : m ≤ 16 := by omega
  obtain ⟨S, hS⟩ : ∃ S, S = List.replicate 60 zeroS := ⟨_, rfl⟩
  have hSl : S.length = 60 := by rw [hS, List.length_replicate]
  have HSL := Lib.hid hSl
  have HR0 := Lib.hid (show rightB S [] = true by rw [hS]; exact zero_right 60 (by decide) (by decide))
  rw [← hS] at HNW
  have HN := Lib.hid hn
  have HM := Lib.hid hm
  have HZa := Lib.hid (show a.size ≤ 65535 by omega)
  have HZb := Lib.hid (show b.size ≤ 65535 by omega)
  have ss1 := str_eq (x := a) rfl
  have ss2 := str_eq (x := b) rfl
  clear hS hn hm hna hnb h1 h2
  cases first with
  | true =>
    obtain ⟨W1, hW1⟩ : ∃ W1, W1 = [] ++ putL ((2 : Nat) : Int) (secsL a.data.toList) := ⟨_, rfl⟩
    obtain ⟨W2, hW2⟩ : ∃ W2, W2 = W1 ++ putL ((2 + n : Nat) : Int) (secsL b.data.toList) := ⟨_, rfl⟩
    have HR1 := Lib.hid (show rightB S W1 = true by rw [hW1]; exact right_write HR0.out (by rw [hSl, ← HN.out]; omega))
    have HR2 := Lib.hid (show rightB S W2 = true by rw [hW2]; exact right_write HR1.out (by rw [hSl, ← HM.out]; omega))
    have hl1 : W1.length = n := by rw [hW1, len_write, ← HN.out]; simp
    have hl2 : W2.length = n + m := by rw [hW2, len_write, hl1, ← HM.out]
    have HX := Lib.hid (show Lays S W2 (2) a by rw [hW2]; refine (show Lays S W1 (2) a by rw [hW1]; exact Lays.put S [] (2) a (by rw [hSl, ← HN.out]; omega)).apart _ _ (by rw [secs_len', hSl, ← HM.out]; omega) ?_; rw [secs_len', ← HN.out, ← HM.out]; omega)
    have HY := Lib.hid (show Lays S W2 (2 + n) b by rw [hW2]; exact Lays.put S W1 (2 + n) b (by rw [hSl, ← HM.out]; omega))
    have HW1 := Lib.hid hW1
    have HW2 := Lib.hid hW2
    have HL1 := Lib.hid hl1
    have HL2 := Lib.hid hl2
    clear hW1 hW2 hl1 hl2 hSl
    go_enter Try.func7, Try.ntmps7
    go_wp2_with fail
    refine HNW.out.mono ?_
    rintro e w1 ⟨v1, rfl, hv1, hb1⟩
    obtain ⟨A1, c1, B1, d1, rfl, hA1, hB1⟩ := hv1
    have hv1 : DV w1 _ S [] := ⟨A1, c1, B1, d1, rfl, hA1, hB1⟩
    rw [HSL.out, show ([] : List Wr).length = 0 from rfl] at hv1 ⊢
    have H1 := Lib.hid (Holds.fresh hv1 hb1)
    clear hv1 hb1 hA1 hB1 HNW
    go_wp2_with fail
    refine (HNA.out _).mono ?_
    rintro e w1a ⟨rfl, rfl⟩
    go_wp2_with fail
    refine (HNB.out _).mono ?_
    rintro e w1a ⟨rfl, rfl⟩
    have hwr := write_nat (a := 2) (ai := 2) (t := a) (by omega) H1.out.dv (by decide) HZa.out HR0.out (by rw [HSL.out, ← HN.out]; omega)
    rw [← HW1.out] at hwr
    go_wp2_with fail
    refine hwr.mono ?_
    clear hwr
    rintro e w2 ⟨v2, rfl, hv2, hb2⟩
    obtain ⟨A2, c2, B2, d2, rfl, hA2, hB2⟩ := hv2
    have hv2 : DV w2 _ S W1 := ⟨A2, c2, B2, d2, rfl, hA2, hB2⟩
    rw [HSL.out, HL1.out] at hv2 ⊢
    have H2 := Lib.hid (H1.out.on hb2)
    have H3 := Lib.hid (H2.out.put hv2)
    have f0 := Box.free H2.out.blk 0
    have f1 := Box.free H2.out.blk 1
    obtain ⟨k0, k1⟩ := DBlk.cells H2.out.blk
    have hz2 := Box.lt H2.out.blk
    have hwr := write_nat (a := 2 + n) (ai := 2 + (n : Int)) (t := b) (by omega) H3.out.dv (by rw [HL1.out]; omega) HZb.out HR1.out (by rw [HSL.out, ← HM.out]; omega)
    rw [← HW2.out] at hwr
    clear hv2 hb2 hA2 hB2 H1
    go_wp2_with fail
    refine hwr.mono ?_
    clear hwr f0 f1 k0 k1 hz2
    rintro e w4 ⟨v4, rfl, hv4, hb4⟩
    obtain ⟨A4, c4, B4, d4, rfl, hA4, hB4⟩ := hv4
    have hv4 : DV w4 _ S W2 := ⟨A4, c4, B4, d4, rfl, hA4, hB4⟩
    rw [HSL.out, HL2.out] at hv4 ⊢
    have H4 := Lib.hid (H3.out.on hb4)
    have H5 := Lib.hid (H4.out.put hv4)
    have f0 := Box.free H4.out.blk 0
    have f1 := Box.free H4.out.blk 1
    obtain ⟨k0, k1⟩ := DBlk.cells H4.out.blk
    have hz4 := Box.lt H4.out.blk
    have hrd := back_any (k := n) H5.out.dv (by rw [HL2.out]; omega) HR2.out HX.out HZa.out HN.out
    rw [show ((2 : Nat) : Int) = 2 from rfl] at hrd
    clear hv4 hb4 hA4 hB4 H2 H3
    go_wp2_with fail
    refine hrd.mono ?_
    clear hrd f0 f1 k0 k1 hz4
    rintro e w6 ⟨rfl, hb6⟩
    have H6 := Lib.hid (H5.out.on hb6)
    obtain ⟨k0, k1⟩ := DBlk.cells H6.out.blk
    have hz6 := Box.lt H6.out.blk
    have hrd := back_any (k := m) H6.out.dv (by rw [HL2.out]; omega) HR2.out HY.out HZb.out HM.out
    rw [show ((2 + n : Nat) : Int) = 2 + (n : Int) by omega] at hrd
    clear hb6 H4 H5
    go_wp2_with fail
    refine hrd.mono ?_
    clear hrd k0 k1 hz6
    rintro e w7 ⟨rfl, hb7⟩
    have H7 := Lib.hid (H6.out.on hb7)
    clear hb7 H6
    go_wp2_with fail
    refine (awake_true _).mono ?_
    rintro e w8 ⟨rfl, hb8⟩
    go_wp2
    go_ret
    exact ⟨rfl, H7.out.below.trans (hb8.mono H7.out.below.size)⟩
  | false =>
    obtain ⟨W1, hW1⟩ : ∃ W1, W1 = [] ++ putL ((2 + n : Nat) : Int) (secsL b.data.toList) := ⟨_, rfl⟩
    obtain ⟨W2, hW2⟩ : ∃ W2, W2 = W1 ++ putL ((2 : Nat) : Int) (secsL a.data.toList) := ⟨_, rfl⟩
    have HR1 := Lib.hid (show rightB S W1 = true by rw [hW1]; exact right_write HR0.out (by rw [hSl, ← HM.out]; omega))
    have HR2 := Lib.hid (show rightB S W2 = true by rw [hW2]; exact right_write HR1.out (by rw [hSl, ← HN.out]; omega))
    have hl1 : W1.length = m := by rw [hW1, len_write, ← HM.out]; simp
    have hl2 : W2.length = n + m := by rw [hW2, len_write, hl1, ← HN.out]; omega
    have HX := Lib.hid (show Lays S W2 (2 + n) b by rw [hW2]; refine (show Lays S W1 (2 + n) b by rw [hW1]; exact Lays.put S [] (2 + n) b (by rw [hSl, ← HM.out]; omega)).apart _ _ (by rw [secs_len', hSl, ← HN.out]; omega) ?_; rw [secs_len', ← HN.out, ← HM.out]; omega)
    have HY := Lib.hid (show Lays S W2 (2) a by rw [hW2]; exact Lays.put S W1 (2) a (by rw [hSl, ← HN.out]; omega))
    have HW1 := Lib.hid hW1
    have HW2 := Lib.hid hW2
    have HL1 := Lib.hid hl1
    have HL2 := Lib.hid hl2
    clear hW1 hW2 hl1 hl2 hSl
    go_enter Try.func7, Try.ntmps7
    go_wp2_with fail
    refine HNW.out.mono ?_
    rintro e w1 ⟨v1, rfl, hv1, hb1⟩
    obtain ⟨A1, c1, B1, d1, rfl, hA1, hB1⟩ := hv1
    have hv1 : DV w1 _ S [] := ⟨A1, c1, B1, d1, rfl, hA1, hB1⟩
    rw [HSL.out, show ([] : List Wr).length = 0 from rfl] at hv1 ⊢
    have H1 := Lib.hid (Holds.fresh hv1 hb1)
    clear hv1 hb1 hA1 hB1 HNW
    go_wp2_with fail
    refine (HNA.out _).mono ?_
    rintro e w1a ⟨rfl, rfl⟩
    go_wp2_with fail
    refine (HNB.out _).mono ?_
    rintro e w1a ⟨rfl, rfl⟩
    have hwr := write_nat (a := 2 + n) (ai := 2 + (n : Int)) (t := b) (by omega) H1.out.dv (by decide) HZb.out HR0.out (by rw [HSL.out, ← HM.out]; omega)
    rw [← HW1.out] at hwr
    go_wp2_with fail
    refine hwr.mono ?_
    clear hwr
    rintro e w2 ⟨v2, rfl, hv2, hb2⟩
    obtain ⟨A2, c2, B2, d2, rfl, hA2, hB2⟩ := hv2
    have hv2 : DV w2 _ S W1 := ⟨A2, c2, B2, d2, rfl, hA2, hB2⟩
    rw [HSL.out, HL1.out] at hv2 ⊢
    have H2 := Lib.hid (H1.out.on hb2)
    have H3 := Lib.hid (H2.out.put hv2)
    have f0 := Box.free H2.out.blk 0
    have f1 := Box.free H2.out.blk 1
    obtain ⟨k0, k1⟩ := DBlk.cells H2.out.blk
    have hz2 := Box.lt H2.out.blk
    have hwr := write_nat (a := 2) (ai := 2) (t := a) (by omega) H3.out.dv (by rw [HL1.out]; omega) HZa.out HR1.out (by rw [HSL.out, ← HN.out]; omega)
    rw [← HW2.out] at hwr
    clear hv2 hb2 hA2 hB2 H1
    go_wp2_with fail
    refine hwr.mono ?_
    clear hwr f0 f1 k0 k1 hz2
    rintro e w4 ⟨v4, rfl, hv4, hb4⟩
    obtain ⟨A4, c4, B4, d4, rfl, hA4, hB4⟩ := hv4
    have hv4 : DV w4 _ S W2 := ⟨A4, c4, B4, d4, rfl, hA4, hB4⟩
    rw [HSL.out, HL2.out] at hv4 ⊢
    have H4 := Lib.hid (H3.out.on hb4)
    have H5 := Lib.hid (H4.out.put hv4)
    have f0 := Box.free H4.out.blk 0
    have f1 := Box.free H4.out.blk 1
    obtain ⟨k0, k1⟩ := DBlk.cells H4.out.blk
    have hz4 := Box.lt H4.out.blk
    have hrd := back_any (k := n) H5.out.dv (by rw [HL2.out]; omega) HR2.out HY.out HZa.out HN.out
    rw [show ((2 : Nat) : Int) = 2 from rfl] at hrd
    clear hv4 hb4 hA4 hB4 H2 H3
    go_wp2_with fail
    refine hrd.mono ?_
    clear hrd f0 f1 k0 k1 hz4
    rintro e w6 ⟨rfl, hb6⟩
    have H6 := Lib.hid (H5.out.on hb6)
    obtain ⟨k0, k1⟩ := DBlk.cells H6.out.blk
    have hz6 := Box.lt H6.out.blk
    have hrd := back_any (k := m) H6.out.dv (by rw [HL2.out]; omega) HR2.out HX.out HZb.out HM.out
    rw [show ((2 + n : Nat) : Int) = 2 + (n : Int) by omega] at hrd
    clear hb6 H4 H5
    go_wp2_with fail
    refine hrd.mono ?_
    clear hrd k0 k1 hz6
    rintro e w7 ⟨rfl, hb7⟩
    have H7 := Lib.hid (H6.out.on hb7)
    clear hb7 H6
    go_wp2_with fail
    refine (awake_true _).mono ?_
    rintro e w8 ⟨rfl, hb8⟩
    go_wp2
    go_ret
    exact ⟨rfl, H7.out.below.trans (hb8.mono H7.out.below.size)⟩

end Go.Proofs.Ytaodhghpphpflaa
