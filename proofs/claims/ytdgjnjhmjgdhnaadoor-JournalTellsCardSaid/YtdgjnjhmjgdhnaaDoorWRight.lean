/- The walks of mayHave, fill, has and Right. -/
import Derived.Test.YtdgjnjhmjgdhnaaDoorDk
import Derived.Test.YtdgjnjhmjgdhnaaDoorRows
import Derived.WalkKit
namespace Go.Proofs.YtdgjnjhmjgdhnaaDoor
open Go.RowKit

set_option maxHeartbeats 400000 in
theorem may_any (n : Int) (w : World) :
    Calls Tryd.prog 43 #[.int .i64 n] w fun e w' => e = .returned (.bool (decide (1 ≤ n) && decide (n ≤ 512))) ∧ w' = w := by
  by_cases h1 : 1 ≤ n
  · by_cases h2 : n ≤ 512
    · rw [decide_eq_true h1, decide_eq_true h2]
      go_enter Tryd.func43, Tryd.ntmps43
      go_wp2
      go_ret
      exact ⟨rfl, rfl⟩
    · rw [decide_eq_true h1, decide_eq_false h2]
      go_enter Tryd.func43, Tryd.ntmps43
      go_wp2
      go_ret
      exact ⟨rfl, rfl⟩
  · rw [decide_eq_false h1]
    go_enter Tryd.func43, Tryd.ntmps43
    go_wp2
    go_ret
    exact ⟨rfl, rfl⟩

set_option maxHeartbeats 400000 in
theorem fill_any (A : Option Addr) (c : Nat) (l : List ByteArray) (w : World) (hA : Strs w w.heap.size A l) (hn : l.length ≤ maxLen) :
    Calls Tryd.prog 56 #[.slice A l.length c] w fun e w' => e = .returned (.bool (fillB l)) ∧ w' = w := by
  unfold maxLen at hn
  generalize hl : l.length = n at *
  have HL := Lib.hid hl
  have HA := Lib.hid hA
  clear hl hA
  go_enter Tryd.func56, Tryd.ntmps56
  go_wp2
  go_loopw [7] (fun i wr => ∃ (k : Nat), i = .int .i64 k ∧ k ≤ n ∧ fillB (l.take k) = true ∧ wr = w) (fun i _ => (n - intOf i).toNat)
  case atStart => exact ⟨0, rfl, by omega, rfl, rfl⟩
  case round =>
    obtain ⟨k, rfl, hk, hf, rfl⟩ := hrel
    have HF := Lib.hid hf
    clear hf
    by_cases hlt : k < n
    · obtain ⟨ad, rfl, hab, hca⟩ := HA.out (by rw [HL.out]; omega)
      have c1 := hca k (by rw [HL.out]; omega)
      have HOK := Lib.hid (fill_take l k (by rw [HL.out]; omega) HF.out)
      have HBAD := Lib.hid (fill_bad l k (by rw [HL.out]; omega))
      generalize l[k]'(by rw [HL.out]; omega) = x at *
      clear hca
      by_cases hx : x.size = 32
      · have hq : ((x.size : Int) != 32) = false := by simp; omega
        have HX := Lib.hid hx
        clear hx
        go_wp2
        go_roundw
        case rel => exact ⟨k + 1, by go_num, by omega, HOK.out HX.out, by trivial⟩
        case measure => simp [intOf]; omega
      · have hq : ((x.size : Int) != 32) = true := by simp; omega
        have HX := Lib.hid hx
        clear hx
        go_wp2
        go_ret
        exact ⟨by rw [HBAD.out HX.out]; rfl, rfl⟩
    · have HE := Lib.hid (show fillB l = true by have h := HF.out; rwa [List.take_of_length_le (by rw [HL.out]; omega)] at h)
      go_wp2
      go_ret
      exact ⟨by rw [HE.out]; rfl, rfl⟩

/-- A disk that lies in a block of its own. -/
def DBlk (w : World) (g : Nat) (A : Option Addr) (n c : Nat) (B : Option Addr) (m d : Nat) : Prop := Box w g 36 #[.slice A n c, .slice B m d]
theorem DBlk.cells {w : World} {g : Nat} {A : Option Addr} {n c : Nat} {B : Option Addr} {m d : Nat} (h : DBlk w g A n c B m d) : w.cell? ⟨g, 0, none⟩ = some (.slice A n c) ∧ w.cell? ⟨g, 1, none⟩ = some (.slice B m d) :=
  ⟨Box.cell h 0 rfl, Box.cell h 1 rfl⟩

set_option maxHeartbeats 400000 in
theorem has_any (A : Option Addr) (c : Nat) (B : Option Addr) (n m d : Nat) (a k : Int) (w : World) (hn : n ≤ 1000000) :
    Calls Tryd.prog 52 #[.agg #[.slice A n c, .slice B m d], .int .i64 a, .int .i64 k] w fun e w' => e = .returned (.bool (hasB n a k)) ∧ Below w.heap.size w w' := by
  have hfresh : Below w.heap.size w (w.alloc (.cells #[.slice A n c, .slice B m d] 36)) := (Below.refl _ _).alloc (Nat.le_refl _) _
  have HF := Lib.hid hfresh
  clear hfresh
  unfold hasB
  by_cases h1 : 0 ≤ a
  · by_cases h2 : a ≤ n
    · by_cases h3 : 0 ≤ k
      · by_cases h4 : k ≤ n - a
        · rw [decide_eq_true (show 0 ≤ a ∧ a ≤ n ∧ 0 ≤ k ∧ k ≤ n - a from ⟨h1, h2, h3, h4⟩)]
          go_enter Tryd.func52, Tryd.ntmps52
          go_wp2
          go_ret
          exact ⟨rfl, HF.out⟩
        · rw [decide_eq_false (show ¬ (0 ≤ a ∧ a ≤ n ∧ 0 ≤ k ∧ k ≤ n - a) from fun h => h4 h.2.2.2)]
          go_enter Tryd.func52, Tryd.ntmps52
          go_wp2
          go_ret
          exact ⟨rfl, HF.out⟩
      · rw [decide_eq_false (show ¬ (0 ≤ a ∧ a ≤ n ∧ 0 ≤ k ∧ k ≤ n - a) from fun h => h3 h.2.2.1)]
        go_enter Tryd.func52, Tryd.ntmps52
        go_wp2
        go_ret
        exact ⟨rfl, HF.out⟩
    · rw [decide_eq_false (show ¬ (0 ≤ a ∧ a ≤ n ∧ 0 ≤ k ∧ k ≤ n - a) from fun h => h2 h.2.1)]
      go_enter Tryd.func52, Tryd.ntmps52
      go_wp2
      go_ret
      exact ⟨rfl, HF.out⟩
  · rw [decide_eq_false (show ¬ (0 ≤ a ∧ a ≤ n ∧ 0 ≤ k ∧ k ≤ n - a) from fun h => h1 h.1)]
    go_enter Tryd.func52, Tryd.ntmps52
    go_wp2
    go_ret
    exact ⟨rfl, HF.out⟩

theorem wr_take (n : Nat) (W : List Wr) (k : Nat) (h : k < W.length) (hf : (W.take k).all (wrB n) = true) (hx : wrB n W[k] = true) : (W.take (k + 1)).all (wrB n) = true := by
  rw [List.take_succ_eq_append_getElem h, List.all_append, hf]
  simp [hx]
theorem wr_bad (n : Nat) (W : List Wr) (k : Nat) (h : k < W.length) (hx : wrB n W[k] = false) : W.all (wrB n) = false := by
  rw [List.all_eq_false]
  exact ⟨W[k], List.getElem_mem h, by simpa using hx⟩

set_option maxHeartbeats 1000000 in
theorem right_any (A : Option Addr) (c : Nat) (S : List ByteArray) (B : Option Addr) (d : Nat) (W : List Wr) (w : World) (hA : Strs w w.heap.size A S) (hB : Wrs w w.heap.size B W) (hn : S.length ≤ 1000000) (hm : W.length ≤ 1000000) :
    Calls Tryd.prog 46 #[.agg #[.slice A S.length c, .slice B W.length d]] w fun e w' => e = .returned (.bool (rightB S W)) ∧ Below w.heap.size w w' := by
  have hfresh : Below w.heap.size w (w.alloc (.cells #[.slice A S.length c, .slice B W.length d] 36)) := (Below.refl _ _).alloc (Nat.le_refl _) _
  have hf := fill_any A c S (w.alloc (.cells #[.slice A S.length c, .slice B W.length d] 36)) (hA.on hfresh) (by unfold maxLen; omega)
  have HRB := Lib.hid (show rightB S W = ((decide (1 ≤ (S.length : Int)) && decide ((S.length : Int) ≤ 512)) && (fillB S && W.all (wrB S.length))) by
    unfold rightB; congr 2 <;> (simp only [decide_eq_decide]; omega))
  generalize hs : S.length = n at *
  generalize hl : W.length = m at *
  generalize hrb : rightB S W = rb at *
  have HL := Lib.hid hl
  have HB := Lib.hid hB
  have HF := Lib.hid hfresh
  clear hl hB hA hs hfresh hrb
  go_enter Tryd.func46, Tryd.ntmps46
  go_wp2_with fail
  refine (may_any (n : Int) _).mono ?_
  rintro e w1 ⟨rfl, rfl⟩
  cases hmay : (decide (1 ≤ (n : Int)) && decide ((n : Int) ≤ 512)) with
  | false =>
    have HE := Lib.hid (show rb = false by have h := HRB.out; rw [hmay] at h; simpa using h)
    clear hmay
    go_wp2
    go_ret
    exact ⟨by rw [HE.out]; rfl, HF.out⟩
  | true =>
  have HRB := Lib.hid (show rb = (fillB S && W.all (wrB n)) by have h := HRB.out; rw [hmay] at h; simpa using h)
  clear hmay
  go_wp2_with fail
  refine hf.mono ?_
  rintro e w1 ⟨rfl, rfl⟩
  clear hf
  cases hfl : fillB S with
  | false =>
    have HE := Lib.hid (show rb = false by have h := HRB.out; rw [hfl] at h; simpa using h)
    clear hfl
    go_wp2
    go_ret
    exact ⟨by rw [HE.out]; rfl, HF.out⟩
  | true =>
  have HRB := Lib.hid (show rb = W.all (wrB n) by have h := HRB.out; rw [hfl] at h; simpa using h)
  clear hfl
  go_wp2
  go_loopw [19] (fun i wr => ∃ (k : Nat), i = .int .i64 k ∧ k ≤ m ∧ (W.take k).all (wrB n) = true ∧ DBlk wr w.heap.size A n c B m d ∧ Below w.heap.size w wr) (fun i _ => (m - intOf i).toNat)
  case atStart => exact ⟨0, rfl, by omega, rfl, Box.fresh _ _ _, HF.out⟩
  case round =>
    obtain ⟨k, rfl, hk, hf, hd, hbr⟩ := hrel
    have HT := Lib.hid hf
    clear hf
    by_cases hlt : k < m
    · obtain ⟨ad, rfl, hab, hca⟩ := (HB.out.below hbr).seeW (by rw [HL.out]; omega)
      obtain ⟨x1, x2⟩ := hca k (by rw [HL.out]; omega)
      have HOK := Lib.hid (wr_take n W k (by rw [HL.out]; omega) HT.out)
      have HBAD := Lib.hid (wr_bad n W k (by rw [HL.out]; omega))
      generalize W[k]'(by rw [HL.out]; omega) = x at *
      obtain ⟨xa, xt⟩ := x
      simp only at x1 x2
      clear hca
      obtain ⟨d1, d2⟩ := DBlk.cells hd
      have HD := Lib.hid hd
      have hld := Box.lt hd
      have hlt3 : (ad.add (k * 2)).block < w.heap.size := by rw [block_of_add]; exact hab
      have HB2 := Lib.hid (show Below w.heap.size w (wr.alloc (.cells #[.int .i64 xa, .string xt] 83)) from hbr.alloc hbr.size _)
      have HD2 := Lib.hid (show DBlk (wr.alloc (.cells #[.int .i64 xa, .string xt] 83)) w.heap.size (A := A) (n := n) (c := c) (B := some ad) (m := m) (d := d) from Box.push HD.out _)
      clear hd
      have HW := Lib.hid (show wrB n ⟨xa, xt⟩ = (xt.size == 32 && (decide (0 ≤ xa) && decide (xa < n))) from rfl)
      by_cases hx : xt.size = 32
      · have hq : ((xt.size : Int) != 32) = false := by simp; omega
        by_cases h0 : xa < 0
        · have HX := Lib.hid (HBAD.out (by rw [HW.out]; simp; omega))
          clear hx
          go_wp2
          go_ret
          exact ⟨by rw [HRB.out, HX.out]; rfl, HB2.out⟩
        · by_cases h1 : xa < n
          · have HX := Lib.hid (HOK.out (by rw [HW.out]; simp; omega))
            have h2 : ¬ (n : Int) ≤ xa := by omega
            clear hx
            go_wp2
            go_roundw
            case rel => exact ⟨k + 1, by go_num, by omega, HX.out, HD2.out, HB2.out⟩
            case measure => simp [intOf]; omega
          · have HX := Lib.hid (HBAD.out (by rw [HW.out]; simp; omega))
            have h2 : (n : Int) ≤ xa := by omega
            clear hx
            go_wp2
            go_ret
            exact ⟨by rw [HRB.out, HX.out]; rfl, HB2.out⟩
      · have hq : ((xt.size : Int) != 32) = true := by simp; omega
        have HX := Lib.hid (HBAD.out (by rw [HW.out]; simp [hx]))
        clear hx
        go_wp2
        go_ret
        exact ⟨by rw [HRB.out, HX.out]; rfl, HB2.out⟩
    · have HE := Lib.hid (show rb = true by rw [HRB.out]; have h := HT.out; rwa [List.take_of_length_le (by rw [HL.out]; omega)] at h)
      go_wp2
      go_ret
      exact ⟨by rw [HE.out]; rfl, hbr⟩

end Go.Proofs.YtdgjnjhmjgdhnaaDoor
