/- The walk of the law PackTexts, out of the contracts: it returns true, whatever the texts and the bytes; nothing that was there changes. -/
import Derived.Test.YtngiadcbmfbonaaAwake
import Derived.Test.YtngiadcbmfbonaaBackPlain
namespace Go.Proofs.Ytngiadcbmfbonaa
open Go.RowKit

theorem all_take {p : ByteArray → Prop} {ss : List ByteArray} {k : Nat} (h : k < ss.length) (ha : ∀ t ∈ ss.take k, p t) (hk : p ss[k]) : ∀ t ∈ ss.take (k + 1), p t := by
  intro t ht
  rw [List.take_succ_eq_append_getElem h, List.mem_append, List.mem_singleton] at ht
  rcases ht with ht | rfl
  · exact ha t ht
  · exact hk

set_option maxHeartbeats 1000000 in
set_option maxRecDepth 100000 in
theorem texts_walk (A : Option Addr) (c : Nat) (ss : List ByteArray) (s : ByteArray) (w : World) (hA : Strs w w.heap.size A ss) (hn : ss.length ≤ maxLen) (hz : ∀ t ∈ ss, t.size ≤ maxLen) (hs : s.size ≤ maxLen) :
    Calls Try.prog 4 #[.slice A ss.length c, .string s] w fun e w' => e = .returned (.bool true) ∧ Below w.heap.size w w' := by
  have HA := Lib.hid hA
  have HZ := Lib.hid hz
  have HM := Lib.hid hs
  unfold maxLen at hn hs
  clear hA hz
  generalize hl : ss.length = n at *
  have HL := Lib.hid hl
  clear hl
  by_cases h30 : 30 < n
  · go_enter Try.func4, Try.ntmps4
    go_wp2_with fail
    refine (awake_true _).mono ?_
    rintro e w5 ⟨rfl, hb5⟩
    go_wp2
    go_ret
    exact ⟨rfl, hb5⟩
  by_cases h300 : 300 < s.size
  · have hd : ¬ (30 : Int) < n := by omega
    go_enter Try.func4, Try.ntmps4
    go_wp2_with fail
    refine (awake_true _).mono ?_
    rintro e w5 ⟨rfl, hb5⟩
    go_wp2
    go_ret
    exact ⟨rfl, hb5⟩
  have hd1 : decide ((30 : Int) < n) = false := by simp; omega
  have hd2 : decide ((300 : Int) < s.size) = false := by simp; omega
  go_enter Try.func4, Try.ntmps4
  go_wp2_with fail
  go_loopw [32] (fun i wr => ∃ (k : Nat), i = .int .i64 k ∧ k ≤ n ∧ (∀ t ∈ ss.take k, t.size ≤ 300) ∧ Below w.heap.size w wr) (fun i _ => (n - intOf i).toNat)
  case atStart => exact ⟨0, rfl, by omega, by simp, Below.refl _ _⟩
  case round =>
    obtain ⟨k, rfl, hk, hall, hbr⟩ := hrel
    have HAL := Lib.hid hall
    clear hall
    by_cases hlt : k < n
    · obtain ⟨a1, rfl, hab, hca⟩ := (HA.out.below hbr) (by rw [HL.out]; omega)
      have c1 := hca k (by rw [HL.out]; omega)
      have hm := HZ.out _ (List.getElem_mem (by rw [HL.out]; omega : k < ss.length))
      obtain ⟨x, hx⟩ : ∃ x, x = ss[k]'(by rw [HL.out]; omega) := ⟨_, rfl⟩
      rw [← hx] at c1 hm
      have HX := Lib.hid hx
      unfold maxLen at hm
      clear hx hca
      by_cases hxo : 300 < x.size
      · go_wp2_with fail
        refine (awake_true _).mono ?_
        rintro e w5 ⟨rfl, hb5⟩
        go_wp2
        go_ret
        exact ⟨rfl, hbr.trans (hb5.mono hbr.size)⟩
      · go_wp2
        go_roundw
        case rel => exact ⟨k + 1, by go_num, by omega, all_take (p := fun t => t.size ≤ 300) (by rw [HL.out]; omega) HAL.out (by rw [← HX.out]; omega), hbr⟩
        case measure => simp [intOf]; omega
    · have HN := Lib.hid (show ss.length ≤ 65536 by rw [HL.out]; omega)
      go_wp2_with fail
      have hcl := texts_any A c ss wr ((HA.out.below hbr).more hbr.size) HN.out HZ.out
      rw [HL.out] at hcl
      refine hcl.mono ?_
      clear hcl
      rintro e w1 ⟨rfl, hb1⟩
      have hb01 : Below w.heap.size w w1 := hbr.trans (hb1.mono hbr.size)
      go_wp2_with fail
      have hcl := rtexts_any A c ss w1 ((HA.out.below hb01).more hb01.size) HN.out HZ.out
      rw [HL.out] at hcl
      refine hcl.mono ?_
      clear hcl
      rintro e w2 ⟨rfl, hb2⟩
      have hb02 : Below w.heap.size w w2 := hb01.trans (hb2.mono hb01.size)
      go_wp2_with fail
      refine (tt_any s _ HM.out).mono ?_
      rintro e w3 ⟨rfl, hb3⟩
      have hb03 : Below w.heap.size w w3 := hb02.trans (hb3.mono hb02.size)
      go_wp2_with fail
      refine (rtt_any s _ HM.out).mono ?_
      rintro e w4 ⟨rfl, hb4⟩
      have hb04 : Below w.heap.size w w4 := hb03.trans (hb4.mono hb03.size)
      go_wp2_with fail
      refine (parts_any s _ (by omega)).mono ?_
      rintro e w5 ⟨A5, c5, rfl, hs5, hb5⟩
      have hb05 : Below w.heap.size w w5 := hb04.trans (hb5.mono hb04.size)
      go_wp2_with fail
      refine (rparts_any s _ (by omega)).mono ?_
      rintro e w6 ⟨A6, c6, rfl, hs6, hb6⟩
      have hb06 : Below w.heap.size w w6 := hb05.trans (hb6.mono hb05.size)
      have H5 := Lib.hid ((hs5.below hb6).more hb6.size)
      have H6 := Lib.hid hs6
      clear hs5 hs6 hb1 hb2 hb3 hb4 hb5 hb6 hb01 hb02 hb03 hb04 hb05
      generalize textsS ss = y1
      generalize textsE ss = y2
      generalize ttT s = y3
      generalize ttR s = y4
      generalize ttE s = y5
      generalize partsE s = y6
      have hpl : (partsL s).length ≤ maxLen := by have := partsL_len s; unfold maxLen; omega
      generalize partsL s = y7 at *
      have HP := Lib.hid hpl
      clear hpl
      go_wp2_with fail
      have hcl := same_any A5 A6 c5 c6 y7 y7 w6 H5.out H6.out HP.out HP.out
      rw [decide_eq_true rfl] at hcl
      refine hcl.mono ?_
      clear hcl
      rintro e w7 ⟨rfl, hb7⟩
      have hb07 : Below w.heap.size w w7 := hb06.trans (hb7.mono hb06.size)
      clear hb7 hb06
      go_wp2_with fail
      refine (awake_true _).mono ?_
      rintro e w8 ⟨rfl, hb8⟩
      go_wp2
      go_ret
      exact ⟨rfl, hb07.trans (hb8.mono hb07.size)⟩

end Go.Proofs.Ytngiadcbmfbonaa
