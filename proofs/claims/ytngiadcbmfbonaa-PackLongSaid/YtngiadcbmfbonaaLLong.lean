/- The walk of the law PackLong, out of the contracts: it returns true, whatever the number; nothing that was there changes. -/
import Derived.Test.YtngiadcbmfbonaaAwake
import Derived.Test.YtngiadcbmfbonaaBackPlain
namespace Go.Proofs.Ytngiadcbmfbonaa
open Go.RowKit

theorem zeros_own {w : World} {base q : Nat} {v : Value} (h : w.ownsRow base 5 1 v q (madeCells (Value.int .u8 0).cells (q * 1)).toList) : w.ownsRow base 5 1 v q (Lib.byteCells (List.replicate q 0)) := by
  have e : (madeCells (Value.int .u8 0).cells (q * 1)).toList = Lib.byteCells (List.replicate q 0) := by
    rw [Nat.mul_one]
    exact (toList_madeCells_one (.int .u8 0) q).trans (by simp [Lib.byteCells])
  rw [← e]; exact h

theorem conv_zeros {w : World} {base g q : Nat} (h : w.ownsRow base 5 1 (.slice (some ⟨g, 0, none⟩) q q) q (madeCells (Value.int .u8 0).cells (q * 1)).toList) :
    ∃ t : ByteArray, t.size = q ∧ (convert 51 9 (.slice (some ⟨g, 0, none⟩) q q)).run Try.prog w = .ok (.string t) w := by
  have h2 := zeros_own h
  have hl : (List.replicate q (0 : UInt8)).length = q := by simp
  generalize List.replicate q (0 : UInt8) = l at *
  subst hl
  exact ⟨⟨l.toArray⟩, by show l.toArray.size = _; simp, conv_own h2⟩

set_option maxHeartbeats 400000 in
set_option maxRecDepth 100000 in
theorem long_walk (n : Nat) (more : Bool) (w : World) (hn : n < 65536) :
    Calls Try.prog 7 #[.int .u16 n, .bool more] w fun e w' => e = .returned (.bool true) ∧ Below w.heap.size w w' := by
  obtain ⟨i0, hi0, hz0, hz1, hz2⟩ := info_parts u8_info
  cases more
  · obtain ⟨q, hq⟩ : ∃ q, q = 65535 - n % 4 := ⟨_, rfl⟩
    have hqi : 65535 - (n : Int) % 4 = (q : Int) := by omega
    have hq1 : q ≤ 65535 := by omega
    have HQ := Lib.hid hqi
    clear hq hqi
    go_enter Try.func7, Try.ntmps7
    go_wp2_with (at_make; (refine wpList_make_full _ rfl (.tmp 21) (.tmp 21) 51 rfl w.heap.size 5 i0 (.int .u8 0) 1 Try.underlying51 hi0 hz0 hz1 .i64 .i64 _ _ q rfl rfl HQ.out HQ.out (by rw [hz2]; omega) (by unfold maxLen; omega) (Nat.le_refl _) ?_); intro w1 hown1 hg1; obtain ⟨t, ht, hcv⟩ := conv_zeros hown1)
    have hbw : Below w.heap.size w w1 := (Below.refl _ _).grown hg1 (Nat.le_refl _) (by simp)
    have ho : textOk t = true := by simp only [textOk, decide_eq_true_eq]; omega
    have HE := Lib.hid (textE_ok ho)
    have hl := textS_len ho
    obtain ⟨k1, k2, k3⟩ := tt_text ho ⟨#[120]⟩
    have K0 := Lib.hid (show ttE (textS t ++ ⟨#[120]⟩) = 0 by simp [ttE, k1])
    have K2 := Lib.hid k2
    have K3 := Lib.hid k3
    refine (text_any t _ (by unfold maxLen; omega)).mono ?_
    rintro e w2 ⟨rfl, hb2⟩
    rw [HE.out]
    have hb02 : Below w.heap.size w w2 := hbw.trans (hb2.mono hbw.size)
    generalize textS t = b at *
    have hz : ((b.size : Int) == 65535 - (n : Int) % 4 + 2) = true := by
      have := HQ.out; rw [beq_iff_eq]; omega
    have hbm : b.size ≤ 65537 := by omega
    have hsx : (b ++ ⟨#[120]⟩).size ≤ maxLen := by
      have h1 : (⟨#[120]⟩ : ByteArray).size = 1 := rfl
      rw [ByteArray.size_append, h1]; unfold maxLen; omega
    clear hown1 hg1 hcv hbw hb2 ho k1 k2 k3 hl ht hz0 hz1 hz2 hi0
    go_wp2_with fail
    generalize b ++ (⟨#[120]⟩ : ByteArray) = X at *
    refine (tt_any X _ hsx).mono ?_
    rintro e w3 ⟨rfl, hb3⟩
    rw [K0.out, K2.out, K3.out]
    have hb03 : Below w.heap.size w w3 := hb02.trans (hb3.mono hb02.size)
    clear hb02 hb3
    go_wp2_with fail
    refine (awake_true _).mono ?_
    rintro e w5 ⟨rfl, hb5⟩
    go_wp2
    go_ret
    exact ⟨rfl, hb03.trans (hb5.mono hb03.size)⟩
  · obtain ⟨q, hq⟩ : ∃ q, q = 65536 + n % 4 := ⟨_, rfl⟩
    have hqi : 65536 + (n : Int) % 4 = (q : Int) := by omega
    have hq1 : q ≤ 65539 := by omega
    have hq2 : 65536 ≤ q := by omega
    have HQ := Lib.hid hqi
    clear hq hqi
    go_enter Try.func7, Try.ntmps7
    go_wp2_with (at_make; (refine wpList_make_full _ rfl (.tmp 21) (.tmp 21) 51 rfl w.heap.size 5 i0 (.int .u8 0) 1 Try.underlying51 hi0 hz0 hz1 .i64 .i64 _ _ q rfl rfl HQ.out HQ.out (by rw [hz2]; omega) (by unfold maxLen; omega) (Nat.le_refl _) ?_); intro w1 hown1 hg1; obtain ⟨t, ht, hcv⟩ := conv_zeros hown1)
    have hbw : Below w.heap.size w w1 := (Below.refl _ _).grown hg1 (Nat.le_refl _) (by simp)
    have ho : textOk t = false := by simp only [textOk, decide_eq_false_iff_not]; omega
    have HE := Lib.hid (textE_no ho)
    have HS := Lib.hid (show textS t = ⟨#[]⟩ by simp [textS, ho])
    refine (text_any t _ (by unfold maxLen; omega)).mono ?_
    rintro e w2 ⟨rfl, hb2⟩
    rw [HE.out, HS.out]
    have hb02 : Below w.heap.size w w2 := hbw.trans (hb2.mono hbw.size)
    clear hown1 hg1 hcv hbw hb2 ho ht hz0 hz1 hz2 hi0
    go_wp2_with fail
    refine (awake_true _).mono ?_
    rintro e w5 ⟨rfl, hb5⟩
    go_wp2
    go_ret
    exact ⟨rfl, hb02.trans (hb5.mono hb02.size)⟩

end Go.Proofs.Ytngiadcbmfbonaa
