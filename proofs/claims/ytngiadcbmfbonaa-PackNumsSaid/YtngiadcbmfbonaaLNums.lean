/- The walk of the law PackNums, out of the contracts: it returns true, whatever the number, the bytes and the size; nothing that was there changes. -/
import Derived.Test.YtngiadcbmfbonaaAwake
namespace Go.Proofs.Ytngiadcbmfbonaa
open Go.RowKit

set_option maxHeartbeats 400000 in
set_option maxRecDepth 100000 in
theorem nums_walk (n : Nat) (s : ByteArray) (k : Int) (w : World) (hn : n < 2 ^ 64) (hs : s.size ≤ maxLen) :
    Calls Try.prog 3 #[.int .u64 n, .string s, .int .i64 k] w fun e w' => e = .returned (.bool true) ∧ Below w.heap.size w w' := by
  unfold maxLen at hs
  have HN := Lib.hid hn
  clear hn
  by_cases hl : 300 < s.size
  · go_enter Try.func3, Try.ntmps3
    go_wp2_with fail
    refine (awake_true _).mono ?_
    rintro e w1 ⟨rfl, hb1⟩
    go_wp2
    go_ret
    exact ⟨rfl, hb1⟩
  · go_enter Try.func3, Try.ntmps3
    go_wp2_with fail
    refine (num_any n k _ HN.out).mono ?_
    rintro e w1 ⟨rfl, hb1⟩
    go_wp2_with fail
    refine (rnum_any n k _ HN.out).mono ?_
    rintro e w2 ⟨rfl, hb2⟩
    have hb02 : Below w.heap.size w w2 := hb1.trans (hb2.mono hb1.size)
    go_wp2_with fail
    refine (take_any s k _).mono ?_
    rintro e w3 ⟨rfl, hb3⟩
    have hb03 : Below w.heap.size w w3 := hb02.trans (hb3.mono hb02.size)
    go_wp2_with fail
    refine (rtake_any s k _).mono ?_
    rintro e w4 ⟨rfl, hb4⟩
    have hb04 : Below w.heap.size w w4 := hb03.trans (hb4.mono hb03.size)
    clear hb1 hb2 hb3 hb4 hb02 hb03
    generalize numS n k = a
    generalize numE n k = b
    generalize takeN s k = c
    generalize takeR s k = d
    generalize takeE s k = f
    go_wp2_with fail
    refine (awake_true _).mono ?_
    rintro e w5 ⟨rfl, hb5⟩
    go_wp2
    go_ret
    exact ⟨rfl, hb04.trans (hb5.mono hb04.size)⟩

end Go.Proofs.Ytngiadcbmfbonaa
