/- The walks of Num and Take. -/
import Derived.Test.YtgpjbajfkagdbaaRows
import Derived.Test.YtgpjbajfkagdbaaPlain
import Derived.Test.YtgpjbajfkagdbaaShelf
import Derived.WalkKit
import Derived.WalkSpells
import Derived.WalkLawsBesides
import Derived.Lib.Hide
import Derived.Deep.QuietTactic
import Derived.BigQuiet
import Derived.Laws.BytesArg
import Derived.Laws.BitsAllLaws
set_option linter.unusedVariables false
set_option linter.unusedSimpArgs false
namespace Go.Proofs.Ytgpjbajfkagdbaa
open Go.RowKit

set_option maxRecDepth 100000 in
set_option maxHeartbeats 400000 in
theorem rs_yes (k : Int) (w : World) (h1 : 1 ≤ k) (h8 : k ≤ 8) :
    Calls Try.prog 84 #[.int .i64 k] w fun e w' => e = .returned (.bool true) ∧ w = w' := by
  go_enter Try.func84, Try.ntmps84
  go_wp2
  go_ret
  exact ⟨rfl, rfl⟩

set_option maxRecDepth 100000 in
set_option maxHeartbeats 400000 in
theorem rs_no (k : Int) (w : World) (h : k < 1 ∨ 8 < k) :
    Calls Try.prog 84 #[.int .i64 k] w fun e w' => e = .returned (.bool false) ∧ w = w' := by
  rcases h with h | h
  · go_enter Try.func84, Try.ntmps84
    go_wp2
    go_ret
    exact ⟨rfl, rfl⟩
  · have h1 : 1 ≤ k := by omega
    have h2 : decide (k ≤ 8) = false := by simp; omega
    go_enter Try.func84, Try.ntmps84
    go_wp2
    go_ret
    exact ⟨rfl, rfl⟩

set_option maxRecDepth 100000 in
set_option maxHeartbeats 400000 in
theorem num_size (n k : Int) (w : World) (h : k < 1 ∨ 8 < k) :
    Calls Try.prog 80 #[.int .u64 n, .int .i64 k] w fun e w' => e = .returned (.tuple #[.string ⟨#[]⟩, .int .i64 1]) ∧ Below w.heap.size w w' := by
  go_enter Try.func80, Try.ntmps80
  go_wp2_with (go_at_call 84; refine (rs_no _ _ h).mono ?_; rintro e w' ⟨rfl, rfl⟩)
  go_ret2
  exact ⟨rfl, Below.refl _ _⟩

set_option maxRecDepth 100000 in
theorem len64 (x : Int) (w : World) (h0 : 0 ≤ x) (h1 : x ≤ 18446744073709551615) :
    Calls Try.prog 85 #[.int .u64 x] w fun e w' => e = .returned (.int .i64 (Lib.bitLen x.toNat)) ∧ w = w' :=
  (Try.bits_Len64 x w h0 h1).mono fun _ _ h => ⟨h.1, h.2.symm⟩

set_option maxRecDepth 100000 in
theorem u8_info : (Try.prog.info? 5).map (fun i => (i.zero, i.size, i.bytes)) = some (some (.int .u8 0), 1, 1) := by kernel_rfl

set_option maxRecDepth 100000 in
set_option maxHeartbeats 400000 in
theorem num_wide (n : Nat) (k : Int) (w : World) (h1 : 1 ≤ k) (h8 : k ≤ 8) (hn : n < 2 ^ 64) (h : 2 ^ (8 * k.toNat) ≤ n) :
    Calls Try.prog 80 #[.int .u64 n, .int .i64 k] w fun e w' => e = .returned (.tuple #[.string ⟨#[]⟩, .int .i64 1]) ∧ Below w.heap.size w w' := by
  have hb : 8 * k < (Lib.bitLen n : Int) := by
    have hi := bitLen_le_iff n (8 * k.toNat) (by omega) hn
    have hj : ¬ Lib.bitLen n ≤ 8 * k.toNat := fun hc => absurd (hi.1 hc) (by omega)
    omega
  have hn2 : (n : Int) ≤ 18446744073709551615 := by omega
  clear h hn
  go_enter Try.func80, Try.ntmps80
  go_wp2_with (first | (go_at_call 84; refine (rs_yes _ _ h1 h8).mono ?_; rintro e w' ⟨rfl, rfl⟩) | (go_at_call 85; refine (len64 _ _ (by omega) hn2).mono ?_; rintro e w' ⟨rfl, rfl⟩))
  go_ret2
  exact ⟨rfl, Below.refl _ _⟩

set_option maxRecDepth 100000 in
/-- A row of bytes of the call's own, turned into a string. -/
theorem conv_own {w : World} {base g cap : Nat} {l : List UInt8} (h : w.ownsRow base 5 1 (.slice (some ⟨g, 0, none⟩) l.length cap) l.length (Lib.byteCells l)) :
    (convert 129 9 (.slice (some ⟨g, 0, none⟩) l.length cap)).run Try.prog w = .ok (.string ⟨l.toArray⟩) w := by
  have h2 := run_convert_bytes_arg (P := Try.prog) w 129 5 Try.underlying129 Try.underlying5 g 0 l.length cap (l.map fun c => (c.toNat : Int)) (by simp) (fun i hi => by
    rw [Nat.zero_add, h.cellAt i (by omega)]
    simp [Lib.byteCells, hi]) 9 Try.underlying9
  rw [h2]
  simp only [strOfNums, List.map_map]
  congr 3
  apply congrArg List.toArray
  conv => rhs; rw [← List.map_id l]
  apply List.map_congr_left
  intro c _
  simp

/-- The cells while the bytes are laid from the end on: j of k are there. -/
def numCells (k j n : Nat) : List Value := List.replicate (k - j) (.int .u8 0) ++ Lib.byteCells (be j n)

set_option maxRecDepth 100000 in
theorem numCells_zero (k n : Nat) : numCells k 0 n = List.replicate k (.int .u8 0) := by simp [numCells, be, Lib.byteCells]
set_option maxRecDepth 100000 in
theorem numCells_all (k n : Nat) : numCells k k n = Lib.byteCells (be k n) := by simp [numCells]
set_option maxRecDepth 100000 in
theorem numCells_set (k j n : Nat) (h : j < k) :
    (numCells k j n).set (k - 1 - j) (.int .u8 ((n / 256 ^ j % 256 : Nat) : Int)) = numCells k (j + 1) n := by
  unfold numCells
  have e : k - j = (k - 1 - j) + 1 := by omega
  rw [e, List.replicate_succ', List.append_assoc, List.set_append, if_neg (by simp)]
  rw [show k - (j + 1) = k - 1 - j by omega]
  simp [be, Lib.byteCells]

set_option maxRecDepth 100000 in
set_option maxHeartbeats 400000 in
theorem num_ok (n k : Nat) (w : World) (h1 : 1 ≤ k) (h8 : k ≤ 8) (hn : n < 2 ^ 64) (h : n < 2 ^ (8 * k)) :
    Calls Try.prog 80 #[.int .u64 n, .int .i64 k] w fun e w' => e = .returned (.tuple #[.string ⟨(be k n).toArray⟩, .int .i64 0]) ∧ Below w.heap.size w w' := by
  have hb : (Lib.bitLen n : Int) ≤ 8 * k := by
    have hi := (bitLen_le_iff n (8 * k) (by omega) hn).2 h
    omega
  have hn2 : (n : Int) ≤ 18446744073709551615 := by omega
  have hd : decide (8 * (k : Int) < (Lib.bitLen n : Int)) = false := by simp; omega
  obtain ⟨i0, hi0, hz0, hz1, hz2⟩ := info_parts u8_info
  clear h hn
  go_enter Try.func80, Try.ntmps80
  go_wp2_with (first | (go_at_call 84; refine (rs_yes _ _ (by omega) (by omega)).mono ?_; rintro e w' ⟨rfl, rfl⟩) | (go_at_call 85; refine (len64 _ _ (by omega) hn2).mono ?_; rintro e w' ⟨rfl, rfl⟩) | (at_make; go_loud (refine wpList_make_full _ rfl (.tmp 18) (.tmp 18) 129 rfl w.heap.size 5 i0 (.int .u8 0) 1 Try.underlying129 hi0 hz0 hz1 .i64 .i64 _ _ k rfl rfl rfl rfl (by rw [hz2]; omega) (by unfold maxLen; omega) (Nat.le_refl _) ?_); intro w1 hown1 hg1))
  have hown : w1.ownsRow w.heap.size 5 1 (.slice (some ⟨w.heap.size, 0, none⟩) k k) k (numCells k 0 n) := by
    rw [numCells_zero, ← toList_madeCells_one]; rw [Nat.mul_one] at hown1; exact hown1
  have hbel : Below w.heap.size w w1 := (Below.refl _ _).grown hg1 (Nat.le_refl _) (by simp)
  clear hown1 hg1
  go_loopw [0, 7] (fun t i wr => ∃ (j : Nat) (q : Int), t = .int .u64 ((n / 256 ^ j : Nat) : Int) ∧ i = .int .i64 q ∧ q + 1 + j = k ∧ -1 ≤ q ∧ wr.ownsRow w.heap.size 5 1 (.slice (some ⟨w.heap.size, 0, none⟩) k k) k (numCells k j n) ∧ Below w.heap.size w wr) (fun _ i _ => (intOf i + 1).toNat)
  case atStart => exact ⟨0, k - 1, by simp, rfl, by omega, by omega, hown, hbel⟩
  case round =>
    obtain ⟨j, q, rfl, rfl, hq, hq1, hor, hbr⟩ := hrel
    clear hown hbel
    obtain ⟨x, hx⟩ : ∃ x, x = n / 256 ^ j := ⟨_, rfl⟩
    rw [← hx]
    have Hx := Lib.hid hx
    have hxn : x ≤ n := by rw [hx]; exact Nat.div_le_self _ _
    clear hx
    by_cases h0 : 0 ≤ q
    · obtain ⟨m, rfl⟩ := Int.eq_ofNat_of_zero_le h0
      have hmk : m < k := by omega
      have hc := hor.cellAt m (by omega)
      obtain ⟨u, hu⟩ : ∃ u, (numCells k j n)[m]? = some u := ⟨_, List.getElem?_eq_getElem (by rw [hor.1]; omega)⟩
      rw [hu] at hc
      have hf := hor.frozenAt m
      have Hq := Lib.hid hq
      clear hq hu
      go_wp2
      go_roundw
      case rel =>
        have hxe := Hx.out
        have hqe := Hq.out
        have hst := hor.stored m (.int .u8 ((x : Int) % 256))
        refine ⟨j + 1, m - 1, ?_, rfl, by omega, by omega, ?_, hbr.setCell (Nat.le_refl _) _⟩
        · have e : n / 256 ^ (j + 1) = x / 256 := by rw [hxe, Nat.pow_succ, Nat.div_div_eq_div_mul]
          rw [e]; go_num
        · have e := numCells_set k j n (by omega)
          rw [← hxe, show k - 1 - j = m by omega] at e
          rw [← e]
          exact hst.1
      case measure => simp [intOf]
    · have hd2 : decide (0 ≤ q) = false := by simp; omega
      have hqm : q = -1 := by omega
      subst hqm
      have hjk : k = j := by omega
      have Hj := Lib.hid hjk
      have hcv := conv_own (w := wr) (base := w.heap.size) (g := w.heap.size) (cap := k) (l := be k n) (by rw [be_length, ← numCells_all]; rw [← hjk] at hor; exact hor)
      rw [be_length] at hcv
      clear hjk hq hor
      go_wp2
      go_ret2
      exact ⟨rfl, hbr⟩

/-- The bytes that the document gives a number, and the error's number. -/
def fits (n : Nat) (k : Int) : Bool := decide (1 ≤ k) && decide (k ≤ 8) && decide (n < 256 ^ k.toNat)
def numS (n : Nat) (k : Int) : List UInt8 := if fits n k then be k.toNat n else []
def numE (n : Nat) (k : Int) : Int := if fits n k then 0 else 1

set_option maxRecDepth 100000 in
theorem pow256 (k : Nat) : 2 ^ (8 * k) = 256 ^ k := by rw [Nat.pow_mul]

set_option maxRecDepth 100000 in
theorem num_any (n : Nat) (k : Int) (w : World) (hn : n < 2 ^ 64) :
    Calls Try.prog 80 #[.int .u64 n, .int .i64 k] w fun e w' => e = .returned (.tuple #[.string ⟨(numS n k).toArray⟩, .int .i64 (numE n k)]) ∧ Below w.heap.size w w' := by
  by_cases h : 1 ≤ k ∧ k ≤ 8
  · obtain ⟨h1, h8⟩ := h
    obtain ⟨m, rfl⟩ := Int.eq_ofNat_of_zero_le (show 0 ≤ k by omega)
    by_cases hf : n < 256 ^ m
    · have e : fits n (m : Int) = true := by simp [fits, h1, h8, hf]
      simp only [numS, numE, e, if_true, Int.toNat_natCast]
      exact num_ok n m w (by omega) (by omega) hn (by rw [pow256]; exact hf)
    · have e : fits n (m : Int) = false := by simp [fits]; intros; omega
      simp only [numS, numE, e]
      exact num_wide n m w h1 h8 hn (by rw [Int.toNat_natCast, pow256]; omega)
  · have e : fits n k = false := by
      simp only [fits, Bool.and_eq_false_iff, decide_eq_false_iff_not]; omega
    simp only [numS, numE, e]
    exact num_size n k w (by omega)

set_option maxRecDepth 100000 in
theorem ba_append (a b : List UInt8) : ((⟨a.toArray⟩ : ByteArray) ++ ⟨b.toArray⟩) = ⟨(a ++ b).toArray⟩ := by
  apply ByteArray.ext
  simp

/-- What the document says of Take, Text and TakeText. -/
def sized (k : Int) : Bool := decide (1 ≤ k) && decide (k ≤ 8)
def takeOk (s : ByteArray) (k : Int) : Bool := sized k && decide (k ≤ s.size)
def takeN (s : ByteArray) (k : Int) : Nat := if takeOk s k then val (s.data.toList.take k.toNat) else 0
def takeR (s : ByteArray) (k : Int) : ByteArray := if takeOk s k then s.extract k.toNat s.size else ⟨#[]⟩
def takeE (s : ByteArray) (k : Int) : Int := if takeOk s k then 0 else if sized k then 2 else 1

set_option maxRecDepth 100000 in
set_option maxHeartbeats 400000 in
theorem take_size (s : ByteArray) (k : Int) (w : World) (h : k < 1 ∨ 8 < k) :
    Calls Try.prog 86 #[.string s, .int .i64 k] w fun e w' => e = .returned (.tuple #[.int .u64 0, .string ⟨#[]⟩, .int .i64 1]) ∧ Below w.heap.size w w' := by
  go_enter Try.func86, Try.ntmps86
  go_wp2_with (go_at_call 84; refine (rs_no _ _ h).mono ?_; rintro e w' ⟨rfl, rfl⟩)
  go_ret3
  exact ⟨rfl, Below.refl _ _⟩

set_option maxRecDepth 100000 in
set_option maxHeartbeats 400000 in
theorem take_short (s : ByteArray) (k : Int) (w : World) (h1 : 1 ≤ k) (h8 : k ≤ 8) (h : (s.size : Int) < k) :
    Calls Try.prog 86 #[.string s, .int .i64 k] w fun e w' => e = .returned (.tuple #[.int .u64 0, .string ⟨#[]⟩, .int .i64 2]) ∧ Below w.heap.size w w' := by
  go_enter Try.func86, Try.ntmps86
  go_wp2_with (go_at_call 84; refine (rs_yes _ _ h1 h8).mono ?_; rintro e w' ⟨rfl, rfl⟩)
  go_ret3
  exact ⟨rfl, Below.refl _ _⟩

set_option maxRecDepth 100000 in
theorem or_byte (x : Nat) (c : UInt8) (h : x < 72057594037927936) : bits BinOp.or IntKind.u64 ((x : Int) * 256) (IntKind.u64.wrap (c.toNat : Int)) = ((x * 256 + c.toNat : Nat) : Int) := by
  have hc : c.toNat < 2 ^ 8 := c.toNat_lt
  have e1 : ((x : Int) * 256) = ((x * 256 : Nat) : Int) := by simp
  have e2 : IntKind.u64.wrap (c.toNat : Int) = (c.toNat : Int) := by simp [IntKind.wrap, IntKind.bits, IntKind.signed]; omega
  rw [e1, e2, u64_or_nat _ _ (by omega) (by omega)]
  have e3 : x * 256 = 2 ^ 8 * x := by omega
  rw [e3, ← Nat.two_pow_add_eq_or_of_lt hc]

set_option maxRecDepth 100000 in
theorem take_snoc (s : ByteArray) (k : Nat) (h : k < s.size) : s.data.toList.take (k + 1) = s.data.toList.take k ++ [s[k]] := by
  rw [List.take_succ_eq_append_getElem (by simpa using h)]; rfl

set_option maxRecDepth 100000 in
set_option maxHeartbeats 400000 in
theorem take_ok (s : ByteArray) (k : Nat) (w : World) (h1 : 1 ≤ k) (h8 : k ≤ 8) (h : k ≤ s.size) :
    Calls Try.prog 86 #[.string s, .int .i64 k] w fun e w' => e = .returned (.tuple #[.int .u64 (val (s.data.toList.take k)), .string (s.extract k s.size), .int .i64 0]) ∧ Below w.heap.size w w' := by
  have hd : decide (s.size < k) = false := by simp; omega
  go_enter Try.func86, Try.ntmps86
  go_wp2_with (go_at_call 84; refine (rs_yes _ _ (by omega) (by omega)).mono ?_; rintro e w' ⟨rfl, rfl⟩)
  go_loopw [7, 17] (fun t i wr => ∃ (j : Nat), t = .int .u64 (val (s.data.toList.take j) : Int) ∧ i = .int .i64 j ∧ j ≤ k ∧ Below w.heap.size w wr) (fun _ i _ => (k - intOf i).toNat)
  case atStart => exact ⟨0, by simp [val, valFrom], rfl, by omega, Below.refl _ _⟩
  case round =>
    obtain ⟨j, rfl, rfl, hj, hbr⟩ := hrel
    have hvl := val_lt (s.data.toList.take j)
    obtain ⟨x, hx⟩ : ∃ x, x = val (s.data.toList.take j) := ⟨_, rfl⟩
    rw [← hx] at hvl ⊢
    have Hx := Lib.hid hx
    clear hx
    by_cases hjk : j < k
    · have hx56 : x < 72057594037927936 := by
        refine Nat.lt_of_lt_of_le hvl ?_
        rw [List.length_take]
        exact Nat.le_trans (Nat.pow_le_pow_right (by decide) (show min j s.data.toList.length ≤ 7 by omega)) (by decide)
      clear hvl
      have hjs : j < s.size := by omega
      go_wp2
      go_roundw
      case rel =>
        refine ⟨j + 1, ?_, by go_num, by omega, hbr⟩
        rw [or_byte x _ hx56, take_snoc s j hjs, val_snoc, ← Hx.out]
      case measure => simp [intOf]; omega
    · have hkj : k = j := by omega
      have Hk := Lib.hid hkj
      clear hkj hvl
      go_wp2
      go_quiet (fail)
      go_wp2
      go_ret3
      have e := Hx.out
      rw [← Hk.out] at e
      rw [← e]
      exact ⟨rfl, below_drewN hbr _⟩

set_option maxRecDepth 100000 in
theorem take_any (s : ByteArray) (k : Int) (w : World) :
    Calls Try.prog 86 #[.string s, .int .i64 k] w fun e w' => e = .returned (.tuple #[.int .u64 (takeN s k), .string (takeR s k), .int .i64 (takeE s k)]) ∧ Below w.heap.size w w' := by
  by_cases h : 1 ≤ k ∧ k ≤ 8
  · obtain ⟨h1, h8⟩ := h
    obtain ⟨m, rfl⟩ := Int.eq_ofNat_of_zero_le (show 0 ≤ k by omega)
    have es : sized (m : Int) = true := by simp [sized, h1, h8]
    by_cases hf : m ≤ s.size
    · have e : takeOk s (m : Int) = true := by simp [takeOk, es, hf]
      simp only [takeN, takeR, takeE, e, if_true, Int.toNat_natCast]
      exact take_ok s m w (by omega) (by omega) hf
    · have e : takeOk s (m : Int) = false := by simp [takeOk, es]; omega
      simp only [takeN, takeR, takeE, e, es]
      exact take_short s m w h1 h8 (by omega)
  · have es : sized k = false := by simp only [sized, Bool.and_eq_false_iff, decide_eq_false_iff_not]; omega
    have e : takeOk s k = false := by simp [takeOk, es]
    simp only [takeN, takeR, takeE, e, es]
    exact take_size s k w (by omega)

end Go.Proofs.Ytgpjbajfkagdbaa
