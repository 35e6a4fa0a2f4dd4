/- The walks of Take, Text, TakeText and of the document's: what each does to the world. -/
import Derived.Test.YtngiadcbmfbonaaWNum
import Derived.Deep.QuietTactic
import Derived.BigQuiet
namespace Go.Proofs.Ytngiadcbmfbonaa
open Go.RowKit

/-- What the document says of Take, Text and TakeText. -/
def sized (k : Int) : Bool := decide (1 ≤ k) && decide (k ≤ 8)
def takeOk (s : ByteArray) (k : Int) : Bool := sized k && decide (k ≤ s.size)
def takeN (s : ByteArray) (k : Int) : Nat := if takeOk s k then val (s.data.toList.take k.toNat) else 0
def takeR (s : ByteArray) (k : Int) : ByteArray := if takeOk s k then s.extract k.toNat s.size else ⟨#[]⟩
def takeE (s : ByteArray) (k : Int) : Int := if takeOk s k then 0 else if sized k then 2 else 1
def head2 (s : ByteArray) : Nat := val (s.data.toList.take 2)
def ttOk (s : ByteArray) : Bool := decide (2 ≤ s.size) && decide (2 + head2 s ≤ s.size)
def ttT (s : ByteArray) : ByteArray := if ttOk s then s.extract 2 (2 + head2 s) else ⟨#[]⟩
def ttR (s : ByteArray) : ByteArray := if ttOk s then s.extract (2 + head2 s) s.size else ⟨#[]⟩
def ttE (s : ByteArray) : Int := if ttOk s then 0 else 2
def textOk (t : ByteArray) : Bool := decide (t.size ≤ 65535)
def textS (t : ByteArray) : ByteArray := if textOk t then ⟨(be 2 t.size).toArray⟩ ++ t else ⟨#[]⟩
def textE (t : ByteArray) : Int := if textOk t then 0 else 1

set_option maxHeartbeats 400000 in
theorem take_size (s : ByteArray) (k : Int) (w : World) (h : k < 1 ∨ 8 < k) :
    Calls Try.prog 13 #[.string s, .int .i64 k] w fun e w' => e = .returned (.tuple #[.int .u64 0, .string ⟨#[]⟩, .int .i64 1]) ∧ Below w.heap.size w w' := by
  go_enter Try.func13, Try.ntmps13
  go_wp2_with (go_at_call 23; refine (rs_no _ _ h).mono ?_; rintro e w' ⟨rfl, rfl⟩)
  go_ret3
  exact ⟨rfl, Below.refl _ _⟩

set_option maxHeartbeats 400000 in
theorem take_short (s : ByteArray) (k : Int) (w : World) (h1 : 1 ≤ k) (h8 : k ≤ 8) (h : (s.size : Int) < k) :
    Calls Try.prog 13 #[.string s, .int .i64 k] w fun e w' => e = .returned (.tuple #[.int .u64 0, .string ⟨#[]⟩, .int .i64 2]) ∧ Below w.heap.size w w' := by
  go_enter Try.func13, Try.ntmps13
  go_wp2_with (go_at_call 23; refine (rs_yes _ _ h1 h8).mono ?_; rintro e w' ⟨rfl, rfl⟩)
  go_ret3
  exact ⟨rfl, Below.refl _ _⟩

theorem or_byte (x : Nat) (c : UInt8) (h : x < 72057594037927936) : bits BinOp.or IntKind.u64 ((x : Int) * 256) (IntKind.u64.wrap (c.toNat : Int)) = ((x * 256 + c.toNat : Nat) : Int) := by
  have hc : c.toNat < 2 ^ 8 := c.toNat_lt
  have e1 : ((x : Int) * 256) = ((x * 256 : Nat) : Int) := by simp
  have e2 : IntKind.u64.wrap (c.toNat : Int) = (c.toNat : Int) := by simp [IntKind.wrap, IntKind.bits, IntKind.signed]; omega
  rw [e1, e2, u64_or_nat _ _ (by omega) (by omega)]
  have e3 : x * 256 = 2 ^ 8 * x := by omega
  rw [e3, ← Nat.two_pow_add_eq_or_of_lt hc]

theorem take_snoc (s : ByteArray) (k : Nat) (h : k < s.size) : s.data.toList.take (k + 1) = s.data.toList.take k ++ [s[k]] := by
  rw [List.take_succ_eq_append_getElem (by simpa using h)]; rfl

set_option maxHeartbeats 400000 in
theorem take_ok (s : ByteArray) (k : Nat) (w : World) (h1 : 1 ≤ k) (h8 : k ≤ 8) (h : k ≤ s.size) :
    Calls Try.prog 13 #[.string s, .int .i64 k] w fun e w' => e = .returned (.tuple #[.int .u64 (val (s.data.toList.take k)), .string (s.extract k s.size), .int .i64 0]) ∧ Below w.heap.size w w' := by
  have hd : decide (s.size < k) = false := by simp; omega
  go_enter Try.func13, Try.ntmps13
  go_wp2_with (go_at_call 23; refine (rs_yes _ _ (by omega) (by omega)).mono ?_; rintro e w' ⟨rfl, rfl⟩)
  go_loopw [7, 17] (fun t i wr => ∃ (j : Nat), t = .int .u64 (val (s.data.toList.take j) : Int) ∧ i = .int .i64 j ∧ j ≤ k ∧ Below w.heap.size w wr) (fun _ i _ => (k - intOf i).toNat)
  case atStart => exact ⟨0, by simp [val, valFrom], rfl, by omega, Below.refl _ _⟩
  case round =>
    obtain ⟨j, rfl, rfl, hj, hbr⟩ := hrel
    have hvl := val_lt (s.data.toList.take j)
    obtain ⟨x, hx⟩ : ∃ x, x = val (s.data.toList.take j) := ⟨_, rfl⟩
    rw [← hx] at hvl ⊢
    have Hx := Lib.hid hx
    clear hx
    by_cases hjk : j < k
    · have hx56 : x < 72057594037927936 := by
        refine Nat.lt_of_lt_of_le hvl ?_
        rw [List.length_take]
        exact Nat.le_trans (Nat.pow_le_pow_right (by decide) (show min j s.data.toList.length ≤ 7 by omega)) (by decide)
      clear hvl
      have hjs : j < s.size := by omega
      go_wp2
      go_roundw
      case rel =>
        refine ⟨j + 1, ?_, by go_num, by omega, hbr⟩
        rw [or_byte x _ hx56, take_snoc s j hjs, val_snoc, ← Hx.out]
      case measure => simp [intOf]; omega
    · have hkj : k = j := by omega
      have Hk := Lib.hid hkj
      clear hkj hvl
      go_wp2
      go_quiet (fail)
      go_wp2
      go_ret3
      have e := Hx.out
      rw [← Hk.out] at e
      rw [← e]
      exact ⟨rfl, below_drewN hbr _⟩

theorem take_any (s : ByteArray) (k : Int) (w : World) :
    Calls Try.prog 13 #[.string s, .int .i64 k] w fun e w' => e = .returned (.tuple #[.int .u64 (takeN s k), .string (takeR s k), .int .i64 (takeE s k)]) ∧ Below w.heap.size w w' := by
  by_cases h : 1 ≤ k ∧ k ≤ 8
  · obtain ⟨h1, h8⟩ := h
    obtain ⟨m, rfl⟩ := Int.eq_ofNat_of_zero_le (show 0 ≤ k by omega)
    have es : sized (m : Int) = true := by simp [sized, h1, h8]
    by_cases hf : m ≤ s.size
    · have e : takeOk s (m : Int) = true := by simp [takeOk, es, hf]
      simp only [takeN, takeR, takeE, e, if_true, Int.toNat_natCast]
      exact take_ok s m w (by omega) (by omega) hf
    · have e : takeOk s (m : Int) = false := by simp [takeOk, es]; omega
      simp only [takeN, takeR, takeE, e, es]
      exact take_short s m w h1 h8 (by omega)
  · have es : sized k = false := by simp only [sized, Bool.and_eq_false_iff, decide_eq_false_iff_not]; omega
    have e : takeOk s k = false := by simp [takeOk, es]
    simp only [takeN, takeR, takeE, e, es]
    exact take_size s k w (by omega)

set_option maxHeartbeats 400000 in
theorem rtake_size (s : ByteArray) (k : Int) (w : World) (h : k < 1 ∨ 8 < k) :
    Calls Try.prog 14 #[.string s, .int .i64 k] w fun e w' => e = .returned (.tuple #[.int .u64 0, .string ⟨#[]⟩, .int .i64 1]) ∧ Below w.heap.size w w' := by
  rcases h with h | h
  · go_enter Try.func14, Try.ntmps14
    go_wp2
    go_ret3
    exact ⟨rfl, Below.refl _ _⟩
  · have h2 : ¬ k < 1 := by omega
    go_enter Try.func14, Try.ntmps14
    go_wp2
    go_ret3
    exact ⟨rfl, Below.refl _ _⟩

set_option maxHeartbeats 400000 in
theorem rtake_short (s : ByteArray) (k : Nat) (w : World) (h1 : 1 ≤ k) (h8 : k ≤ 8) (h : s.size < k) :
    Calls Try.prog 14 #[.string s, .int .i64 k] w fun e w' => e = .returned (.tuple #[.int .u64 0, .string ⟨#[]⟩, .int .i64 2]) ∧ Below w.heap.size w w' := by
  have hd : decide (8 < (k : Int)) = false := by simp; omega
  go_enter Try.func14, Try.ntmps14
  go_wp2
  go_ret3
  exact ⟨rfl, Below.refl _ _⟩

theorem wrap_u64_byte (c : UInt8) : IntKind.u64.wrap (c.toNat : Int) = (c.toNat : Int) := by
  have hc := c.toNat_lt
  simp [IntKind.wrap, IntKind.bits, IntKind.signed]; omega

set_option maxHeartbeats 400000 in
theorem rtake_ok (s : ByteArray) (k : Nat) (w : World) (h1 : 1 ≤ k) (h8 : k ≤ 8) (h : k ≤ s.size) :
    Calls Try.prog 14 #[.string s, .int .i64 k] w fun e w' => e = .returned (.tuple #[.int .u64 (val (s.data.toList.take k)), .string (s.extract k s.size), .int .i64 0]) ∧ Below w.heap.size w w' := by
  have hd1 : decide ((k : Int) < 1) = false := by simp; omega
  have hd2 : decide (8 < (k : Int)) = false := by simp; omega
  have hd : decide (s.size < k) = false := by simp; omega
  go_enter Try.func14, Try.ntmps14
  go_wp2
  go_loopw [7, 8] (fun t i wr => ∃ (j : Nat), t = .int .u64 (val (s.data.toList.take j) : Int) ∧ i = .int .i64 j ∧ j ≤ k ∧ Below w.heap.size w wr) (fun _ i _ => (k - intOf i).toNat)
  case atStart => exact ⟨0, by simp [val, valFrom], rfl, by omega, Below.refl _ _⟩
  case round =>
    obtain ⟨j, rfl, rfl, hj, hbr⟩ := hrel
    have hvl := val_lt (s.data.toList.take j)
    obtain ⟨x, hx⟩ : ∃ x, x = val (s.data.toList.take j) := ⟨_, rfl⟩
    rw [← hx] at hvl ⊢
    have Hx := Lib.hid hx
    clear hx
    by_cases hjk : j < k
    · have hx56 : x < 72057594037927936 := by
        refine Nat.lt_of_lt_of_le hvl ?_
        rw [List.length_take]
        exact Nat.le_trans (Nat.pow_le_pow_right (by decide) (show min j s.data.toList.length ≤ 7 by omega)) (by decide)
      clear hvl
      have hjs : j < s.size := by omega
      have hcb : s[j].toNat < 256 := s[j].toNat_lt
      go_wp2
      go_roundw
      case rel =>
        refine ⟨j + 1, ?_, by go_num, by omega, hbr⟩
        rw [take_snoc s j hjs, val_snoc, ← Hx.out]; go_num
      case measure => simp [intOf]; omega
    · have hkj : k = j := by omega
      have Hk := Lib.hid hkj
      clear hkj hvl
      go_wp2
      go_quiet (fail)
      go_wp2
      go_ret3
      have e := Hx.out
      rw [← Hk.out] at e
      rw [← e]
      exact ⟨rfl, below_drewN hbr _⟩

theorem rtake_any (s : ByteArray) (k : Int) (w : World) :
    Calls Try.prog 14 #[.string s, .int .i64 k] w fun e w' => e = .returned (.tuple #[.int .u64 (takeN s k), .string (takeR s k), .int .i64 (takeE s k)]) ∧ Below w.heap.size w w' := by
  by_cases h : 1 ≤ k ∧ k ≤ 8
  · obtain ⟨h1, h8⟩ := h
    obtain ⟨m, rfl⟩ := Int.eq_ofNat_of_zero_le (show 0 ≤ k by omega)
    have es : sized (m : Int) = true := by simp [sized, h1, h8]
    by_cases hf : m ≤ s.size
    · have e : takeOk s (m : Int) = true := by simp [takeOk, es, hf]
      simp only [takeN, takeR, takeE, e, if_true, Int.toNat_natCast]
      exact rtake_ok s m w (by omega) (by omega) hf
    · have e : takeOk s (m : Int) = false := by simp [takeOk, es]; omega
      simp only [takeN, takeR, takeE, e, es]
      exact rtake_short s m w (by omega) (by omega) (by omega)
  · have es : sized k = false := by simp only [sized, Bool.and_eq_false_iff, decide_eq_false_iff_not]; omega
    have e : takeOk s k = false := by simp [takeOk, es]
    simp only [takeN, takeR, takeE, e, es]
    exact rtake_size s k w (by omega)

set_option maxHeartbeats 400000 in
theorem text_any (t : ByteArray) (w : World) (ht : t.size ≤ maxLen) :
    Calls Try.prog 22 #[.string t] w fun e w' => e = .returned (.tuple #[.string (textS t), .int .i64 (textE t)]) ∧ Below w.heap.size w w' := by
  unfold maxLen at ht
  by_cases hl : t.size ≤ 65535
  · have e : textOk t = true := by simp [textOk, hl]
    have HS := Lib.hid (show textS t = ⟨(be 2 t.size).toArray⟩ ++ t by simp [textS, e])
    have HE := Lib.hid (show textE t = 0 by simp [textE, e])
    have eN : numE t.size 2 = 0 := by simp [numE, fits]; omega
    have eS : numS t.size 2 = be 2 t.size := by simp [numS, fits]; omega
    have HN := Lib.hid eN
    have HT := Lib.hid eS
    clear e eN eS
    go_enter Try.func22, Try.ntmps22
    have hl2 : ¬ 9223372036854775807 < (be 2 t.size).length + t.size := by rw [be_length]; omega
    go_wp2_with fail
    refine (num_any t.size 2 _ (by omega)).mono ?_
    rintro e w1 ⟨rfl, hb⟩
    rw [HT.out, HN.out]
    go_wp2
    go_ret2
    rw [HS.out, HE.out]
    exact ⟨rfl, hb⟩
  · have e : textOk t = false := by simp [textOk]; omega
    have HS := Lib.hid (show textS t = ⟨#[]⟩ by simp [textS, e])
    have HE := Lib.hid (show textE t = 1 by simp [textE, e])
    clear e
    go_enter Try.func22, Try.ntmps22
    go_wp2
    go_ret2
    rw [HS.out, HE.out]
    exact ⟨rfl, Below.refl _ _⟩

theorem conv_two (w : World) (c d : Int) (h0 : 0 ≤ c) (h1 : c < 256) (h2 : 0 ≤ d) (h3 : d < 256) : (convert 51 9 (.slice (some ⟨w.heap.size, 0, none⟩) 2 2)).run Try.prog (w.alloc (.cells #[.int .u8 c, .int .u8 d] 5)) = .ok (.string ⟨#[UInt8.ofNat c.toNat, UInt8.ofNat d.toNat]⟩) (w.alloc (.cells #[.int .u8 c, .int .u8 d] 5)) := by
  have h := World.ownsRow_lit (base := w.heap.size) (e := 5) (size := 1) w #[.int .u8 c, .int .u8 d] 2 (Nat.le_refl _) (by unfold maxLen; omega) rfl
  have hc : Lib.byteCells [UInt8.ofNat c.toNat, UInt8.ofNat d.toNat] = [.int .u8 c, .int .u8 d] := by
    simp [Lib.byteCells]; omega
  have := conv_own (w := w.alloc (.cells #[.int .u8 c, .int .u8 d] 5)) (base := w.heap.size) (g := w.heap.size) (cap := 2) (l := [UInt8.ofNat c.toNat, UInt8.ofNat d.toNat]) (by rw [hc]; exact h)
  simpa using this

theorem be_two (n : Nat) : be 2 n = [UInt8.ofNat (n / 256), UInt8.ofNat (n % 256)] := by
  simp only [be, Nat.pow_one, Nat.pow_zero, Nat.div_one]
  congr 1
  congr 1
  apply UInt8.toNat_inj.1
  rw [byte_toNat, byte_toNat]; omega

set_option maxHeartbeats 400000 in
theorem rtext_any (t : ByteArray) (w : World) (ht : t.size ≤ maxLen) :
    Calls Try.prog 27 #[.string t] w fun e w' => e = .returned (.tuple #[.string (textS t), .int .i64 (textE t)]) ∧ Below w.heap.size w w' := by
  unfold maxLen at ht
  by_cases hl : t.size ≤ 65535
  · have e : textOk t = true := by simp [textOk, hl]
    have HS := Lib.hid (show textS t = ⟨(be 2 t.size).toArray⟩ ++ t by simp [textS, e])
    have HE := Lib.hid (show textE t = 0 by simp [textE, e])
    have hcv := conv_two w ((t.size : Int) / 256) ((t.size : Int) % 256) (by omega) (by omega) (by omega) (by omega)
    clear e
    go_enter Try.func27, Try.ntmps27
    go_wp2
    go_ret2
    rw [HS.out, HE.out]
    refine ⟨?_, (Below.refl _ _).alloc (Nat.le_refl _) _⟩
    rw [be_two t.size]
    rfl
  · have e : textOk t = false := by simp [textOk]; omega
    have HS := Lib.hid (show textS t = ⟨#[]⟩ by simp [textS, e])
    have HE := Lib.hid (show textE t = 1 by simp [textE, e])
    clear e
    go_enter Try.func27, Try.ntmps27
    go_wp2
    go_ret2
    rw [HS.out, HE.out]
    exact ⟨rfl, Below.refl _ _⟩

theorem head2_lt (s : ByteArray) : head2 s < 65536 := by
  have h := val_lt (s.data.toList.take 2)
  have h2 : 256 ^ (s.data.toList.take 2).length ≤ 256 ^ 2 := Nat.pow_le_pow_right (by decide) (by simp; omega)
  unfold head2; omega

theorem head2_eq (s : ByteArray) (h : 2 ≤ s.size) : head2 s = s[0].toNat * 256 + s[1].toNat := by
  unfold head2
  rw [take_snoc s 1 (by omega), val_snoc, take_snoc s 0 (by omega), val_snoc]
  simp [val, valFrom]

theorem take2_ok (s : ByteArray) (h : 2 ≤ s.size) : takeN s 2 = head2 s ∧ takeR s 2 = s.extract 2 s.size ∧ takeE s 2 = 0 := by
  have e : takeOk s 2 = true := by simp [takeOk, sized]; omega
  simp [takeN, takeR, takeE, e, head2]

theorem take2_no (s : ByteArray) (h : s.size < 2) : takeN s 2 = 0 ∧ takeR s 2 = ⟨#[]⟩ ∧ takeE s 2 = 2 := by
  have e : takeOk s 2 = false := by simp [takeOk, sized]; omega
  simp [takeN, takeR, takeE, e, sized]

theorem cut_cut (s : ByteArray) (a b c : Nat) (h : a + c ≤ s.size) : (s.extract a s.size).extract b c = s.extract (a + b) (a + c) := by
  apply ByteArray.ext
  apply Array.toList_inj.1
  rw [Lib.extract_data, Lib.extract_data, Lib.extract_data, List.drop_take, List.drop_drop, List.take_take]
  congr 1; omega

set_option maxHeartbeats 400000 in
theorem tt_any (s : ByteArray) (w : World) (hs : s.size ≤ maxLen) :
    Calls Try.prog 17 #[.string s] w fun e w' => e = .returned (.tuple #[.string (ttT s), .string (ttR s), .int .i64 (ttE s)]) ∧ Below w.heap.size w w' := by
  unfold maxLen at hs
  by_cases h2 : 2 ≤ s.size
  · obtain ⟨k1, k2, k3⟩ := take2_ok s h2
    have K1 := Lib.hid k1
    have K2 := Lib.hid k2
    have K3 := Lib.hid k3
    clear k1 k2 k3
    have hlt := head2_lt s
    by_cases hk : 2 + head2 s ≤ s.size
    · have e : ttOk s = true := by simp [ttOk, h2, hk]
      have HT := Lib.hid (show ttT s = s.extract 2 (2 + head2 s) by simp [ttT, e])
      have HR := Lib.hid (show ttR s = s.extract (2 + head2 s) s.size by simp [ttR, e])
      have HE := Lib.hid (show ttE s = 0 by simp [ttE, e])
      clear e
      go_enter Try.func17, Try.ntmps17
      go_wp2_with fail
      refine (take_any s 2 _).mono ?_
      rintro e w1 ⟨rfl, hb⟩
      rw [K1.out, K2.out, K3.out]
      generalize head2 s = n at *
      generalize hrr : s.extract 2 s.size = r at *
      have hrs : r.size = s.size - 2 := by rw [← hrr]; simp
      have hn : n ≤ r.size := by omega
      have HRR := Lib.hid hrr
      have HRS := Lib.hid hrs
      clear hrr hrs
      go_wp2
      go_quiet (fail)
      go_wp2
      go_ret3
      rw [HT.out, HR.out, HE.out]
      have c1 : r.extract 0 n = s.extract 2 (2 + n) := by rw [← HRR.out, cut_cut s 2 0 n hk]
      have c2 : r.extract n r.size = s.extract (2 + n) s.size := by
        rw [HRS.out, ← HRR.out, cut_cut s 2 n (s.size - 2) (by omega)]; congr 1; omega
      rw [← c1, ← c2]
      exact ⟨rfl, below_drewN hb _⟩
    · have e : ttOk s = false := by simp [ttOk]; omega
      have HT := Lib.hid (show ttT s = ⟨#[]⟩ by simp [ttT, e])
      have HR := Lib.hid (show ttR s = ⟨#[]⟩ by simp [ttR, e])
      have HE := Lib.hid (show ttE s = 2 by simp [ttE, e])
      clear e
      go_enter Try.func17, Try.ntmps17
      go_wp2_with fail
      refine (take_any s 2 _).mono ?_
      rintro e w1 ⟨rfl, hb⟩
      rw [K1.out, K2.out, K3.out]
      generalize head2 s = n at *
      generalize hrr : s.extract 2 s.size = r at *
      have hrs : r.size = s.size - 2 := by rw [← hrr]; simp
      have hn : r.size < n := by omega
      clear hrr hrs
      go_wp2
      go_ret3
      rw [HT.out, HR.out, HE.out]
      exact ⟨rfl, hb⟩
  · obtain ⟨k1, k2, k3⟩ := take2_no s (by omega)
    have K1 := Lib.hid k1
    have K2 := Lib.hid k2
    have K3 := Lib.hid k3
    clear k1 k2 k3
    have e : ttOk s = false := by simp [ttOk]; omega
    have HT := Lib.hid (show ttT s = ⟨#[]⟩ by simp [ttT, e])
    have HR := Lib.hid (show ttR s = ⟨#[]⟩ by simp [ttR, e])
    have HE := Lib.hid (show ttE s = 2 by simp [ttE, e])
    clear e
    go_enter Try.func17, Try.ntmps17
    go_wp2_with fail
    refine (take_any s 2 _).mono ?_
    rintro e w1 ⟨rfl, hb⟩
    rw [K1.out, K2.out, K3.out]
    go_wp2
    go_ret3
    rw [HT.out, HR.out, HE.out]
    exact ⟨rfl, hb⟩

set_option maxHeartbeats 400000 in
theorem rtt_any (s : ByteArray) (w : World) (hs : s.size ≤ maxLen) :
    Calls Try.prog 18 #[.string s] w fun e w' => e = .returned (.tuple #[.string (ttT s), .string (ttR s), .int .i64 (ttE s)]) ∧ Below w.heap.size w w' := by
  unfold maxLen at hs
  by_cases h2 : 2 ≤ s.size
  · have hlt := head2_lt s
    have he := head2_eq s h2
    have h0 : s[0].toNat < 256 := s[0].toNat_lt
    have h1 : s[1].toNat < 256 := s[1].toNat_lt
    generalize hn : head2 s = n at *
    have HN := Lib.hid he
    have HH := Lib.hid hn
    clear he
    have a0 : 0 < s.size := by omega
    have a1 : (1 : Int) < (s.size : Int) := by omega
    have w0 : IntKind.i64.wrap (s[0].toNat : Int) = (s[0].toNat : Int) := IntWalk.i64_in _ (by omega)
    have w1 : IntKind.i64.wrap (s[1].toNat : Int) = (s[1].toNat : Int) := IntWalk.i64_in _ (by omega)
    have w2 : IntKind.i64.wrap ((s[0].toNat : Int) * 256) = (s[0].toNat : Int) * 256 := IntWalk.i64_in _ (by omega)
    have w3 : IntKind.i64.wrap ((s[0].toNat : Int) * 256 + (s[1].toNat : Int)) = (s[0].toNat : Int) * 256 + (s[1].toNat : Int) := IntWalk.i64_in _ (by omega)
    by_cases hk : 2 + n ≤ s.size
    · have e : ttOk s = true := by simp [ttOk, h2, hn, hk]
      have HT := Lib.hid (show ttT s = s.extract 2 (2 + n) by simp [ttT, e, hn])
      have HR := Lib.hid (show ttR s = s.extract (2 + n) s.size by simp [ttR, e, hn])
      have HE := Lib.hid (show ttE s = 0 by simp [ttE, e])
      clear e hn
      go_enter Try.func18, Try.ntmps18
      go_wp2
      go_quiet (fail)
      clear w0 w1 w2 w3
      rw [show (s[0].toNat : Int) * (256 : Int) + (s[1].toNat : Int) = (n : Int) by have := HN.out; omega]
      go_wp2
      have w4 : IntKind.i64.wrap (2 + (n : Int)) = 2 + (n : Int) := IntWalk.i64_in _ (by omega)
      have w5 : (2 + (n : Int)).toNat = 2 + n := by omega
      have w6 : 0 ≤ 2 + (n : Int) := by omega
      have w7 : 2 + (n : Int) ≤ (s.size : Int) := by omega
      go_quiet (fail)
      clear w4 w5
      go_wp2
      go_ret3
      rw [HT.out, HR.out, HE.out]
      exact ⟨rfl, below_drewN (below_drewN (Below.refl _ _) _) _⟩
    · have e : ttOk s = false := by simp [ttOk, hn]; omega
      have HT := Lib.hid (show ttT s = ⟨#[]⟩ by simp [ttT, e])
      have HR := Lib.hid (show ttR s = ⟨#[]⟩ by simp [ttR, e])
      have HE := Lib.hid (show ttE s = 2 by simp [ttE, e])
      clear e hn
      go_enter Try.func18, Try.ntmps18
      go_wp2
      go_quiet (fail)
      clear w0 w1 w2 w3
      rw [show (s[0].toNat : Int) * (256 : Int) + (s[1].toNat : Int) = (n : Int) by have := HN.out; omega]
      go_wp2
      go_ret3
      rw [HT.out, HR.out, HE.out]
      exact ⟨rfl, below_drewN (Below.refl _ _) _⟩
  · have e : ttOk s = false := by simp [ttOk]; omega
    have HT := Lib.hid (show ttT s = ⟨#[]⟩ by simp [ttT, e])
    have HR := Lib.hid (show ttR s = ⟨#[]⟩ by simp [ttR, e])
    have HE := Lib.hid (show ttE s = 2 by simp [ttE, e])
    clear e
    go_enter Try.func18, Try.ntmps18
    go_wp2
    go_ret3
    rw [HT.out, HR.out, HE.out]
    exact ⟨rfl, Below.refl _ _⟩

end Go.Proofs.Ytngiadcbmfbonaa
