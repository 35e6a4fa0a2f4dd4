/- The walks of Text and TakeText, and of the document's. -/
import Derived.Test.YtfbcmcckgjfdhaaPk
import Derived.Test.YtfbcmcckgjfdhaaRNum
import Derived.Deep.QuietTactic
import Derived.BigQuiet
set_option linter.unusedVariables false
set_option linter.unusedSimpArgs false
namespace Go.Proofs.Ytfbcmcckgjfdhaa
open Go.RowKit

def head2 (s : ByteArray) : Nat := val (s.data.toList.take 2)

def ttOk (s : ByteArray) : Bool := decide (2 ≤ s.size) && decide (2 + head2 s ≤ s.size)

def ttT (s : ByteArray) : ByteArray := if ttOk s then s.extract 2 (2 + head2 s) else ⟨#[]⟩

def ttR (s : ByteArray) : ByteArray := if ttOk s then s.extract (2 + head2 s) s.size else ⟨#[]⟩

def ttE (s : ByteArray) : Int := if ttOk s then 0 else 2

def textOk (t : ByteArray) : Bool := decide (t.size ≤ 65535)

def textS (t : ByteArray) : ByteArray := if textOk t then ⟨(be 2 t.size).toArray⟩ ++ t else ⟨#[]⟩

def textE (t : ByteArray) : Int := if textOk t then 0 else 1

set_option maxHeartbeats 400000 in
set_option maxRecDepth 100000 in
theorem text_any (t : ByteArray) (w : World) (ht : t.size ≤ maxLen) :
    Calls Try.prog 80 #[.string t] w fun e w' => e = .returned (.tuple #[.string (textS t), .int .i64 (textE t)]) ∧ Below w.heap.size w w' := by
  unfold maxLen at ht
  by_cases hl : t.size ≤ 65535
  · have e : textOk t = true := by simp [textOk, hl]
    have HS := Lib.hid (show textS t = ⟨(be 2 t.size).toArray⟩ ++ t by simp [textS, e])
    have HE := Lib.hid (show textE t = 0 by simp [textE, e])
    have eN : numE t.size 2 = 0 := by simp [numE, fits]; omega
    have eS : numS t.size 2 = be 2 t.size := by simp [numS, fits]; omega
    have HN := Lib.hid eN
    have HT := Lib.hid eS
    clear e eN eS
    go_enter Try.func80, Try.ntmps80
    have hl2 : ¬ 9223372036854775807 < (be 2 t.size).length + t.size := by rw [be_length]; omega
    go_wp2_with fail
    refine (num_any t.size 2 _ (by omega)).mono ?_
    rintro e w1 ⟨rfl, hb⟩
    rw [HT.out, HN.out]
    go_wp2
    go_ret2
    rw [HS.out, HE.out]
    exact ⟨rfl, hb⟩
  · have e : textOk t = false := by simp [textOk]; omega
    have HS := Lib.hid (show textS t = ⟨#[]⟩ by simp [textS, e])
    have HE := Lib.hid (show textE t = 1 by simp [textE, e])
    clear e
    go_enter Try.func80, Try.ntmps80
    go_wp2
    go_ret2
    rw [HS.out, HE.out]
    exact ⟨rfl, Below.refl _ _⟩

set_option maxRecDepth 100000 in
theorem conv_two (w : World) (c d : Int) (h0 : 0 ≤ c) (h1 : c < 256) (h2 : 0 ≤ d) (h3 : d < 256) : (convert 80 9 (.slice (some ⟨w.heap.size, 0, none⟩) 2 2)).run Try.prog (w.alloc (.cells #[.int .u8 c, .int .u8 d] 5)) = .ok (.string ⟨#[UInt8.ofNat c.toNat, UInt8.ofNat d.toNat]⟩) (w.alloc (.cells #[.int .u8 c, .int .u8 d] 5)) := by
  have h := World.ownsRow_lit (base := w.heap.size) (e := 5) (size := 1) w #[.int .u8 c, .int .u8 d] 2 (Nat.le_refl _) (by unfold maxLen; omega) rfl
  have hc : Lib.byteCells [UInt8.ofNat c.toNat, UInt8.ofNat d.toNat] = [.int .u8 c, .int .u8 d] := by
    simp [Lib.byteCells]; omega
  have := conv_own (w := w.alloc (.cells #[.int .u8 c, .int .u8 d] 5)) (base := w.heap.size) (g := w.heap.size) (cap := 2) (l := [UInt8.ofNat c.toNat, UInt8.ofNat d.toNat]) (by rw [hc]; exact h)
  simpa using this

theorem be_two (n : Nat) : be 2 n = [UInt8.ofNat (n / 256), UInt8.ofNat (n % 256)] := by
  simp only [be, Nat.pow_one, Nat.pow_zero, Nat.div_one]
  congr 1
  congr 1
  apply UInt8.toNat_inj.1
  rw [byte_toNat, byte_toNat]; omega

set_option maxHeartbeats 400000 in
set_option maxRecDepth 100000 in
theorem rtext_any (t : ByteArray) (w : World) (ht : t.size ≤ maxLen) :
    Calls Try.prog 72 #[.string t] w fun e w' => e = .returned (.tuple #[.string (textS t), .int .i64 (textE t)]) ∧ Below w.heap.size w w' := by
  unfold maxLen at ht
  by_cases hl : t.size ≤ 65535
  · have e : textOk t = true := by simp [textOk, hl]
    have HS := Lib.hid (show textS t = ⟨(be 2 t.size).toArray⟩ ++ t by simp [textS, e])
    have HE := Lib.hid (show textE t = 0 by simp [textE, e])
    have hcv := conv_two w ((t.size : Int) / 256) ((t.size : Int) % 256) (by omega) (by omega) (by omega) (by omega)
    clear e
    go_enter Try.func72, Try.ntmps72
    go_wp2
    go_ret2
    rw [HS.out, HE.out]
    refine ⟨?_, (Below.refl _ _).alloc (Nat.le_refl _) _⟩
    rw [be_two t.size]
    rfl
  · have e : textOk t = false := by simp [textOk]; omega
    have HS := Lib.hid (show textS t = ⟨#[]⟩ by simp [textS, e])
    have HE := Lib.hid (show textE t = 1 by simp [textE, e])
    clear e
    go_enter Try.func72, Try.ntmps72
    go_wp2
    go_ret2
    rw [HS.out, HE.out]
    exact ⟨rfl, Below.refl _ _⟩

theorem head2_lt (s : ByteArray) : head2 s < 65536 := by
  have h := val_lt (s.data.toList.take 2)
  have h2 : 256 ^ (s.data.toList.take 2).length ≤ 256 ^ 2 := Nat.pow_le_pow_right (by decide) (by simp; omega)
  unfold head2; omega

theorem head2_eq (s : ByteArray) (h : 2 ≤ s.size) : head2 s = s[0].toNat * 256 + s[1].toNat := by
  unfold head2
  rw [take_snoc s 1 (by omega), val_snoc, take_snoc s 0 (by omega), val_snoc]
  simp [val, valFrom]

theorem take2_ok (s : ByteArray) (h : 2 ≤ s.size) : takeN s 2 = head2 s ∧ takeR s 2 = s.extract 2 s.size ∧ takeE s 2 = 0 := by
  have e : takeOk s 2 = true := by simp [takeOk, sized]; omega
  simp [takeN, takeR, takeE, e, head2]

theorem take2_no (s : ByteArray) (h : s.size < 2) : takeN s 2 = 0 ∧ takeR s 2 = ⟨#[]⟩ ∧ takeE s 2 = 2 := by
  have e : takeOk s 2 = false := by simp [takeOk, sized]; omega
  simp [takeN, takeR, takeE, e, sized]

theorem cut_cut (s : ByteArray) (a b c : Nat) (h : a + c ≤ s.size) : (s.extract a s.size).extract b c = s.extract (a + b) (a + c) := by
  apply ByteArray.ext
  apply Array.toList_inj.1
  rw [Lib.extract_data, Lib.extract_data, Lib.extract_data, List.drop_take, List.drop_drop, List.take_take]
  congr 1; omega

set_option maxHeartbeats 400000 in
set_option maxRecDepth 100000 in
theorem tt_any (s : ByteArray) (w : World) (hs : s.size ≤ maxLen) :
    Calls Try.prog 83 #[.string s] w fun e w' => e = .returned (.tuple #[.string (ttT s), .string (ttR s), .int .i64 (ttE s)]) ∧ Below w.heap.size w w' := by
  unfold maxLen at hs
  by_cases h2 : 2 ≤ s.size
  · obtain ⟨k1, k2, k3⟩ := take2_ok s h2
    have K1 := Lib.hid k1
    have K2 := Lib.hid k2
    have K3 := Lib.hid k3
    clear k1 k2 k3
    have hlt := head2_lt s
    by_cases hk : 2 + head2 s ≤ s.size
    · have e : ttOk s = true := by simp [ttOk, h2, hk]
      have HT := Lib.hid (show ttT s = s.extract 2 (2 + head2 s) by simp [ttT, e])
      have HR := Lib.hid (show ttR s = s.extract (2 + head2 s) s.size by simp [ttR, e])
      have HE := Lib.hid (show ttE s = 0 by simp [ttE, e])
      clear e
      go_enter Try.func83, Try.ntmps83
      go_wp2_with fail
      refine (take_any s 2 _).mono ?_
      rintro e w1 ⟨rfl, hb⟩
      rw [K1.out, K2.out, K3.out]
      generalize head2 s = n at *
      generalize hrr : s.extract 2 s.size = r at *
      have hrs : r.size = s.size - 2 := by rw [← hrr]; simp
      have hn : n ≤ r.size := by omega
      have HRR := Lib.hid hrr
      have HRS := Lib.hid hrs
      clear hrr hrs
      go_wp2
      go_quiet (fail)
      go_wp2
      go_ret3
      rw [HT.out, HR.out, HE.out]
      have c1 : r.extract 0 n = s.extract 2 (2 + n) := by rw [← HRR.out, cut_cut s 2 0 n hk]
      have c2 : r.extract n r.size = s.extract (2 + n) s.size := by
        rw [HRS.out, ← HRR.out, cut_cut s 2 n (s.size - 2) (by omega)]; congr 1; omega
      rw [← c1, ← c2]
      exact ⟨rfl, below_drewN hb _⟩
    · have e : ttOk s = false := by simp [ttOk]; omega
      have HT := Lib.hid (show ttT s = ⟨#[]⟩ by simp [ttT, e])
      have HR := Lib.hid (show ttR s = ⟨#[]⟩ by simp [ttR, e])
      have HE := Lib.hid (show ttE s = 2 by simp [ttE, e])
      clear e
      go_enter Try.func83, Try.ntmps83
      go_wp2_with fail
      refine (take_any s 2 _).mono ?_
      rintro e w1 ⟨rfl, hb⟩
      rw [K1.out, K2.out, K3.out]
      generalize head2 s = n at *
      generalize hrr : s.extract 2 s.size = r at *
      have hrs : r.size = s.size - 2 := by rw [← hrr]; simp
      have hn : r.size < n := by omega
      clear hrr hrs
      go_wp2
      go_ret3
      rw [HT.out, HR.out, HE.out]
      exact ⟨rfl, hb⟩
  · obtain ⟨k1, k2, k3⟩ := take2_no s (by omega)
    have K1 := Lib.hid k1
    have K2 := Lib.hid k2
    have K3 := Lib.hid k3
    clear k1 k2 k3
    have e : ttOk s = false := by simp [ttOk]; omega
    have HT := Lib.hid (show ttT s = ⟨#[]⟩ by simp [ttT, e])
    have HR := Lib.hid (show ttR s = ⟨#[]⟩ by simp [ttR, e])
    have HE := Lib.hid (show ttE s = 2 by simp [ttE, e])
    clear e
    go_enter Try.func83, Try.ntmps83
    go_wp2_with fail
    refine (take_any s 2 _).mono ?_
    rintro e w1 ⟨rfl, hb⟩
    rw [K1.out, K2.out, K3.out]
    go_wp2
    go_ret3
    rw [HT.out, HR.out, HE.out]
    exact ⟨rfl, hb⟩

set_option maxHeartbeats 400000 in
set_option maxRecDepth 100000 in
theorem rtt_any (s : ByteArray) (w : World) (hs : s.size ≤ maxLen) :
    Calls Try.prog 76 #[.string s] w fun e w' => e = .returned (.tuple #[.string (ttT s), .string (ttR s), .int .i64 (ttE s)]) ∧ Below w.heap.size w w' := by
  unfold maxLen at hs
  by_cases h2 : 2 ≤ s.size
  · have hlt := head2_lt s
    have he := head2_eq s h2
    have h0 : s[0].toNat < 256 := s[0].toNat_lt
    have h1 : s[1].toNat < 256 := s[1].toNat_lt
    generalize hn : head2 s = n at *
    have HN := Lib.hid he
    have HH := Lib.hid hn
    clear he
    have a0 : 0 < s.size := by omega
    have a1 : (1 : Int) < (s.size : Int) := by omega
    have w0 : IntKind.i64.wrap (s[0].toNat : Int) = (s[0].toNat : Int) := IntWalk.i64_in _ (by omega)
    have w1 : IntKind.i64.wrap (s[1].toNat : Int) = (s[1].toNat : Int) := IntWalk.i64_in _ (by omega)
    have w2 : IntKind.i64.wrap ((s[0].toNat : Int) * 256) = (s[0].toNat : Int) * 256 := IntWalk.i64_in _ (by omega)
    have w3 : IntKind.i64.wrap ((s[0].toNat : Int) * 256 + (s[1].toNat : Int)) = (s[0].toNat : Int) * 256 + (s[1].toNat : Int) := IntWalk.i64_in _ (by omega)
    by_cases hk : 2 + n ≤ s.size
    · have e : ttOk s = true := by simp [ttOk, h2, hn, hk]
      have HT := Lib.hid (show ttT s = s.extract 2 (2 + n) by simp [ttT, e, hn])
      have HR := Lib.hid (show ttR s = s.extract (2 + n) s.size by simp [ttR, e, hn])
      have HE := Lib.hid (show ttE s = 0 by simp [ttE, e])
      clear e hn
      go_enter Try.func76, Try.ntmps76
      go_wp2
      go_quiet (fail)
      clear w0 w1 w2 w3
      rw [show (s[0].toNat : Int) * (256 : Int) + (s[1].toNat : Int) = (n : Int) by have := HN.out; omega]
      go_wp2
      have w4 : IntKind.i64.wrap (2 + (n : Int)) = 2 + (n : Int) := IntWalk.i64_in _ (by omega)
      have w5 : (2 + (n : Int)).toNat = 2 + n := by omega
      have w6 : 0 ≤ 2 + (n : Int) := by omega
      have w7 : 2 + (n : Int) ≤ (s.size : Int) := by omega
      go_quiet (fail)
      clear w4 w5
      go_wp2
      go_ret3
      rw [HT.out, HR.out, HE.out]
      exact ⟨rfl, below_drewN (below_drewN (Below.refl _ _) _) _⟩
    · have e : ttOk s = false := by simp [ttOk, hn]; omega
      have HT := Lib.hid (show ttT s = ⟨#[]⟩ by simp [ttT, e])
      have HR := Lib.hid (show ttR s = ⟨#[]⟩ by simp [ttR, e])
      have HE := Lib.hid (show ttE s = 2 by simp [ttE, e])
      clear e hn
      go_enter Try.func76, Try.ntmps76
      go_wp2
      go_quiet (fail)
      clear w0 w1 w2 w3
      rw [show (s[0].toNat : Int) * (256 : Int) + (s[1].toNat : Int) = (n : Int) by have := HN.out; omega]
      go_wp2
      go_ret3
      rw [HT.out, HR.out, HE.out]
      exact ⟨rfl, below_drewN (Below.refl _ _) _⟩
  · have e : ttOk s = false := by simp [ttOk]; omega
    have HT := Lib.hid (show ttT s = ⟨#[]⟩ by simp [ttT, e])
    have HR := Lib.hid (show ttR s = ⟨#[]⟩ by simp [ttR, e])
    have HE := Lib.hid (show ttE s = 2 by simp [ttE, e])
    clear e
    go_enter Try.func76, Try.ntmps76
    go_wp2
    go_ret3
    rw [HT.out, HR.out, HE.out]
    exact ⟨rfl, Below.refl _ _⟩

end Go.Proofs.Ytfbcmcckgjfdhaa
