/- Blocks as values: texts cut into sectors, with what stands ahead of them; plain facts. -/
import Derived.Test.YtdgjnjhmjgdhnaaDoorCrc
import Derived.Test.YtdgjnjhmjgdhnaaDoorPlain
import Derived.Test.YtdgjnjhmjgdhnaaDoorDk
namespace Go.Proofs.YtdgjnjhmjgdhnaaDoor

/-- How many sectors so many bytes take up. -/
def secN (n : Nat) : Nat := (n + 31) / 32
/-- Bytes, filled up with bytes 0. -/
def padL (l : List UInt8) : List UInt8 := l ++ List.replicate (32 * secN l.length - l.length) 0
def secL (l : List UInt8) (i : Nat) : ByteArray := ⟨(((padL l).drop (32 * i)).take 32).toArray⟩
def cutL (l : List UInt8) : List ByteArray := (List.range (secN l.length)).map (secL l)

theorem sec_room (n : Nat) : n ≤ 32 * secN n ∧ 32 * secN n < n + 32 := by unfold secN; omega
theorem pad_len (l : List UInt8) : (padL l).length = 32 * secN l.length := by
  have := sec_room l.length
  unfold padL
  rw [List.length_append, List.length_replicate]
  omega
theorem sec_size (l : List UInt8) (i : Nat) (h : i < secN l.length) : (secL l i).size = 32 := by
  show (((padL l).drop (32 * i)).take 32).toArray.size = 32
  rw [List.size_toArray, List.length_take, List.length_drop, pad_len]
  omega
theorem cut_len (l : List UInt8) : (cutL l).length = secN l.length := by simp [cutL]
theorem cut_fill (l : List UInt8) : fillB (cutL l) = true := by
  unfold fillB cutL
  rw [List.all_eq_true]
  intro x hx
  obtain ⟨i, hi, rfl⟩ := List.mem_map.1 hx
  rw [sec_size l i (List.mem_range.1 hi)]
  rfl
theorem cut_take (l : List UInt8) (k : Nat) (h : k < secN l.length) : (cutL l).take (k + 1) = (cutL l).take k ++ [secL l k] := by
  rw [List.take_succ_eq_append_getElem (by rw [cut_len]; exact h)]
  simp [cutL]
theorem cut_all (l : List UInt8) (k : Nat) (h : secN l.length ≤ k) : (cutL l).take k = cutL l := List.take_of_length_le (by rw [cut_len]; exact h)

theorem parts_flat (p : List UInt8) (m : Nat) (h : 32 * m ≤ p.length) : ((List.range m).map fun i => (p.drop (32 * i)).take 32).flatten = p.take (32 * m) := by
  induction m with
  | zero => simp
  | succ m ih =>
    rw [List.range_succ, List.map_append, List.flatten_append, ih (by omega), Nat.mul_succ, List.take_add]
    simp
theorem cut_flat (l : List UInt8) : ((cutL l).map (·.data.toList)).flatten = padL l := by
  have h := parts_flat (padL l) (secN l.length) (by rw [pad_len]; exact Nat.le_refl _)
  have hp := pad_len l
  rw [← hp, List.take_length] at h
  rw [← h, cutL, List.map_map]
  rfl

theorem sec_full (l : List UInt8) (k : Nat) (h : 32 * (k + 1) ≤ l.length) : secL l k = ⟨((l.drop (32 * k)).take 32).toArray⟩ := by
  unfold secL padL
  congr 2
  rw [List.drop_append_of_le_length (by omega), List.take_append_of_le_length (by rw [List.length_drop]; omega)]
theorem sec_last (l : List UInt8) (k : Nat) (h0 : 32 * k < l.length) (h : l.length < 32 * (k + 1)) : secL l k = ⟨(l.drop (32 * k) ++ List.replicate (32 - (l.length - 32 * k)) 0).toArray⟩ := by
  unfold secL padL
  congr 2
  have e : secN l.length = k + 1 := by unfold secN; omega
  rw [List.drop_append_of_le_length (by omega), e, List.take_of_length_le (by rw [List.length_append, List.length_drop, List.length_replicate]; omega)]
  congr 2
  omega

/-- Bytes of whole sectors. -/
theorem pad_whole (l : List UInt8) (n : Nat) (h : l.length = 32 * n) : padL l = l := by
  unfold padL secN
  rw [h, show 32 * ((32 * n + 31) / 32) - 32 * n = 0 by omega]
  simp
theorem sec_whole (n : Nat) : secN (32 * n) = n := by unfold secN; omega

/-! The bytes of a text. -/
def sumT (t : List UInt8) : Nat := (moreB 0xb704ce#24 (be 4 t.length ++ t)).toNat
def bytesL (t : List UInt8) : List UInt8 := be 4 t.length ++ (be 3 (sumT t) ++ t)
def secsL (t : List UInt8) : List ByteArray := cutL (bytesL t)
/-- How many sectors a text of so many bytes has. -/
def needN (n : Nat) : Nat := secN (n + 7)
theorem sumT_lt (t : List UInt8) : sumT t < 16777216 := (moreB _ _).isLt
theorem bytes_len (t : List UInt8) : (bytesL t).length = t.length + 7 := by
  unfold bytesL
  rw [List.length_append, List.length_append, be_length, be_length]
  omega
theorem secs_len (t : List UInt8) : (secsL t).length = needN t.length := by unfold secsL needN; rw [cut_len, bytes_len]
theorem secs_fill (t : List UInt8) : fillB (secsL t) = true := cut_fill _
theorem need_pos (n : Nat) : 1 ≤ needN n := by unfold needN secN; omega
theorem need_room (n : Nat) : n + 7 ≤ 32 * needN n ∧ 32 * needN n < n + 39 := by unfold needN secN; omega
theorem need_mono {n m : Nat} (h : n ≤ m) : needN n ≤ needN m := by unfold needN secN; omega

/-- What n sectors of these bytes tell: a text, and the error's number. -/
def sizeOf4 (s : List UInt8) : Nat := val (s.take 4)
def textOf (s : List UInt8) : List UInt8 := (s.drop 7).take (sizeOf4 s)
def formB (s : List UInt8) (n : Nat) : Bool := decide (4 ≤ s.length) && (decide (sizeOf4 s ≤ 65535) && decide (needN (sizeOf4 s) = n))
def sumB (s : List UInt8) : Bool := decide (padL (bytesL (textOf s)) = s)
def tellT (s : List UInt8) (n : Nat) : List UInt8 := if formB s n && sumB s then textOf s else []
def tellE (s : List UInt8) (n : Nat) : Int := if formB s n then (if sumB s then 0 else 4) else 2

theorem pad_head (t : List UInt8) : (padL (bytesL t)).take 4 = be 4 t.length := by
  unfold padL bytesL
  rw [List.append_assoc, List.take_append_of_le_length (by rw [be_length]; exact Nat.le_refl _), List.take_of_length_le (by rw [be_length]; exact Nat.le_refl _)]
theorem pad_size (t : List UInt8) (h : t.length ≤ 65535) : sizeOf4 (padL (bytesL t)) = t.length := by
  unfold sizeOf4
  rw [pad_head, val_be]
  exact Nat.mod_eq_of_lt (by omega)
theorem pad_text0 (t : List UInt8) : ((padL (bytesL t)).drop 7).take t.length = t := by
  unfold padL bytesL
  rw [← List.append_assoc (be 4 _), List.append_assoc, List.drop_append, List.drop_of_length_le (by rw [List.length_append, be_length, be_length]; exact Nat.le_refl _), List.length_append, be_length, be_length]
  simp
theorem pad_text (t : List UInt8) (h : t.length ≤ 65535) : textOf (padL (bytesL t)) = t := by
  unfold textOf
  rw [pad_size t h, pad_text0]
theorem pad_sum (t : List UInt8) : ((padL (bytesL t)).drop 4).take 3 = be 3 (sumT t) := by
  unfold padL bytesL
  rw [List.append_assoc, List.drop_append, List.drop_of_length_le (by rw [be_length]; exact Nat.le_refl _), be_length]
  simp only [List.nil_append, Nat.sub_self, List.drop_zero]
  rw [List.append_assoc, List.take_append_of_le_length (by rw [be_length]; exact Nat.le_refl _), List.take_of_length_le (by rw [be_length]; exact Nat.le_refl _)]
theorem pad_bytes_len (t : List UInt8) : (padL (bytesL t)).length = 32 * needN t.length := by rw [pad_len, bytes_len]; rfl

/-- WHAT WAS WRITTEN IS READ. -/
theorem tell_form (t : List UInt8) (h : t.length ≤ 65535) : formB (padL (bytesL t)) (needN t.length) = true := by
  unfold formB
  have := need_room t.length
  rw [pad_size t h, pad_bytes_len, decide_eq_true (by omega), decide_eq_true h, decide_eq_true rfl]
  rfl
theorem tell_sum (t : List UInt8) (h : t.length ≤ 65535) : sumB (padL (bytesL t)) = true := by
  unfold sumB
  rw [pad_text t h]
  exact decide_eq_true rfl
theorem tell_back (t : List UInt8) (h : t.length ≤ 65535) : tellT (padL (bytesL t)) (needN t.length) = t ∧ tellE (padL (bytesL t)) (needN t.length) = 0 := by
  unfold tellT tellE
  rw [tell_form t h, tell_sum t h, pad_text t h]
  exact ⟨rfl, rfl⟩

/-- One byte that is another one changes the sum. -/
theorem ofNat_byte {c d : UInt8} (h : BitVec.ofNat 24 (c.toNat * 65536) = BitVec.ofNat 24 (d.toNat * 65536)) : c = d := by
  have h1 := congrArg BitVec.toNat h
  have hc := c.toNat_lt
  have hd := d.toNat_lt
  rw [BitVec.toNat_ofNat, BitVec.toNat_ofNat, Nat.mod_eq_of_lt (by omega), Nat.mod_eq_of_lt (by omega)] at h1
  exact UInt8.toNat_inj.1 (by omega)
theorem addB_ne (x : BitVec 24) {c d : UInt8} (h : c ≠ d) : addB x c ≠ addB x d := by
  intro e
  unfold addB at e
  have h1 := trnN_xor 8 (x ^^^ BitVec.ofNat 24 (c.toNat * 65536)) (x ^^^ BitVec.ofNat 24 (d.toNat * 65536))
  rw [e, BitVec.xor_self] at h1
  have h2 := trnN_ne 8 _ h1
  have h3 : BitVec.ofNat 24 (c.toNat * 65536) = BitVec.ofNat 24 (d.toNat * 65536) := by
    have := BitVec.xor_eq_zero_iff.1 h2
    exact (BitVec.xor_right_inj x).1 this
  exact h (ofNat_byte h3)
theorem more_set (x : BitVec 24) (l : List UInt8) (j : Nat) (c : UInt8) (h : j < l.length) (hc : c ≠ l[j]) : moreB x (l.set j c) ≠ moreB x l := by
  have e1 : l.set j c = l.take j ++ c :: l.drop (j + 1) := by rw [List.set_eq_take_append_cons_drop, if_pos h]
  have e2 : l = l.take j ++ l[j] :: l.drop (j + 1) := by rw [← List.drop_eq_getElem_cons h, List.take_append_drop]
  intro e
  rw [e1] at e
  conv at e => rhs; rw [e2]
  rw [moreB_append, moreB_append, moreB_cons, moreB_cons, moreB_inj] at e
  exact addB_ne _ hc e

/-- WITH ONE BYTE THAT IS ANOTHER ONE, BEHIND THE FIRST FOUR, IT IS REFUSED. -/
theorem broken (t : List UInt8) (ht : t.length ≤ 65535) (j : Nat) (c : UInt8) (h4 : 4 ≤ j) (hj : j < (padL (bytesL t)).length) (hc : c ≠ (padL (bytesL t))[j]) :
    formB ((padL (bytesL t)).set j c) (needN t.length) = true ∧ sumB ((padL (bytesL t)).set j c) = false := by
  have hlen := pad_bytes_len t
  have hroom := need_room t.length
  have hsz : sizeOf4 ((padL (bytesL t)).set j c) = t.length := by
    have e : ((padL (bytesL t)).set j c).take 4 = (padL (bytesL t)).take 4 := by rw [List.take_set_of_le h4]
    unfold sizeOf4
    rw [e]
    exact pad_size t ht
  refine ⟨?_, ?_⟩
  · unfold formB
    rw [hsz, List.length_set, hlen, decide_eq_true (by omega), decide_eq_true ht, decide_eq_true rfl]
    rfl
  · unfold sumB
    apply decide_eq_false
    intro e
    unfold textOf at e
    rw [hsz] at e
    have hne : (padL (bytesL t)).set j c ≠ padL (bytesL t) := by
      intro h
      have h1 : ((padL (bytesL t)).set j c)[j]? = (padL (bytesL t))[j]? := by rw [h]
      rw [List.getElem?_set_self hj, List.getElem?_eq_getElem hj] at h1
      injection h1 with h1
      exact hc h1
    have hq := pad_text0 t
    by_cases h7 : 7 ≤ j
    · rw [List.drop_set, if_neg (by omega), List.take_set, hq] at e
      by_cases hn : j - 7 < t.length
      · have h1 := congrArg (fun l => (l.drop 4).take 3) e
        simp only [pad_sum] at h1
        rw [List.drop_set, if_neg (by omega), List.take_set_of_le (by omega), pad_sum] at h1
        have h2 := be_inj 3 _ _ (sumT_lt _) (sumT_lt _) h1
        unfold sumT at h2
        have h3 := BitVec.eq_of_toNat_eq h2
        rw [List.length_set] at h3
        have e3 : be 4 t.length ++ t.set (j - 7) c = (be 4 t.length ++ t).set (4 + (j - 7)) c := by
          rw [List.set_append, if_neg (by rw [be_length]; omega), be_length]
          congr 2
          omega
        rw [e3] at h3
        refine more_set _ _ _ c (by rw [List.length_append, be_length]; omega) ?_ h3
        intro hx
        apply hc
        rw [hx]
        have g1 : (be 4 t.length ++ t)[4 + (j - 7)]? = t[j - 7]? := by
          rw [List.getElem?_append_right (by rw [be_length]; omega), be_length]
          congr 1
          omega
        have g2 : t[j - 7]? = (padL (bytesL t))[j]? := by
          conv => lhs; rw [← hq]
          rw [List.getElem?_take_of_lt hn, List.getElem?_drop, show 7 + (j - 7) = j by omega]
        have g3 := g1.trans g2
        rw [List.getElem?_eq_getElem (by rw [List.length_append, be_length]; omega), List.getElem?_eq_getElem hj] at g3
        injection g3
      · rw [List.set_eq_of_length_le (by omega)] at e
        exact hne e.symm
    · have e2 : ((padL (bytesL t)).set j c).drop 7 = (padL (bytesL t)).drop 7 := by rw [List.drop_set_of_lt (by omega)]
      rw [e2, hq] at e
      exact hne e.symm

end Go.Proofs.YtdgjnjhmjgdhnaaDoor
