/- Roots as values: which may be, the text of one, the root of a text; plain facts. -/
import Derived.Test.YthcolmdfpciolaaBack
namespace Go.Proofs.Ythcolmdfpciolaa

/-- A root. -/
structure Rt where
  g : Int
  a : Int
  n : Int
deriving DecidableEq
def rt0 : Rt := ⟨0, 0, 0⟩
def numR (n : Int) : Bool := decide (0 ≤ n) && decide (n ≤ 2147483647)
def rtB (r : Rt) : Bool := numR r.g && (numR r.a && numR r.n)
def Rt.cells (r : Rt) : Array Value := #[.int .i64 r.g, .int .i64 r.a, .int .i64 r.n]
def Rt.v (r : Rt) : Value := .agg #[.int .i64 r.g, .int .i64 r.a, .int .i64 r.n]
theorem num_parts {n : Int} (h : numR n = true) : 0 ≤ n ∧ n ≤ 2147483647 := by unfold numR at h; simpa using h
theorem num_of {n : Int} (h0 : 0 ≤ n) (h1 : n ≤ 2147483647) : numR n = true := by unfold numR; rw [decide_eq_true h0, decide_eq_true h1]; rfl
theorem rt_parts {r : Rt} (h : rtB r = true) : (0 ≤ r.g ∧ r.g ≤ 2147483647) ∧ (0 ≤ r.a ∧ r.a ≤ 2147483647) ∧ 0 ≤ r.n ∧ r.n ≤ 2147483647 := by
  unfold rtB at h
  rw [Bool.and_eq_true, Bool.and_eq_true] at h
  exact ⟨num_parts h.1, num_parts h.2.1, num_parts h.2.2⟩

/-- The text of a root. -/
def rtT (r : Rt) : List UInt8 := be 4 r.g.toNat ++ (be 4 r.a.toNat ++ be 4 r.n.toNat)
theorem rtT_len (r : Rt) : (rtT r).length = 12 := by unfold rtT; simp [be_length]
def rtS (r : Rt) : ByteArray := ⟨(rtT r).toArray⟩
theorem rtS_list (r : Rt) : (rtS r).data.toList = rtT r := rfl
theorem rtS_size (r : Rt) : (rtS r).size = 12 := by
  show (rtT r).toArray.size = 12
  rw [List.size_toArray, rtT_len]

/-- The root of a text. -/
def num4 (s : List UInt8) (i : Nat) : Nat := val ((s.drop (4 * i)).take 4)
theorem num4_lt (s : List UInt8) (i : Nat) : num4 s i < 4294967296 := by
  refine Nat.lt_of_lt_of_le (val_lt _) ?_
  rw [List.length_take]
  exact Nat.le_trans (Nat.pow_le_pow_right (by decide) (Nat.min_le_left 4 _)) (by decide)
def parsB (s : List UInt8) : Bool := decide (s.length = 12) && (decide (num4 s 0 ≤ 2147483647) && (decide (num4 s 1 ≤ 2147483647) && decide (num4 s 2 ≤ 2147483647)))
def pars (s : List UInt8) : Rt := ⟨num4 s 0, num4 s 1, num4 s 2⟩
def parsR (s : List UInt8) : Rt := if parsB s then pars s else rt0
theorem num4_text (r : Rt) : num4 (rtT r) 0 = r.g.toNat % 256 ^ 4 ∧ num4 (rtT r) 1 = r.a.toNat % 256 ^ 4 ∧ num4 (rtT r) 2 = r.n.toNat % 256 ^ 4 := by
  unfold num4 rtT
  have e : ∀ (x y : List UInt8) (k : Nat), x.length = k → (x ++ y).drop k = y := fun x y k h => by subst h; exact List.drop_left
  have f : ∀ (x y : List UInt8) (k : Nat), x.length = k → (x ++ y).take k = x := fun x y k h => by subst h; exact List.take_left
  refine ⟨?_, ?_, ?_⟩
  · rw [Nat.mul_zero, List.drop_zero, f _ _ 4 (be_length 4 _), val_be]
  · rw [Nat.mul_one, e _ _ 4 (be_length 4 _), f _ _ 4 (be_length 4 _), val_be]
  · rw [show 4 * 2 = 4 + 4 from rfl, ← List.drop_drop, e _ _ 4 (be_length 4 _), e _ _ 4 (be_length 4 _), List.take_of_length_le (by rw [be_length]; exact Nat.le_refl 4), val_be]
theorem pars_text (r : Rt) (h : rtB r = true) : parsB (rtT r) = true ∧ pars (rtT r) = r := by
  obtain ⟨⟨h1, h2⟩, ⟨h3, h4⟩, h5, h6⟩ := rt_parts h
  obtain ⟨e1, e2, e3⟩ := num4_text r
  rw [Nat.mod_eq_of_lt (by omega)] at e1 e2 e3
  refine ⟨?_, ?_⟩
  · unfold parsB
    rw [e1, e2, e3, decide_eq_true (rtT_len r), decide_eq_true (by omega), decide_eq_true (by omega), decide_eq_true (by omega)]
    rfl
  · unfold pars
    rw [e1, e2, e3, Int.toNat_of_nonneg h1, Int.toNat_of_nonneg h3, Int.toNat_of_nonneg h5]
theorem pars_right {s : List UInt8} (h : parsB s = true) : rtB (pars s) = true := by
  unfold parsB at h
  simp only [Bool.and_eq_true, decide_eq_true_eq] at h
  unfold rtB pars
  have q : ∀ k : Nat, k ≤ 2147483647 → numR (k : Int) = true := fun k hk => num_of (by omega) (by omega)
  simp only [q _ h.2.1, q _ h.2.2.1, q _ h.2.2.2]
  rfl

/-! What a sector tells. -/
def tellB (S : List ByteArray) (W : List Wr) (a : Int) : Bool := (rightB S W && hasB S.length a 1) && (formB (readS S W a.toNat 1).data.toList 1 && sumB (readS S W a.toNat 1).data.toList)
def tellS (S : List ByteArray) (W : List Wr) (a : Int) : ByteArray := if tellB S W a then ⟨(textOf (readS S W a.toNat 1).data.toList).toArray⟩ else ⟨#[]⟩
def readB (S : List ByteArray) (W : List Wr) (a : Int) : Bool := tellB S W a && (parsB (tellS S W a).data.toList && decide ((pars (tellS S W a).data.toList).g % 2 = a))
def readR (S : List ByteArray) (W : List Wr) (a : Int) : Rt := if readB S W a then pars (tellS S W a).data.toList else rt0
def bestB (S : List ByteArray) (W : List Wr) : Bool := readB S W 0 || readB S W 1
def bestR (S : List ByteArray) (W : List Wr) : Rt := if readB S W 1 && (!readB S W 0 || decide ((readR S W 0).g < (readR S W 1).g)) then readR S W 1 else readR S W 0
theorem readR_none {S : List ByteArray} {W : List Wr} {a : Int} (h : readB S W a = false) : readR S W a = rt0 := by unfold readR; rw [h]; rfl
theorem readR_right {S : List ByteArray} {W : List Wr} {a : Int} (h : readB S W a = true) : rtB (readR S W a) = true ∧ (readR S W a).g % 2 = a := by
  have e : readR S W a = pars (tellS S W a).data.toList := by unfold readR; rw [h]; rfl
  rw [e]
  unfold readB at h
  simp only [Bool.and_eq_true, decide_eq_true_eq] at h
  exact ⟨pars_right h.2.1, h.2.2⟩
theorem readB_place {S : List ByteArray} {W : List Wr} {a : Int} (h : readB S W a = true) : a = 0 ∨ a = 1 := by
  have h1 := (readR_right h).2
  omega

/-- A root that may be, in its sector. -/
def rtOk (S : List ByteArray) (W : List Wr) (r : Rt) : Bool := rtB r && (rightB S W && hasB S.length (r.g % 2) 1)
def rtW (r : Rt) : List Wr := putL (r.g % 2) (secsL (rtT r))
theorem need12 : needN 12 = 1 := by decide
theorem secs12 (r : Rt) : (secsL (rtT r)).length = 1 := by rw [secs_len, rtT_len, need12]
theorem rtW_len (r : Rt) : (rtW r).length = 1 := by unfold rtW; rw [put_len, secs12]
theorem rtW_right {S : List ByteArray} {W : List Wr} {r : Rt} (h : rtOk S W r = true) : rightB S (W ++ rtW r) = true := by
  unfold rtOk at h
  simp only [Bool.and_eq_true] at h
  exact put_right h.2.1 (secs_fill _) (by rw [secs12]; exact h.2.2)

/-- What is behind a write of it. -/
theorem read_lays {S : List ByteArray} {W : List Wr} {r : Rt} {a : Nat} (ha : (a : Int) = r.g % 2) (hR : rightB S W = true) (h : rtB r = true) (hl : Lays S W a (rtS r)) : readB S W a = true ∧ readR S W a = r := by
  have h1 : hasB S.length a 1 = true := by
    have := hl.1
    rw [rtS_size, need12] at this
    unfold hasB
    exact decide_eq_true (by omega)
  have e : (readS S W a 1).data.toList = padL (bytesL (rtT r)) := by
    have := hl.2
    rw [rtS_size, need12, rtS_list] at this
    unfold readS
    rw [this, flat_secs]
  have hn : needN (rtT r).length = 1 := by rw [rtT_len, need12]
  have hf := tell_form (rtT r) (by rw [rtT_len]; omega)
  rw [hn] at hf
  have hb : tellB S W a = true := by
    unfold tellB
    rw [hR, h1, Int.toNat_natCast, e, hf, tell_sum _ (by rw [rtT_len]; omega)]
    rfl
  have hs : (tellS S W a).data.toList = rtT r := by
    unfold tellS
    rw [hb, Int.toNat_natCast, e, pad_text _ (by rw [rtT_len]; omega)]
    rfl
  obtain ⟨p1, p2⟩ := pars_text r h
  have hrb : readB S W a = true := by
    unfold readB
    rw [hb, hs, p1, p2, decide_eq_true ha.symm]
    rfl
  refine ⟨hrb, ?_⟩
  unfold readR
  rw [hrb, hs, p2]
  rfl
theorem read_here {S : List ByteArray} {W : List Wr} {r : Rt} (h : rtOk S W r = true) : readB S (W ++ rtW r) (r.g % 2) = true ∧ readR S (W ++ rtW r) (r.g % 2) = r := by
  have hR := rtW_right h
  unfold rtOk at h
  simp only [Bool.and_eq_true] at h
  obtain ⟨h1, h2, h3⟩ := h
  obtain ⟨⟨hg, _⟩, _, _⟩ := rt_parts h1
  obtain ⟨b, hb, hbn⟩ : ∃ b : Nat, r.g % 2 = b ∧ b + 1 ≤ S.length := by
    unfold hasB at h3
    simp only [decide_eq_true_eq] at h3
    exact ⟨(r.g % 2).toNat, by omega, by omega⟩
  have hl : Lays S (W ++ rtW r) b (rtS r) := by
    unfold rtW
    rw [hb, ← rtS_list]
    exact Lays.put S W b (rtS r) (by rw [rtS_size, need12]; exact hbn)
  rw [hb]
  exact read_lays hb.symm hR h1 hl
/-- The other sector stays. -/
theorem readS_other {S : List ByteArray} {W : List Wr} {b : Nat} {l : List ByteArray} {a : Nat} (h : b + l.length ≤ S.length) (ha : a + 1 ≤ S.length) (hd : b + l.length ≤ a ∨ a + 1 ≤ b) : readS S (W ++ putL b l) a 1 = readS S W a 1 := by
  unfold readS
  rw [read_apart S W a 1 b l h ha hd]
theorem read_other {S : List ByteArray} {W : List Wr} {r : Rt} (h : rtOk S W r = true) (a : Int) (ha : a ≠ r.g % 2) : readB S (W ++ rtW r) a = readB S W a ∧ readR S (W ++ rtW r) a = readR S W a := by
  have hR' := rtW_right h
  unfold rtOk at h
  simp only [Bool.and_eq_true] at h
  obtain ⟨h1, hR, h3⟩ := h
  obtain ⟨⟨hg, _⟩, _, _⟩ := rt_parts h1
  obtain ⟨b, hb, hbn⟩ : ∃ b : Nat, r.g % 2 = b ∧ b + 1 ≤ S.length := by
    unfold hasB at h3
    simp only [decide_eq_true_eq] at h3
    exact ⟨(r.g % 2).toNat, by omega, by omega⟩
  have key : tellB S (W ++ rtW r) a = tellB S W a ∧ tellS S (W ++ rtW r) a = tellS S W a := by
    cases hh : hasB S.length a 1 with
    | false =>
      have e1 : tellB S W a = false := by unfold tellB; rw [hh]; simp
      have e2 : tellB S (W ++ rtW r) a = false := by unfold tellB; rw [hh]; simp
      refine ⟨e2.trans e1.symm, ?_⟩
      unfold tellS
      rw [e1, e2]
      rfl
    | true =>
      have hx := hh
      unfold hasB at hx
      simp only [decide_eq_true_eq] at hx
      have e : readS S (W ++ rtW r) a.toNat 1 = readS S W a.toNat 1 := by
        unfold rtW
        rw [hb]
        exact readS_other (by rw [secs12]; exact hbn) (by omega) (by rw [secs12]; omega)
      have e1 : tellB S (W ++ rtW r) a = tellB S W a := by unfold tellB; rw [e, hR, hR', hh]
      refine ⟨e1, ?_⟩
      unfold tellS
      rw [e1, e]
  unfold readB readR
  unfold readB
  rw [key.1, key.2]
  exact ⟨rfl, rfl⟩
/-- A flush changes nothing that is read. -/
theorem read_flush {S : List ByteArray} {W : List Wr} (hR : rightB S W = true) (a : Int) : readB (doneL S W) [] a = readB S W a ∧ readR (doneL S W) [] a = readR S W a := by
  have hR' : rightB (doneL S W) [] = true := done_right hR (fun _ h => h)
  have e : ∀ k, readS (doneL S W) [] k 1 = readS S W k 1 := fun k => rfl
  have e1 : tellB (doneL S W) [] a = tellB S W a := by unfold tellB; rw [hR, hR', done_len, e]
  have e2 : tellS (doneL S W) [] a = tellS S W a := by unfold tellS; rw [e1, e]
  unfold readB readR
  unfold readB
  rw [e1, e2]
  exact ⟨rfl, rfl⟩

end Go.Proofs.Ythcolmdfpciolaa
