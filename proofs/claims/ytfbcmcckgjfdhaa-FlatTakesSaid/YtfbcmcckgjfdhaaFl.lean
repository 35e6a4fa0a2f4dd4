/- Notes, pairs, changes and ranges as bytes: plain facts. What is written is read, and what is read is what was written. Nothing of the program. -/
import Derived.Test.YtfbcmcckgjfdhaaBp
import Derived.Test.YtfbcmcckgjfdhaaLf
set_option linter.unusedVariables false
set_option linter.unusedSimpArgs false
namespace Go.Proofs.Ytfbcmcckgjfdhaa

theorem ba_assoc (a b c : ByteArray) : a ++ b ++ c = a ++ (b ++ c) := ByteArray.append_assoc

/-- k bytes of a number. -/
def nS (k n : Nat) : ByteArray := ⟨(be k n).toArray⟩
theorem nS_size (k n : Nat) : (nS k n).size = k := by
  show (be k n).toArray.size = k
  simp [be_length]
theorem nS_data (k n : Nat) : (nS k n).data.toList = be k n := by simp [nS]

theorem take_put (k n : Nat) (h1 : 1 ≤ k) (h8 : k ≤ 8) (hn : n < 256 ^ k) (r : ByteArray) : takeOk (nS k n ++ r) k = true ∧ takeN (nS k n ++ r) k = n ∧ takeR (nS k n ++ r) k = r := by
  have hs : (nS k n ++ r).size = k + r.size := by rw [ByteArray.size_append, nS_size]
  have ho : takeOk (nS k n ++ r) k = true := by
    simp only [takeOk, sized, Bool.and_eq_true, decide_eq_true_eq]; omega
  refine ⟨ho, ?_, ?_⟩
  · rw [takeN, if_pos ho, Int.toNat_natCast, data_append, nS_data, List.take_append_of_le_length (by rw [be_length]; exact Nat.le_refl _), List.take_of_length_le (by rw [be_length]; exact Nat.le_refl _), val_be]
    exact Nat.mod_eq_of_lt hn
  · rw [takeR, if_pos ho, Int.toNat_natCast]
    apply ByteArray.ext
    apply Array.toList_inj.1
    rw [Lib.extract_data, hs, data_append, nS_data, List.drop_append_of_le_length (by rw [be_length]; exact Nat.le_refl _), List.drop_of_length_le (by rw [be_length]; exact Nat.le_refl _), List.nil_append, List.take_of_length_le (by rw [len_data]; omega)]

theorem take_got (s : ByteArray) (k : Nat) (h : takeOk s k = true) : 1 ≤ k ∧ k ≤ 8 ∧ takeN s k < 256 ^ k ∧ s = nS k (takeN s k) ++ takeR s k := by
  have h2 := h
  simp only [takeOk, sized, Bool.and_eq_true, decide_eq_true_eq] at h2
  have hl : (s.data.toList.take k).length = k := by rw [List.length_take, len_data]; omega
  have hv := val_lt (s.data.toList.take k)
  rw [hl] at hv
  have eN : takeN s k = val (s.data.toList.take k) := by rw [takeN, if_pos h, Int.toNat_natCast]
  refine ⟨by omega, by omega, by rw [eN]; exact hv, ?_⟩
  apply ByteArray.ext
  apply Array.toList_inj.1
  have hb := be_val (s.data.toList.take k)
  rw [hl] at hb
  rw [data_append, nS_data, eN, hb, takeR, if_pos h, Int.toNat_natCast, Lib.extract_data, List.take_of_length_le (l := s.data.toList.drop k) (by rw [List.length_drop, len_data]; exact Nat.le_refl _), List.take_append_drop]

theorem takeN_lt (s : ByteArray) (k : Nat) (h8 : k ≤ 8) : takeN s k < 256 ^ k := by
  cases h : takeOk s k with
  | true => exact (take_got s k h).2.2.1
  | false => unfold takeN; rw [h]; exact Nat.pow_pos (by decide)
theorem takeR_le (s : ByteArray) (k : Int) : (takeR s k).size ≤ s.size := by
  unfold takeR
  split
  · rw [ByteArray.size_extract]; omega
  · show 0 ≤ _; omega
theorem ttR_le (s : ByteArray) : (ttR s).size ≤ s.size := by
  unfold ttR
  split
  · rw [ByteArray.size_extract]; omega
  · show 0 ≤ _; omega
theorem ttT_le (s : ByteArray) : (ttT s).size ≤ s.size := by
  unfold ttT
  split
  · rw [ByteArray.size_extract]; omega
  · show 0 ≤ _; omega
theorem tt_got {s : ByteArray} (h : ttOk s = true) : textOk (ttT s) = true ∧ s = textS (ttT s) ++ ttR s := by
  obtain ⟨h1, h2⟩ := text_tt h
  refine ⟨h1, ?_⟩
  apply ByteArray.ext
  apply Array.toList_inj.1
  rw [data_append, h2]

theorem cut_at (s : ByteArray) (n : Nat) : s = s.extract 0 n ++ s.extract n s.size := by
  apply ByteArray.ext
  apply Array.toList_inj.1
  rw [data_append, Lib.extract_data, Lib.extract_data, List.take_of_length_le (l := s.data.toList.drop n) (by rw [List.length_drop, len_data]; exact Nat.le_refl _), Nat.sub_zero, List.drop_zero, List.take_append_drop]

/-! What is taken off, part by part. -/
abbrev Rd := ByteArray × Bool
def rNum (k : Nat) (a : Rd) : Nat × Rd := (takeN a.1 k, takeR a.1 k, a.2 || !takeOk a.1 k)
def rText (a : Rd) : ByteArray × Rd := (ttT a.1, ttR a.1, a.2 || !ttOk a.1)
def rFlag (a : Rd) : Bool × Rd := (decide ((rNum 1 a).1 = 1), (rNum 1 a).2.1, (rNum 1 a).2.2 || decide (1 < (rNum 1 a).1))

theorem rNum_ok {k : Nat} {a : Rd} (hb : (rNum k a).2.2 = false) : a.2 = false ∧ (rNum k a).1 < 256 ^ k ∧ a.1 = nS k (rNum k a).1 ++ (rNum k a).2.1 := by
  unfold rNum at *
  simp only [Bool.or_eq_false_iff, Bool.not_eq_false'] at hb
  obtain ⟨_, _, h3, h4⟩ := take_got a.1 k hb.2
  exact ⟨hb.1, h3, h4⟩
theorem rNum_put (k n : Nat) (h1 : 1 ≤ k) (h8 : k ≤ 8) (hn : n < 256 ^ k) (r : ByteArray) : rNum k (nS k n ++ r, false) = (n, r, false) := by
  obtain ⟨a, b, c⟩ := take_put k n h1 h8 hn r
  simp [rNum, a, b, c]
theorem rText_ok {a : Rd} (hb : (rText a).2.2 = false) : a.2 = false ∧ textOk (rText a).1 = true ∧ a.1 = textS (rText a).1 ++ (rText a).2.1 := by
  unfold rText at *
  simp only [Bool.or_eq_false_iff, Bool.not_eq_false'] at hb
  exact ⟨hb.1, tt_got hb.2⟩
theorem rText_put (t : ByteArray) (h : textOk t = true) (r : ByteArray) : rText (textS t ++ r, false) = (t, r, false) := by
  obtain ⟨a, b, c⟩ := tt_text h r
  simp [rText, a, b, c]

/-- 1 or 0, in one byte. -/
def fS (b : Bool) : ByteArray := nS 1 (if b then 1 else 0)
theorem fS_size (b : Bool) : (fS b).size = 1 := nS_size _ _
theorem rFlag_ok {a : Rd} (hb : (rFlag a).2.2 = false) : a.2 = false ∧ a.1 = fS (rFlag a).1 ++ (rFlag a).2.1 := by
  unfold rFlag at hb
  simp only [Bool.or_eq_false_iff, decide_eq_false_iff_not] at hb
  obtain ⟨h3, _, h5⟩ := rNum_ok hb.1
  refine ⟨h3, ?_⟩
  show a.1 = fS (decide ((rNum 1 a).1 = 1)) ++ (rNum 1 a).2.1
  have e : (if decide ((rNum 1 a).1 = 1) = true then 1 else 0) = (rNum 1 a).1 := by
    by_cases h : (rNum 1 a).1 = 1
    · simp [h]
    · rw [if_neg (by simpa using h)]; omega
  unfold fS
  rw [e]
  exact h5
theorem rFlag_put (x : Bool) (r : ByteArray) : rFlag (fS x ++ r, false) = (x, r, false) := by
  have h := rNum_put 1 (if x then 1 else 0) (by decide) (by decide) (by cases x <;> decide) r
  unfold rFlag fS
  rw [h]
  cases x <;> rfl

/-- A change. -/
structure Ch where
  seq : Int
  key : ByteArray
  had : Bool
  before : ByteArray
  has : Bool
  after : ByteArray
deriving DecidableEq

def sideB (has : Bool) (v : ByteArray) : Bool := if has then decide (v.size ≤ 32) else decide (v = noB)
def mayC (c : Ch) : Bool := decide (1 ≤ c.seq) && decide (c.seq ≤ 2147483647) && decide (c.key.size ≤ 16) && (c.had || c.has) && sideB c.had c.before && sideB c.has c.after
theorem side_size {h : Bool} {v : ByteArray} (e : sideB h v = true) : v.size ≤ 32 := by
  unfold sideB at e
  cases h with
  | true => simpa using e
  | false =>
    simp only [Bool.false_eq_true, if_false, decide_eq_true_eq] at e
    subst e
    show 0 ≤ 32
    omega

def noteB (x : Nt) : ByteArray := nS 1 x.kind.toNat ++ (textS x.key ++ textS x.value) ++ nS 8 x.n.toNat
def pairB (p : Pr) : ByteArray := textS p.k ++ textS p.v
def chB (c : Ch) : ByteArray := nS 4 c.seq.toNat ++ textS c.key ++ (fS c.had ++ textS c.before) ++ (fS c.has ++ textS c.after)
def rngB (r : Rng) : ByteArray := textS r.lo ++ textS r.hi ++ fS r.op

def rNote (a : Rd) : Nt × Rd :=
  let q := rNum 1 a; let t := rText q.2; let u := rText t.2; let m := rNum 8 u.2
  (⟨(q.1 : Int), t.1, u.1, UInt64.ofNat m.1⟩, m.2)
def rPair (a : Rd) : Pr × Rd := let t := rText a; let u := rText t.2; (⟨t.1, u.1⟩, u.2)
def rCh (a : Rd) : Ch × Rd :=
  let q := rNum 4 a; let t := rText q.2; let f := rFlag t.2; let u := rText f.2; let g := rFlag u.2; let v := rText g.2
  (⟨(q.1 : Int), t.1, f.1, u.1, g.1, v.1⟩, v.2)
def rRng (a : Rd) : Rng × Rd := let t := rText a; let u := rText t.2; let f := rFlag u.2; (⟨t.1, u.1, f.1⟩, f.2)

theorem right_of {x : Nt} (h : rightN x = true) : (x.kind = 1 ∨ x.kind = 2 ∨ x.kind = 3) ∧ x.key.size ≤ 16 ∧ x.value.size ≤ 32 := by
  unfold rightN at h
  simp only [Bool.and_eq_true, decide_eq_true_eq] at h
  obtain ⟨h16, h⟩ := h
  split at h
  · simp only [Bool.and_eq_true, decide_eq_true_eq] at h; exact ⟨.inl ‹_›, h16, h.1⟩
  · split at h
    · simp only [Bool.and_eq_true, decide_eq_true_eq] at h; exact ⟨.inr (.inl ‹_›), h16, by rw [h.1]; show 0 ≤ 32; omega⟩
    · simp only [Bool.and_eq_true, decide_eq_true_eq] at h; exact ⟨.inr (.inr h.1), h16, by rw [h.2]; show 0 ≤ 32; omega⟩
theorem text_small {t : ByteArray} {n : Nat} (h : t.size ≤ n) (hn : n ≤ 65535) : textOk t = true := by unfold textOk; exact decide_eq_true (by omega)
theorem may_of {c : Ch} (h : mayC c = true) : 1 ≤ c.seq ∧ c.seq ≤ 2147483647 ∧ c.key.size ≤ 16 ∧ c.before.size ≤ 32 ∧ c.after.size ≤ 32 := by
  unfold mayC at h
  simp only [Bool.and_eq_true, decide_eq_true_eq] at h
  obtain ⟨⟨⟨⟨⟨h1, h2⟩, h3⟩, _⟩, h4⟩, h5⟩ := h
  exact ⟨h1, h2, h3, side_size h4, side_size h5⟩
theorem rng_of {r : Rng} (h : rightB r = true) : r.lo.size ≤ 16 ∧ r.hi.size ≤ 17 := by
  unfold rightB at h
  simp only [Bool.and_eq_true, decide_eq_true_eq] at h
  exact h.2

theorem rNote_ok {a : Rd} (hb : (rNote a).2.2 = false) : a.2 = false ∧ a.1 = noteB (rNote a).1 ++ (rNote a).2.1 := by
  unfold rNote at *
  simp only at hb ⊢
  obtain ⟨f1, n1, e1⟩ := rNum_ok hb
  obtain ⟨f2, _, e2⟩ := rText_ok f1
  obtain ⟨f3, _, e3⟩ := rText_ok f2
  obtain ⟨f4, _, e4⟩ := rNum_ok f3
  refine ⟨f4, ?_⟩
  rw [e4, e3, e2, e1]
  unfold noteB
  simp only [Int.toNat_natCast]
  rw [UInt64.toNat_ofNat_of_lt' (by simpa using n1)]
  simp only [ba_assoc]
theorem rNote_put {x : Nt} (h : rightN x = true) (r : ByteArray) : rNote (noteB x ++ r, false) = (x, r, false) := by
  obtain ⟨hk, h16, h32⟩ := right_of h
  have hk2 : x.kind.toNat < 256 ^ 1 := by omega
  have hk3 : ((x.kind.toNat : Nat) : Int) = x.kind := by omega
  have hn := x.n.toNat_lt
  unfold rNote noteB
  simp only [ba_assoc]
  rw [rNum_put 1 _ (by decide) (by decide) hk2]
  simp only
  rw [rText_put _ (text_small h16 (by omega))]
  simp only
  rw [rText_put _ (text_small h32 (by omega))]
  simp only
  rw [rNum_put 8 _ (by decide) (by decide) (by simpa using hn)]
  simp only [hk3, UInt64.ofNat_toNat]

theorem rPair_ok {a : Rd} (hb : (rPair a).2.2 = false) : a.2 = false ∧ a.1 = pairB (rPair a).1 ++ (rPair a).2.1 := by
  unfold rPair at *
  simp only at hb ⊢
  obtain ⟨f2, _, e2⟩ := rText_ok hb
  obtain ⟨f3, _, e3⟩ := rText_ok f2
  refine ⟨f3, ?_⟩
  rw [e3, e2]
  unfold pairB
  simp only [ba_assoc]
theorem rPair_put {x : Pr} (h : fitsP x = true) (r : ByteArray) : rPair (pairB x ++ r, false) = (x, r, false) := by
  obtain ⟨h16, h32⟩ := (fitsP_iff x).1 h
  unfold rPair pairB
  simp only [ba_assoc]
  rw [rText_put _ (text_small h16 (by omega))]
  simp only
  rw [rText_put _ (text_small h32 (by omega))]

theorem rCh_ok {a : Rd} (hb : (rCh a).2.2 = false) : a.2 = false ∧ a.1 = chB (rCh a).1 ++ (rCh a).2.1 := by
  unfold rCh at *
  simp only at hb ⊢
  obtain ⟨f1, _, e1⟩ := rText_ok hb
  obtain ⟨f2, e2⟩ := rFlag_ok f1
  obtain ⟨f3, _, e3⟩ := rText_ok f2
  obtain ⟨f4, e4⟩ := rFlag_ok f3
  obtain ⟨f5, _, e5⟩ := rText_ok f4
  obtain ⟨f6, _, e6⟩ := rNum_ok f5
  refine ⟨f6, ?_⟩
  rw [e6, e5, e4, e3, e2, e1]
  unfold chB
  simp only [Int.toNat_natCast, ba_assoc]
theorem rCh_put {x : Ch} (h : mayC x = true) (r : ByteArray) : rCh (chB x ++ r, false) = (x, r, false) := by
  obtain ⟨hs1, hs2, h16, hb, ha⟩ := may_of h
  have hk2 : x.seq.toNat < 256 ^ 4 := by omega
  have hk3 : ((x.seq.toNat : Nat) : Int) = x.seq := by omega
  unfold rCh chB
  simp only [ba_assoc]
  rw [rNum_put 4 _ (by decide) (by decide) hk2]
  simp only
  rw [rText_put _ (text_small h16 (by omega))]
  simp only
  rw [rFlag_put]
  simp only
  rw [rText_put _ (text_small hb (by omega))]
  simp only
  rw [rFlag_put]
  simp only
  rw [rText_put _ (text_small ha (by omega))]
  simp only [hk3]

theorem rRng_ok {a : Rd} (hb : (rRng a).2.2 = false) : a.2 = false ∧ a.1 = rngB (rRng a).1 ++ (rRng a).2.1 := by
  unfold rRng at *
  simp only at hb ⊢
  obtain ⟨f2, e2⟩ := rFlag_ok hb
  obtain ⟨f3, _, e3⟩ := rText_ok f2
  obtain ⟨f4, _, e4⟩ := rText_ok f3
  refine ⟨f4, ?_⟩
  rw [e4, e3, e2]
  unfold rngB
  simp only [ba_assoc]
theorem rRng_put {x : Rng} (h : rightB x = true) (r : ByteArray) : rRng (rngB x ++ r, false) = (x, r, false) := by
  obtain ⟨h16, h17⟩ := rng_of h
  unfold rRng rngB
  simp only [ba_assoc]
  rw [rText_put _ (text_small h16 (by omega))]
  simp only
  rw [rText_put _ (text_small h17 (by omega))]
  simp only
  rw [rFlag_put]

/-- A thing that is written, and read: what it is written as, whether it may be, and what bytes begin with. -/
structure Kd (α : Type) where
  enc : α → ByteArray
  ok : α → Bool
  rd : Rd → α × Rd
  rd_ok : ∀ {a : Rd}, (rd a).2.2 = false → a.2 = false ∧ a.1 = enc (rd a).1 ++ (rd a).2.1
  rd_put : ∀ {x : α}, ok x = true → ∀ r : ByteArray, rd (enc x ++ r, false) = (x, r, false)
  len : ∀ {x : α}, ok x = true → 1 ≤ (enc x).size ∧ (enc x).size ≤ 128
theorem textS_small {t : ByteArray} {n : Nat} (h : t.size ≤ n) (hn : n ≤ 65535) : (textS t).size = 2 + t.size := textS_len (text_small h hn)
theorem noteB_len {x : Nt} (h : rightN x = true) : 1 ≤ (noteB x).size ∧ (noteB x).size ≤ 128 := by
  obtain ⟨_, h16, h32⟩ := right_of h
  unfold noteB
  simp only [ByteArray.size_append, nS_size, textS_small h16 (by omega), textS_small h32 (by omega)]
  omega
theorem pairB_len {x : Pr} (h : fitsP x = true) : 1 ≤ (pairB x).size ∧ (pairB x).size ≤ 128 := by
  obtain ⟨h16, h32⟩ := (fitsP_iff x).1 h
  unfold pairB
  simp only [ByteArray.size_append, textS_small h16 (by omega), textS_small h32 (by omega)]
  omega
theorem chB_len {x : Ch} (h : mayC x = true) : 1 ≤ (chB x).size ∧ (chB x).size ≤ 128 := by
  obtain ⟨_, _, h16, hb, ha⟩ := may_of h
  unfold chB
  simp only [ByteArray.size_append, nS_size, fS_size, textS_small h16 (by omega), textS_small hb (by omega), textS_small ha (by omega)]
  omega
theorem rngB_len {x : Rng} (h : rightB x = true) : 1 ≤ (rngB x).size ∧ (rngB x).size ≤ 128 := by
  obtain ⟨h16, h17⟩ := rng_of h
  unfold rngB
  simp only [ByteArray.size_append, fS_size, textS_small h16 (by omega), textS_small h17 (by omega)]
  omega
def kN : Kd Nt := ⟨noteB, rightN, rNote, rNote_ok, rNote_put, noteB_len⟩
def kP : Kd Pr := ⟨pairB, fitsP, rPair, rPair_ok, rPair_put, pairB_len⟩
def kC : Kd Ch := ⟨chB, mayC, rCh, rCh_ok, rCh_put, chB_len⟩
def kR : Kd Rng := ⟨rngB, rightB, rRng, rRng_ok, rRng_put, rngB_len⟩

section
variable {α : Type} (K : Kd α)
/-- What bytes begin with, if there is something. -/
def Kd.dec (s : ByteArray) : Option (α × ByteArray) :=
  let q := K.rd (s, false)
  if q.2.2 = false ∧ K.ok q.1 = true then some (q.1, q.2.1) else none
theorem Kd.dec_iff (s : ByteArray) (x : α) (r : ByteArray) : K.dec s = some (x, r) ↔ K.ok x = true ∧ s = K.enc x ++ r := by
  unfold Kd.dec
  simp only
  constructor
  · intro h
    split at h
    · rename_i hc
      injection h with h
      injection h with h1 h2
      subst h1 h2
      exact ⟨hc.2, (K.rd_ok hc.1).2⟩
    · cases h
  · rintro ⟨h1, rfl⟩
    rw [K.rd_put h1 r]
    simp [h1]
theorem Kd.dec_put {x : α} (h : K.ok x = true) (r : ByteArray) : K.dec (K.enc x ++ r) = some (x, r) := (K.dec_iff _ _ _).2 ⟨h, rfl⟩

/-- n of them, one behind the other. -/
def Kd.decL : Nat → ByteArray → Option (List α × ByteArray)
  | 0, s => some ([], s)
  | n + 1, s => match K.dec s with
    | none => none
    | some (x, r) => match Kd.decL n r with
      | none => none
      | some (l, q) => some (x :: l, q)
def Kd.cat (l : List α) : ByteArray := l.foldr (fun x r => K.enc x ++ r) noB
theorem Kd.cat_nil : K.cat [] = noB := rfl
theorem Kd.cat_cons (x : α) (l : List α) : K.cat (x :: l) = K.enc x ++ K.cat l := rfl
theorem noB_left (s : ByteArray) : noB ++ s = s := by apply ByteArray.ext; simp
theorem noB_right (s : ByteArray) : s ++ noB = s := by apply ByteArray.ext; simp
theorem Kd.cat_append (a b : List α) : K.cat (a ++ b) = K.cat a ++ K.cat b := by
  induction a with
  | nil => rw [List.nil_append, Kd.cat_nil, noB_left]
  | cons x a ih => rw [List.cons_append, Kd.cat_cons, ih, Kd.cat_cons, ba_assoc]
theorem Kd.cat_take (l : List α) (k : Nat) (h : k < l.length) : K.cat (l.take (k + 1)) = K.cat (l.take k) ++ K.enc l[k] := by
  rw [List.take_succ_eq_append_getElem h, Kd.cat_append, Kd.cat_cons, Kd.cat_nil, noB_right]
theorem Kd.cat_len (l : List α) (h : l.all K.ok = true) : l.length ≤ (K.cat l).size ∧ (K.cat l).size ≤ 128 * l.length := by
  induction l with
  | nil => exact ⟨Nat.le_refl _, Nat.le_refl _⟩
  | cons x l ih =>
    rw [List.all_cons, Bool.and_eq_true] at h
    have h1 := K.len h.1
    have h2 := ih h.2
    rw [Kd.cat_cons, ByteArray.size_append, List.length_cons]
    omega
theorem Kd.decL_iff (n : Nat) (s : ByteArray) (l : List α) (r : ByteArray) : K.decL n s = some (l, r) ↔ l.length = n ∧ l.all K.ok = true ∧ s = K.cat l ++ r := by
  induction n generalizing s l with
  | zero =>
    unfold Kd.decL
    constructor
    · intro h
      injection h with h
      injection h with h1 h2
      subst h1 h2
      exact ⟨rfl, rfl, by rw [Kd.cat_nil, noB_left]⟩
    · rintro ⟨h1, _, h3⟩
      obtain rfl := List.eq_nil_of_length_eq_zero h1
      rw [Kd.cat_nil, noB_left] at h3
      rw [h3]
  | succ n ih =>
    unfold Kd.decL
    constructor
    · intro h
      cases hd : K.dec s with
      | none => rw [hd] at h; cases h
      | some q =>
        obtain ⟨x, t⟩ := q
        rw [hd] at h
        simp only at h
        cases he : K.decL n t with
        | none => rw [he] at h; cases h
        | some q =>
          obtain ⟨m, u⟩ := q
          rw [he] at h
          simp only at h
          injection h with h
          injection h with h1 h2
          subst h1 h2
          obtain ⟨a1, a2⟩ := (K.dec_iff _ _ _).1 hd
          obtain ⟨b1, b2, b3⟩ := (ih _ _).1 he
          exact ⟨by rw [List.length_cons, b1], by rw [List.all_cons, a1, b2]; rfl, by rw [a2, b3, Kd.cat_cons, ba_assoc]⟩
    · rintro ⟨h1, h2, h3⟩
      obtain _ | ⟨x, m⟩ := l
      · cases h1
      · rw [List.all_cons, Bool.and_eq_true] at h2
        rw [Kd.cat_cons, ba_assoc] at h3
        have hd : K.dec s = some (x, K.cat m ++ r) := (K.dec_iff _ _ _).2 ⟨h2.1, h3⟩
        have he : K.decL n (K.cat m ++ r) = some (m, r) := (ih _ _).2 ⟨by simpa using h1, h2.2, rfl⟩
        simp only [hd, he]

/-- A list's bytes; what bytes begin with. -/
def Kd.list (l : List α) : ByteArray := nS 2 l.length ++ K.cat l
def Kd.may (l : List α) : Bool := decide (l.length ≤ 65535) && l.all K.ok
def Kd.takeL (s : ByteArray) : Option (List α × ByteArray) := if takeOk s 2 = true then K.decL (takeN s 2) (takeR s 2) else none
theorem Kd.takeL_iff (s : ByteArray) (l : List α) (r : ByteArray) : K.takeL s = some (l, r) ↔ K.may l = true ∧ s = K.list l ++ r := by
  unfold Kd.takeL Kd.may Kd.list
  simp only [Bool.and_eq_true, decide_eq_true_eq]
  constructor
  · intro h
    split at h
    · rename_i ho
      obtain ⟨_, _, h3, h4⟩ := take_got s 2 ho
      obtain ⟨a1, a2, a3⟩ := (K.decL_iff _ _ _ _).1 h
      refine ⟨⟨by rw [a1]; have h5 : takeN s 2 < 256 ^ 2 := h3; omega, a2⟩, ?_⟩
      rw [a1, ba_assoc, ← a3]
      exact h4
    · cases h
  · rintro ⟨⟨h1, h2⟩, rfl⟩
    rw [ba_assoc]
    obtain ⟨a, b, c⟩ := take_put 2 l.length (by decide) (by decide) (by omega) (K.cat l ++ r)
    rw [show ((2 : Nat) : Int) = 2 from rfl] at a b c
    rw [a, b, c, if_pos rfl]
    exact (K.decL_iff _ _ _ _).2 ⟨rfl, h2, rfl⟩
theorem Kd.takeL_put {l : List α} (h : K.may l = true) (r : ByteArray) : K.takeL (K.list l ++ r) = some (l, r) := (K.takeL_iff _ _ _).2 ⟨h, rfl⟩
theorem Kd.list_len {l : List α} (h : K.may l = true) : 2 ≤ (K.list l).size ∧ (K.list l).size ≤ 2 + 128 * l.length := by
  unfold Kd.may at h
  rw [Bool.and_eq_true] at h
  have := K.cat_len l h.2
  unfold Kd.list
  rw [ByteArray.size_append, nS_size]
  omega
/-- Of what is written no beginning, but the whole, is taken. -/
theorem Kd.takeL_cut {l : List α} (h : K.may l = true) (n : Nat) (hn : n < (K.list l).size) : K.takeL ((K.list l).extract 0 n) = none := by
  cases hc : K.takeL ((K.list l).extract 0 n) with
  | none => rfl
  | some q =>
    exfalso
    obtain ⟨m, r⟩ := q
    obtain ⟨h1, h2⟩ := (K.takeL_iff _ _ _).1 hc
    obtain ⟨t, ht⟩ : ∃ t, t = (K.list l).extract n (K.list l).size := ⟨_, rfl⟩
    have e : K.list l = K.list m ++ (r ++ t) := by
      rw [← ba_assoc, ← h2, ht]
      exact cut_at _ _
    have h3 := K.takeL_put h noB
    rw [noB_right, e, K.takeL_put h1] at h3
    injection h3 with h3
    injection h3 with _ h4
    have h5 : (r ++ t).size = 0 := by rw [h4]; rfl
    rw [ByteArray.size_append, ht, ByteArray.size_extract] at h5
    omega
theorem Kd.dec_cut {x : α} (h : K.ok x = true) (n : Nat) (hn : n < (K.enc x).size) : K.dec ((K.enc x).extract 0 n) = none := by
  cases hc : K.dec ((K.enc x).extract 0 n) with
  | none => rfl
  | some q =>
    exfalso
    obtain ⟨m, r⟩ := q
    obtain ⟨h1, h2⟩ := (K.dec_iff _ _ _).1 hc
    obtain ⟨t, ht⟩ : ∃ t, t = (K.enc x).extract n (K.enc x).size := ⟨_, rfl⟩
    have e : K.enc x = K.enc m ++ (r ++ t) := by
      rw [← ba_assoc, ← h2, ht]
      exact cut_at _ _
    have h3 := K.dec_put h noB
    rw [noB_right, e, K.dec_put h1] at h3
    injection h3 with h3
    injection h3 with _ h4
    have h5 : (r ++ t).size = 0 := by rw [h4]; rfl
    rw [ByteArray.size_append, ht, ByteArray.size_extract] at h5
    omega
end

end Go.Proofs.Ytfbcmcckgjfdhaa
