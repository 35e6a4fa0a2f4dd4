/- What the document's Take functions tell of bytes: plain facts. -/
import Derived.Test.YtfbcmcckgjfdhaaFk
set_option linter.unusedVariables false
set_option linter.unusedSimpArgs false
namespace Go.Proofs.Ytfbcmcckgjfdhaa

theorem ext_all (s : ByteArray) : s.extract 0 s.size = s := by
  apply ba_ext
  rw [Lib.extract_data, List.drop_zero, Nat.sub_zero, List.take_of_length_le (by rw [len_data]; exact Nat.le_refl _)]
theorem ext_behind (a b : ByteArray) (n : Nat) (hn : n = a.size) : (a ++ b).extract n (a ++ b).size = b := by
  subst hn
  apply ba_ext
  rw [Lib.extract_data, data_append, List.drop_append_of_le_length (by rw [len_data]; exact Nat.le_refl _), List.drop_of_length_le (by rw [len_data]; exact Nat.le_refl _), List.nil_append, List.take_of_length_le (by rw [len_data, ByteArray.size_append]; omega)]
theorem ext_ahead (a b : ByteArray) : (a ++ b).extract 0 a.size = a := by
  apply ba_ext
  rw [Lib.extract_data, data_append, List.drop_zero, Nat.sub_zero, List.take_append_of_le_length (by rw [len_data]; exact Nat.le_refl _), List.take_of_length_le (by rw [len_data]; exact Nat.le_refl _)]

/-- One more text, behind so many bytes. -/
def stepT (o : Option (List ByteArray × ByteArray)) (a : Nat) : Option (List ByteArray × ByteArray) := match o with
  | none => none
  | some (ts, s) => if a ≤ s.size ∧ ttOk (s.extract a s.size) = true then some (ts ++ [ttT (s.extract a s.size)], ttR (s.extract a s.size)) else none
def textsT (s : ByteArray) (l : List Nat) : Option (List ByteArray × ByteArray) := l.foldl stepT (some ([], s))
theorem textsT_zero (s : ByteArray) (l : List Nat) : textsT s (l.take 0) = some ([], s) := rfl
theorem textsT_take (s : ByteArray) (l : List Nat) (k : Nat) (h : k < l.length) : textsT s (l.take (k + 1)) = stepT (textsT s (l.take k)) l[k] := by
  unfold textsT
  rw [List.take_succ_eq_append_getElem h, List.foldl_append]
  rfl
theorem fold_none (l : List Nat) : l.foldl stepT none = none := by
  induction l with
  | nil => rfl
  | cons a l ih => exact ih
theorem textsT_stop (s : ByteArray) (l : List Nat) (k : Nat) (h : textsT s (l.take k) = none) : textsT s l = none := by
  have e : textsT s l = (l.drop k).foldl stepT (textsT s (l.take k)) := by
    unfold textsT
    rw [← List.foldl_append, List.take_append_drop]
  rw [e, h, fold_none]
theorem textsT_len (s : ByteArray) : ∀ (l : List Nat) (ts : List ByteArray) (r : ByteArray) (ts0 : List ByteArray) (s0 : ByteArray), l.foldl stepT (some (ts0, s0)) = some (ts, r) → ts.length = ts0.length + l.length ∧ r.size ≤ s0.size := by
  intro l
  induction l with
  | nil => intro ts r ts0 s0 h; injection h with h; injection h with h1 h2; subst h1 h2; exact ⟨by simp, Nat.le_refl _⟩
  | cons a l ih =>
    intro ts r ts0 s0 h
    rw [List.foldl_cons] at h
    by_cases hc : a ≤ s0.size ∧ ttOk (s0.extract a s0.size) = true
    · have e : stepT (some (ts0, s0)) a = some (ts0 ++ [ttT (s0.extract a s0.size)], ttR (s0.extract a s0.size)) := by
        show (if _ then _ else _) = _
        rw [if_pos hc]
      rw [e] at h
      obtain ⟨h1, h2⟩ := ih _ _ _ _ h
      have h3 := ttR_le (s0.extract a s0.size)
      rw [ByteArray.size_extract] at h3
      exact ⟨by rw [h1]; simp; omega, by omega⟩
    · have e : stepT (some (ts0, s0)) a = none := by
        show (if _ then _ else _) = _
        rw [if_neg hc]
      rw [e, fold_none] at h
      cases h
theorem stepT_yes {ts : List ByteArray} {s : ByteArray} {a : Nat} (h : a ≤ s.size) (g : ttOk (s.extract a s.size) = true) : stepT (some (ts, s)) a = some (ts ++ [ttT (s.extract a s.size)], ttR (s.extract a s.size)) := by
  show (if _ then _ else _) = _
  rw [if_pos ⟨h, g⟩]
theorem stepT_no {ts : List ByteArray} {s : ByteArray} {a : Nat} (h : ¬ a ≤ s.size ∨ ttOk (s.extract a s.size) = false) : stepT (some (ts, s)) a = none := by
  show (if _ then _ else _) = _
  rw [if_neg]
  rintro ⟨h1, h2⟩
  rcases h with h | h
  · exact h h1
  · rw [h] at h2; cases h2
/-- A text that stands behind p. -/
theorem stepT_put (ts : List ByteArray) (p t r : ByteArray) (ht : textOk t = true) : stepT (some (ts, p ++ (textS t ++ r))) p.size = some (ts ++ [t], r) := by
  have e := ext_behind p (textS t ++ r) p.size rfl
  obtain ⟨h1, h2, h3⟩ := tt_text ht r
  rw [stepT_yes (by rw [ByteArray.size_append]; omega) (by rw [e]; exact h1), e, h2, h3]
theorem stepT_put0 (ts : List ByteArray) (t r : ByteArray) (ht : textOk t = true) : stepT (some (ts, textS t ++ r)) 0 = some (ts ++ [t], r) := by
  have h := stepT_put ts noB t r ht
  rw [noB_left] at h
  exact h

/-- What a Take of one tells: whether there is one, and which. -/
def Kd.Tells {α : Type} (K : Kd α) (s : ByteArray) (x : α) (ok : Bool) : Prop := (ok = true → ∃ r, K.dec s = some (x, r)) ∧ (∀ y r, K.dec s = some (y, r) → ok = true ∧ x = y)
theorem Kd.tells_no {α : Type} (K : Kd α) {s : ByteArray} (x : α) (h : ∀ y r, K.dec s = some (y, r) → False) : K.Tells s x false := ⟨fun e => (by cases e), fun y r e => (h y r e).elim⟩

/-- Does a text begin with another one? -/
def beginsB (s t : ByteArray) : Bool := decide (t.size ≤ s.size) && decide (s.extract 0 t.size = t)
theorem begins_dec {α : Type} (K : Kd α) {s : ByteArray} {x : α} (h : K.ok x = true) (g : beginsB s (K.enc x) = true) : ∃ r, K.dec s = some (x, r) := by
  unfold beginsB at g
  simp only [Bool.and_eq_true, decide_eq_true_eq] at g
  have e := cut_at s (K.enc x).size
  rw [g.2] at e
  exact ⟨_, (K.dec_iff _ _ _).2 ⟨h, e⟩⟩
theorem begins_put (a b : ByteArray) : beginsB (a ++ b) a = true := by
  unfold beginsB
  simp only [Bool.and_eq_true, decide_eq_true_eq]
  exact ⟨by rw [ByteArray.size_append]; omega, ext_ahead a b⟩

/-- What stands in bytes that begin with a note. -/
theorem note_stands {s : ByteArray} {y : Nt} {r : ByteArray} (h : kN.dec s = some (y, r)) :
    ∃ q, textsT s [1, 0] = some ([y.key, y.value], q) ∧ 13 + y.key.size + y.value.size ≤ s.size ∧ takeN (s.extract (5 + y.key.size + y.value.size) s.size) 8 = y.n.toNat ∧ (s.data.toList[0]?) = some (UInt8.ofNat y.kind.toNat) ∧ rightN y = true ∧ beginsB s (noteB y) = true ∧ y.kind = ((y.kind.toNat % 256 : Nat) : Int) := by
  obtain ⟨h1, h2⟩ := (kN.dec_iff _ _ _).1 h
  have h1' : rightN y = true := h1
  have h2' : s = noteB y ++ r := h2
  obtain ⟨hk, h16, h32⟩ := right_of h1'
  have o1 := text_small h16 (show 16 ≤ 65535 by omega)
  have o2 := text_small h32 (show 32 ≤ 65535 by omega)
  have z1 := textS_len o1
  have z2 := textS_len o2
  have e1 : s = nS 1 y.kind.toNat ++ (textS y.key ++ (textS y.value ++ (nS 8 y.n.toNat ++ r))) := by
    rw [h2']; unfold noteB; simp only [ba_assoc]
  have hn := y.n.toNat_lt
  refine ⟨nS 8 y.n.toNat ++ r, ?_, ?_, ?_, ?_, h1', ?_, by omega⟩
  · show stepT (stepT (some ([], s)) 1) 0 = _
    have e2 := stepT_put [] (nS 1 y.kind.toNat) y.key (textS y.value ++ (nS 8 y.n.toNat ++ r)) o1
    rw [nS_size] at e2
    rw [e1, e2, stepT_put0 _ _ _ o2]
    rfl
  · rw [h2']
    unfold noteB
    simp only [ByteArray.size_append, nS_size, z1, z2]
    omega
  · have e3 : s = (nS 1 y.kind.toNat ++ (textS y.key ++ textS y.value)) ++ (nS 8 y.n.toNat ++ r) := by
      rw [h2']; unfold noteB; simp only [ba_assoc]
    rw [e3, ext_behind _ _ _ (by simp only [ByteArray.size_append, nS_size, z1, z2]; omega)]
    exact (take_put 8 y.n.toNat (by decide) (by decide) (by simpa using hn) r).2.1
  · rw [e1, data_append, nS_data]
    simp [be]
  · rw [h2']; exact begins_put _ _

theorem pair_stands {s : ByteArray} {y : Pr} {r : ByteArray} (h : kP.dec s = some (y, r)) : textsT s [0, 0] = some ([y.k, y.v], r) ∧ fitsP y = true := by
  obtain ⟨h1, h2⟩ := (kP.dec_iff _ _ _).1 h
  have h1' : fitsP y = true := h1
  have h2' : s = pairB y ++ r := h2
  obtain ⟨h16, h32⟩ := (fitsP_iff y).1 h1'
  have o1 := text_small h16 (show 16 ≤ 65535 by omega)
  have o2 := text_small h32 (show 32 ≤ 65535 by omega)
  refine ⟨?_, h1'⟩
  show stepT (stepT (some ([], s)) 0) 0 = _
  rw [h2']
  unfold pairB
  rw [ba_assoc, stepT_put0 _ _ _ o1, stepT_put0 _ _ _ o2]
  rfl
/-- Two texts that are taken are those that stand there. -/
theorem two_taken {s t u r : ByteArray} (h : textsT s [0, 0] = some ([t, u], r)) : s = textS t ++ textS u ++ r ∧ textOk t = true ∧ textOk u = true := by
  have h : stepT (stepT (some ([], s)) 0) 0 = some ([t, u], r) := h
  by_cases h1 : ttOk s = true
  · have e := stepT_yes (ts := []) (s := s) (a := 0) (by omega) (by rw [ext_all]; exact h1)
    rw [ext_all] at e
    rw [e] at h
    by_cases h2 : ttOk (ttR s) = true
    · have e2 := stepT_yes (ts := [] ++ [ttT s]) (s := ttR s) (a := 0) (by omega) (by rw [ext_all]; exact h2)
      rw [ext_all] at e2
      rw [e2] at h
      injection h with h
      injection h with h3 h4
      have h3' : [ttT s, ttT (ttR s)] = [t, u] := h3
      injection h3' with h5 h6
      injection h6 with h6 _
      obtain ⟨g1, g2⟩ := tt_got h1
      obtain ⟨g3, g4⟩ := tt_got h2
      rw [h5] at g1 g2
      rw [h6, h4] at g4
      rw [h6] at g3
      exact ⟨by rw [ba_assoc, ← g4, ← g2], g1, g3⟩
    · rw [stepT_no (.inr (by rw [ext_all]; simpa using h2))] at h; cases h
  · rw [stepT_no (.inr (by rw [ext_all]; simpa using h1))] at h; cases h
theorem pair_told {s t u r : ByteArray} (h : textsT s [0, 0] = some ([t, u], r)) : kP.Tells s ⟨t, u⟩ (fitsP ⟨t, u⟩) := by
  obtain ⟨h1, _, _⟩ := two_taken h
  constructor
  · intro hf
    exact ⟨r, (kP.dec_iff _ _ _).2 ⟨hf, h1⟩⟩
  · intro y q hd
    obtain ⟨e1, e2⟩ := pair_stands hd
    rw [e1] at h
    injection h with h
    injection h with h2 _
    injection h2 with h3 h4
    injection h4 with h4 _
    subst h3 h4
    exact ⟨e2, rfl⟩

theorem change_stands {s : ByteArray} {y : Ch} {r : ByteArray} (h : kC.dec s = some (y, r)) :
    ∃ q, textsT s [4, 1, 1] = some ([y.key, y.before, y.after], q) ∧ takeN s 4 = y.seq.toNat ∧ (s.data.toList[6 + y.key.size]?) = some (if y.had then 1 else 0) ∧ (s.data.toList[6 + y.key.size + 3 + y.before.size]?) = some (if y.has then 1 else 0) ∧ mayC y = true ∧ beginsB s (chB y) = true ∧ y.seq = ((y.seq.toNat : Nat) : Int) := by
  obtain ⟨h1, h2⟩ := (kC.dec_iff _ _ _).1 h
  have h1' : mayC y = true := h1
  have h2' : s = chB y ++ r := h2
  obtain ⟨hs1, hs2, h16, hb, ha⟩ := may_of h1'
  have o1 := text_small h16 (show 16 ≤ 65535 by omega)
  have o2 := text_small hb (show 32 ≤ 65535 by omega)
  have o3 := text_small ha (show 32 ≤ 65535 by omega)
  have z1 := textS_len o1
  have z2 := textS_len o2
  have z3 := textS_len o3
  have e1 : s = nS 4 y.seq.toNat ++ (textS y.key ++ (fS y.had ++ (textS y.before ++ (fS y.has ++ (textS y.after ++ r))))) := by
    rw [h2']; unfold chB; simp only [ba_assoc]
  have one : ∀ (p q : ByteArray) (b : Bool) (k : Nat), k = p.size → (p ++ (fS b ++ q)).data.toList[k]? = some (if b then 1 else 0) := by
    intro p q b k hk
    subst hk
    rw [data_append, List.getElem?_append_right (by rw [len_data]; exact Nat.le_refl _), len_data, Nat.sub_self, data_append]
    unfold fS
    rw [nS_data]
    cases b <;> rfl
  refine ⟨r, ?_, ?_, ?_, ?_, h1', ?_, by omega⟩
  · show stepT (stepT (stepT (some ([], s)) 4) 1) 1 = _
    have e2 := stepT_put [] (nS 4 y.seq.toNat) y.key (fS y.had ++ (textS y.before ++ (fS y.has ++ (textS y.after ++ r)))) o1
    have e3 := stepT_put ([] ++ [y.key]) (fS y.had) y.before (fS y.has ++ (textS y.after ++ r)) o2
    have e4 := stepT_put ([] ++ [y.key] ++ [y.before]) (fS y.has) y.after r o3
    rw [nS_size] at e2
    rw [fS_size] at e3 e4
    rw [e1, e2, e3, e4]
    rfl
  · rw [e1]
    exact (take_put 4 y.seq.toNat (by decide) (by decide) (by omega) _).2.1
  · have e3 : s = (nS 4 y.seq.toNat ++ textS y.key) ++ (fS y.had ++ (textS y.before ++ (fS y.has ++ (textS y.after ++ r)))) := by
      rw [e1]; simp only [ba_assoc]
    rw [e3]
    exact one _ _ _ _ (by simp only [ByteArray.size_append, nS_size, z1]; omega)
  · have e3 : s = (nS 4 y.seq.toNat ++ textS y.key ++ fS y.had ++ textS y.before) ++ (fS y.has ++ (textS y.after ++ r)) := by
      rw [e1]; simp only [ba_assoc]
    rw [e3]
    exact one _ _ _ _ (by simp only [ByteArray.size_append, nS_size, fS_size, z1, z2]; omega)
  · rw [h2']; exact begins_put _ _

theorem range_stands {s : ByteArray} {y : Rng} {r : ByteArray} (h : kR.dec s = some (y, r)) :
    ∃ q, textsT s [0, 0] = some ([y.lo, y.hi], q) ∧ (s.data.toList[4 + y.lo.size + y.hi.size]?) = some (if y.op then 1 else 0) ∧ rightB y = true ∧ r = s.extract (4 + y.lo.size + y.hi.size + 1) s.size := by
  obtain ⟨h1, h2⟩ := (kR.dec_iff _ _ _).1 h
  have h1' : rightB y = true := h1
  have h2' : s = rngB y ++ r := h2
  obtain ⟨h16, h17⟩ := rng_of h1'
  have o1 := text_small h16 (show 16 ≤ 65535 by omega)
  have o2 := text_small h17 (show 17 ≤ 65535 by omega)
  have z1 := textS_len o1
  have z2 := textS_len o2
  have e1 : s = textS y.lo ++ (textS y.hi ++ (fS y.op ++ r)) := by
    rw [h2']; unfold rngB; simp only [ba_assoc]
  refine ⟨fS y.op ++ r, ?_, ?_, h1', ?_⟩
  · show stepT (stepT (some ([], s)) 0) 0 = _
    rw [e1, stepT_put0 _ _ _ o1, stepT_put0 _ _ _ o2]
    rfl
  · have e3 : s = (textS y.lo ++ textS y.hi) ++ (fS y.op ++ r) := by rw [e1]; simp only [ba_assoc]
    rw [e3, data_append, List.getElem?_append_right (by rw [len_data, ByteArray.size_append, z1, z2]; omega), len_data, ByteArray.size_append, z1, z2, show 4 + y.lo.size + y.hi.size - (2 + y.lo.size + (2 + y.hi.size)) = 0 by omega, data_append]
    unfold fS
    rw [nS_data]
    cases y.op <;> rfl
  · have e3 : s = (textS y.lo ++ textS y.hi ++ fS y.op) ++ r := by rw [e1]; simp only [ba_assoc]
    have h5 := ext_behind (textS y.lo ++ textS y.hi ++ fS y.op) r (4 + y.lo.size + y.hi.size + 1) (by simp only [ByteArray.size_append, fS_size, z1, z2]; omega)
    rw [← e3] at h5
    exact h5.symm
theorem range_told {s t u r : ByteArray} {b : Bool} (h : textsT s [0, 0] = some ([t, u], r)) (hb : s.data.toList[4 + t.size + u.size]? = some (if b then 1 else 0)) (hr : rightB ⟨t, u, b⟩ = true) :
    kR.dec s = some (⟨t, u, b⟩, s.extract (4 + t.size + u.size + 1) s.size) := by
  obtain ⟨h1, h2, h3⟩ := two_taken h
  have z1 := textS_len h2
  have z2 := textS_len h3
  have hl : 4 + t.size + u.size < s.size := by
    obtain ⟨h4, _⟩ := List.getElem?_eq_some_iff.1 hb
    rwa [len_data] at h4
  have e : s = textS t ++ textS u ++ fS b ++ s.extract (4 + t.size + u.size + 1) s.size := by
    have c1 := cut_at s (4 + t.size + u.size + 1)
    have c2 : s.extract 0 (4 + t.size + u.size + 1) = textS t ++ textS u ++ fS b := by
      apply ba_ext
      rw [Lib.extract_data, List.drop_zero, Nat.sub_zero, List.take_succ_eq_append_getElem (by rw [len_data]; exact hl)]
      have e5 : s.data.toList[4 + t.size + u.size]'(by rw [len_data]; exact hl) = (if b then 1 else 0) := by
        obtain ⟨_, h4⟩ := List.getElem?_eq_some_iff.1 hb
        exact h4
      have e6 : (s.data.toList.take (4 + t.size + u.size)) = (textS t ++ textS u).data.toList := by
        rw [h1, data_append, List.take_append_of_le_length (by rw [len_data, ByteArray.size_append, z1, z2]; omega), List.take_of_length_le (by rw [len_data, ByteArray.size_append, z1, z2]; omega)]
      rw [e5, e6, data_append (textS t ++ textS u)]
      unfold fS
      rw [nS_data]
      cases b <;> rfl
    rw [← c2]
    exact c1
  exact (kR.dec_iff _ _ _).2 ⟨hr, e⟩

end Go.Proofs.Ytfbcmcckgjfdhaa
