/- What is packed is taken: plain facts on the document's answers. -/
import Derived.Test.YtngiadcbmfbonaaWParts
namespace Go.Proofs.Ytngiadcbmfbonaa

theorem data_append (a b : ByteArray) : (a ++ b).data.toList = a.data.toList ++ b.data.toList := by simp

theorem textS_data {t : ByteArray} (h : textOk t = true) : (textS t).data.toList = be 2 t.size ++ t.data.toList := by
  rw [textS, if_pos h, data_append]

theorem len_data (s : ByteArray) : s.data.toList.length = s.size := by simp

theorem head2_text {t : ByteArray} (h : textOk t = true) (s : ByteArray) : head2 (textS t ++ s) = t.size := by
  unfold head2
  rw [data_append, textS_data h, List.append_assoc, List.take_append_of_le_length (by rw [be_length]; exact Nat.le_refl _), List.take_of_length_le (by rw [be_length]; exact Nat.le_refl _), val_be]
  simp only [textOk, decide_eq_true_eq] at h
  exact Nat.mod_eq_of_lt (by omega)

theorem textS_len {t : ByteArray} (h : textOk t = true) : (textS t).size = 2 + t.size := by
  rw [← len_data, textS_data h, List.length_append, be_length, len_data]

theorem tt_text {t : ByteArray} (h : textOk t = true) (s : ByteArray) : ttOk (textS t ++ s) = true ∧ ttT (textS t ++ s) = t ∧ ttR (textS t ++ s) = s := by
  have hl := textS_len h
  have hz : (textS t ++ s).size = 2 + t.size + s.size := by rw [ByteArray.size_append, hl]
  have hk := head2_text h s
  have ho : ttOk (textS t ++ s) = true := by
    simp only [ttOk, Bool.and_eq_true, decide_eq_true_eq]; omega
  have hb := be_length 2 t.size
  have hd : (textS t ++ s).data.toList = be 2 t.size ++ (t.data.toList ++ s.data.toList) := by rw [data_append, textS_data h, List.append_assoc]
  refine ⟨ho, ?_, ?_⟩
  · rw [ttT, if_pos ho, hk]
    refine ByteArray.ext (Array.toList_inj.1 ?_)
    rw [Lib.extract_data, hd, List.drop_left' hb, show 2 + t.size - 2 = t.data.toList.length by rw [len_data]; omega, List.take_left]
  · rw [ttR, if_pos ho, hk, hz]
    refine ByteArray.ext (Array.toList_inj.1 ?_)
    rw [Lib.extract_data, hd, ← List.append_assoc, show 2 + t.size = (be 2 t.size ++ t.data.toList).length by rw [List.length_append, hb, len_data], List.drop_left]
    exact List.take_of_length_le (by rw [len_data]; omega)

theorem parts_cat (ss : List ByteArray) (h : allOk ss = true) : parts ⟨(cat ss).toArray⟩ = some ss := by
  induction ss with
  | nil => exact parts_nil _ rfl
  | cons t ss ih =>
    simp only [allOk, List.all_cons, Bool.and_eq_true] at h
    have e : (⟨(cat (t :: ss)).toArray⟩ : ByteArray) = textS t ++ ⟨(cat ss).toArray⟩ := by
      refine ByteArray.ext (Array.toList_inj.1 ?_)
      rw [data_append]; simp [cat]
    obtain ⟨h1, h2, h3⟩ := tt_text h.1 ⟨(cat ss).toArray⟩
    rw [e, parts_ok _ (by rw [ByteArray.size_append, textS_len h.1]; omega) h1, h2, h3, ih h.2]
    rfl

/-- Bytes that are parts are Texts of them. -/
theorem text_tt {s : ByteArray} (h : ttOk s = true) : textOk (ttT s) = true ∧ (textS (ttT s)).data.toList ++ (ttR s).data.toList = s.data.toList := by
  have h2 := h
  simp only [ttOk, Bool.and_eq_true, decide_eq_true_eq] at h2
  have hlt := head2_lt s
  have ht : (ttT s).size = head2 s := by rw [ttT, if_pos h, ByteArray.size_extract]; omega
  have ho : textOk (ttT s) = true := by simp only [textOk, decide_eq_true_eq]; omega
  refine ⟨ho, ?_⟩
  have hl2 : (s.data.toList.take 2).length = 2 := by rw [List.length_take, len_data]; omega
  have hb : be 2 (head2 s) = s.data.toList.take 2 := by
    have := be_val (s.data.toList.take 2)
    rw [hl2] at this; exact this
  rw [textS_data ho, ht, hb, ttT, if_pos h, ttR, if_pos h, Lib.extract_data, Lib.extract_data, List.append_assoc]
  have e1 : (s.data.toList.drop (2 + head2 s)).take (s.size - (2 + head2 s)) = (s.data.toList.drop 2).drop (head2 s) := by
    rw [List.drop_drop]
    exact List.take_of_length_le (by rw [List.length_drop, len_data]; omega)
  rw [e1, show 2 + head2 s - 2 = head2 s by omega, List.take_append_drop, List.take_append_drop]

theorem cat_parts : ∀ (f : Nat) (s : ByteArray), s.size ≤ f → ∀ ss, parts s = some ss → allOk ss = true ∧ cat ss = s.data.toList := by
  intro f
  induction f with
  | zero =>
    intro s hs ss h
    have h0 : s.size = 0 := by omega
    rw [parts_nil s h0] at h
    injection h with h; subst h
    refine ⟨rfl, ?_⟩
    have := len_data s
    exact (List.eq_nil_of_length_eq_zero (by omega)).symm
  | succ f ih =>
    intro s hs ss h
    by_cases h0 : s.size = 0
    · rw [parts_nil s h0] at h
      injection h with h; subst h
      refine ⟨rfl, ?_⟩
      have := len_data s
      exact (List.eq_nil_of_length_eq_zero (by omega)).symm
    · by_cases ho : ttOk s = true
      · rw [parts_ok s h0 ho] at h
        have hz := ttR_size s ho
        cases hp : parts (ttR s) with
        | none => rw [hp] at h; cases h
        | some l =>
          rw [hp] at h
          injection h with h; subst h
          obtain ⟨i1, i2⟩ := ih (ttR s) (by omega) l hp
          obtain ⟨t1, t2⟩ := text_tt ho
          refine ⟨?_, ?_⟩
          · unfold allOk at *; rw [List.all_cons, t1, i1]; rfl
          · show (textS (ttT s)).data.toList ++ cat l = _
            rw [i2, t2]
      · rw [parts_no s h0 (by simpa using ho)] at h; cases h

theorem cat_ge : ∀ (ss : List ByteArray), allOk ss = true → 2 * ss.length ≤ (cat ss).length := by
  intro ss
  induction ss with
  | nil => intro _; simp
  | cons t ss ih =>
    intro h
    simp only [allOk, List.all_cons, Bool.and_eq_true] at h
    have h1 := ih h.2
    have h2 := textS_len h.1
    have e : (cat (t :: ss)).length = (textS t).size + (cat ss).length := by
      show ((textS t).data.toList ++ cat ss).length = _
      rw [List.length_append, len_data]
    rw [e, List.length_cons]; omega

theorem partsL_len (s : ByteArray) : 2 * (partsL s).length ≤ s.size := by
  unfold partsL
  cases h : parts s with
  | none => simp
  | some l =>
    obtain ⟨h1, h2⟩ := cat_parts s.size s (Nat.le_refl _) l h
    have h3 := cat_ge l h1
    rw [h2, len_data] at h3
    exact h3

theorem partsE_ok {s : ByteArray} (h : partsE s = 0) : allOk (partsL s) = true ∧ cat (partsL s) = s.data.toList := by
  unfold partsE at h
  cases hp : parts s with
  | none => rw [hp] at h; simp at h
  | some l =>
    have := cat_parts s.size s (Nat.le_refl _) l hp
    unfold partsL; rw [hp]; exact this

end Go.Proofs.Ytngiadcbmfbonaa
