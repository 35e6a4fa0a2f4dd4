/- Plain facts: texts as bytes, and back. Nothing of the program. -/
import Derived.Test.YtfbcmcckgjfdhaaTT
set_option linter.unusedVariables false
set_option linter.unusedSimpArgs false
namespace Go.Proofs.Ytfbcmcckgjfdhaa

theorem data_append (a b : ByteArray) : (a ++ b).data.toList = a.data.toList ++ b.data.toList := by simp

theorem textS_data {t : ByteArray} (h : textOk t = true) : (textS t).data.toList = be 2 t.size ++ t.data.toList := by
  rw [textS, if_pos h, data_append]

theorem len_data (s : ByteArray) : s.data.toList.length = s.size := by simp

theorem head2_text {t : ByteArray} (h : textOk t = true) (s : ByteArray) : head2 (textS t ++ s) = t.size := by
  unfold head2
  rw [data_append, textS_data h, List.append_assoc, List.take_append_of_le_length (by rw [be_length]; exact Nat.le_refl _), List.take_of_length_le (by rw [be_length]; exact Nat.le_refl _), val_be]
  simp only [textOk, decide_eq_true_eq] at h
  exact Nat.mod_eq_of_lt (by omega)

theorem textS_len {t : ByteArray} (h : textOk t = true) : (textS t).size = 2 + t.size := by
  rw [← len_data, textS_data h, List.length_append, be_length, len_data]

theorem tt_text {t : ByteArray} (h : textOk t = true) (s : ByteArray) : ttOk (textS t ++ s) = true ∧ ttT (textS t ++ s) = t ∧ ttR (textS t ++ s) = s := by
  have hl := textS_len h
  have hz : (textS t ++ s).size = 2 + t.size + s.size := by rw [ByteArray.size_append, hl]
  have hk := head2_text h s
  have ho : ttOk (textS t ++ s) = true := by
    simp only [ttOk, Bool.and_eq_true, decide_eq_true_eq]; omega
  have hb := be_length 2 t.size
  have hd : (textS t ++ s).data.toList = be 2 t.size ++ (t.data.toList ++ s.data.toList) := by rw [data_append, textS_data h, List.append_assoc]
  refine ⟨ho, ?_, ?_⟩
  · rw [ttT, if_pos ho, hk]
    refine ByteArray.ext (Array.toList_inj.1 ?_)
    rw [Lib.extract_data, hd, List.drop_left' hb, show 2 + t.size - 2 = t.data.toList.length by rw [len_data]; omega, List.take_left]
  · rw [ttR, if_pos ho, hk, hz]
    refine ByteArray.ext (Array.toList_inj.1 ?_)
    rw [Lib.extract_data, hd, ← List.append_assoc, show 2 + t.size = (be 2 t.size ++ t.data.toList).length by rw [List.length_append, hb, len_data], List.drop_left]
    exact List.take_of_length_le (by rw [len_data]; omega)

/-- Bytes that are parts are Texts of them. -/
theorem text_tt {s : ByteArray} (h : ttOk s = true) : textOk (ttT s) = true ∧ (textS (ttT s)).data.toList ++ (ttR s).data.toList = s.data.toList := by
  have h2 := h
  simp only [ttOk, Bool.and_eq_true, decide_eq_true_eq] at h2
  have hlt := head2_lt s
  have ht : (ttT s).size = head2 s := by rw [ttT, if_pos h, ByteArray.size_extract]; omega
  have ho : textOk (ttT s) = true := by simp only [textOk, decide_eq_true_eq]; omega
  refine ⟨ho, ?_⟩
  have hl2 : (s.data.toList.take 2).length = 2 := by rw [List.length_take, len_data]; omega
  have hb : be 2 (head2 s) = s.data.toList.take 2 := by
    have := be_val (s.data.toList.take 2)
    rw [hl2] at this; exact this
  rw [textS_data ho, ht, hb, ttT, if_pos h, ttR, if_pos h, Lib.extract_data, Lib.extract_data, List.append_assoc]
  have e1 : (s.data.toList.drop (2 + head2 s)).take (s.size - (2 + head2 s)) = (s.data.toList.drop 2).drop (head2 s) := by
    rw [List.drop_drop]
    exact List.take_of_length_le (by rw [List.length_drop, len_data]; omega)
  rw [e1, show 2 + head2 s - 2 = head2 s by omega, List.take_append_drop, List.take_append_drop]

end Go.Proofs.Ytfbcmcckgjfdhaa
