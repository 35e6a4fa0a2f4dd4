/- What is told one by one of a list's bytes: plain facts. -/
import Derived.Test.YtfbcmcckgjfdhaaRTn
import Derived.Test.YtfbcmcckgjfdhaaRTc
set_option linter.unusedVariables false
set_option linter.unusedSimpArgs false
namespace Go.Proofs.Ytfbcmcckgjfdhaa

section
variable {α : Type} (K : Kd α)
theorem Kd.decL_ahead {n j : Nat} {s r : ByteArray} {l : List α} (h : K.decL n s = some (l, r)) (hj : j ≤ n) : ∃ q, K.decL j s = some (l.take j, q) := by
  obtain ⟨h1, h2, h3⟩ := (K.decL_iff _ _ _ _).1 h
  refine ⟨K.cat (l.drop j) ++ r, (K.decL_iff _ _ _ _).2 ⟨by rw [List.length_take]; omega, ?_, ?_⟩⟩
  · rw [List.all_eq_true] at h2 ⊢
    exact fun x hx => h2 x (List.mem_of_mem_take hx)
  · rw [← ba_assoc, ← Kd.cat_append, List.take_append_drop]; exact h3
/-- Where the one by one stands: k are taken, whether all was good, and what is left. -/
def Kd.At (s : ByteArray) (k : Nat) (g : Bool) (l : ByteArray) : Prop :=
  l.size ≤ 300 ∧ ((g = true ∧ takeOk s 2 = true ∧ ∃ xs, K.decL k (takeR s 2) = some (xs, l)) ∨ (g = false ∧ K.takeL s = none))
theorem Kd.at_start {s : ByteArray} (hs : s.size ≤ 300) : K.At s 0 (takeOk s 2) (takeR s 2) := by
  refine ⟨Nat.le_trans (takeR_le _ _) hs, ?_⟩
  cases h : takeOk s 2 with
  | true => exact .inl ⟨rfl, rfl, [], rfl⟩
  | false =>
    refine .inr ⟨rfl, ?_⟩
    unfold Kd.takeL
    rw [h]; rfl
theorem Kd.take_dec {s : ByteArray} (h : takeOk s 2 = true) : K.takeL s = K.decL (takeN s 2) (takeR s 2) := by
  unfold Kd.takeL
  rw [h, if_pos rfl]
theorem Kd.tells_none {l : ByteArray} {x : α} (h : K.Tells l x false) : K.dec l = none := by
  cases hd : K.dec l with
  | none => rfl
  | some p =>
    obtain ⟨y, r⟩ := p
    have := (h.2 y r hd).1
    cases this
/-- One more. -/
theorem Kd.at_step {s : ByteArray} {k : Nat} {g ok : Bool} {l : ByteArray} {x : α} (h : K.At s k g l) (hk : k < takeN s 2) (ht : K.Tells l x ok) : K.At s (k + 1) (g && ok) (if (g && ok) = true then l.extract (K.enc x).size l.size else l) := by
  obtain ⟨hl, h⟩ := h
  rcases h with ⟨rfl, ho, xs, hd⟩ | ⟨rfl, hn⟩
  · cases ok with
    | true =>
      obtain ⟨r, hr⟩ := ht.1 rfl
      obtain ⟨_, e⟩ := (K.dec_iff _ _ _).1 hr
      have e2 : l.extract (K.enc x).size l.size = r := by
        rw [e]; exact ext_behind _ _ _ rfl
      simp only [Bool.and_self, if_true]
      rw [e2]
      refine ⟨?_, .inl ⟨rfl, ho, _, K.decL_more hd hr⟩⟩
      have hs := congrArg ByteArray.size e
      rw [ByteArray.size_append] at hs
      omega
    | false =>
      simp only [Bool.and_false, Bool.false_eq_true, if_false]
      refine ⟨hl, .inr ⟨rfl, ?_⟩⟩
      rw [K.take_dec ho]
      exact K.decL_stop hd hk (K.tells_none ht)
  · simp only [Bool.false_and, Bool.false_eq_true, if_false]
    exact ⟨hl, .inr ⟨rfl, hn⟩⟩
/-- What was told at once is what is told here. -/
theorem Kd.at_cond {s : ByteArray} {k : Nat} {g ok : Bool} {l : ByteArray} {x : α} (h : K.At s k g l) (hk : k < takeN s 2) (ht : K.Tells l x ok) : K.tE s = 2 ∨ (K.tE s = 0 ∧ (g && ok) = true ∧ ∃ h : k < (K.tL s).length, (K.tL s)[k] = x) := by
  cases hc : K.takeL s with
  | none => exact .inl (K.t_none hc).2.2
  | some p =>
    obtain ⟨L, R⟩ := p
    obtain ⟨e1, _, e3⟩ := K.t_some hc
    obtain ⟨_, h⟩ := h
    rcases h with ⟨rfl, ho, xs, hd⟩ | ⟨_, hn⟩
    · rw [K.take_dec ho] at hc
      cases ok with
      | false =>
        rw [K.decL_stop hd hk (K.tells_none ht)] at hc
        cases hc
      | true =>
        obtain ⟨r, hr⟩ := ht.1 rfl
        obtain ⟨q, hq⟩ := K.decL_ahead hc (show k + 1 ≤ takeN s 2 from hk)
        rw [K.decL_more hd hr] at hq
        injection hq with hq
        injection hq with hq _
        obtain ⟨hlen, _, _⟩ := (K.decL_iff _ _ _ _).1 hc
        obtain ⟨hxs, _, _⟩ := (K.decL_iff _ _ _ _).1 hd
        refine .inr ⟨e3, rfl, by rw [e1]; omega, ?_⟩
        have h5 : (L.take (k + 1))[k]? = some x := by
          rw [← hq, List.getElem?_append_right (by omega), hxs]; simp
        rw [List.getElem?_take_of_lt (by omega), List.getElem?_eq_getElem (by omega)] at h5
        injection h5 with h5
        simp only [e1]
        exact h5
    · rw [hn] at hc; cases hc
/-- At the end. -/
def OutE (g : Bool) (E : Int) (R l : ByteArray) : Prop := (g = true ∧ E = 0 ∧ R = l) ∨ (g = false ∧ E = 2)
theorem Kd.at_end {s : ByteArray} {g : Bool} {l : ByteArray} (h : K.At s (takeN s 2) g l) : OutE g (K.tE s) (K.tR s) l := by
  obtain ⟨_, h⟩ := h
  rcases h with ⟨rfl, ho, xs, hd⟩ | ⟨rfl, hn⟩
  · obtain ⟨_, e2, e3⟩ := K.t_some ((K.take_dec ho).trans hd)
    exact .inl ⟨rfl, e3, e2⟩
  · exact .inr ⟨rfl, (K.t_none hn).2.2⟩
theorem Kd.at_break {s : ByteArray} {k : Nat} {l : ByteArray} (h : K.At s k false l) : OutE false (K.tE s) (K.tR s) l := by
  obtain ⟨_, h⟩ := h
  rcases h with ⟨h, _⟩ | ⟨_, hn⟩
  · cases h
  · exact .inr ⟨rfl, (K.t_none hn).2.2⟩
/-- What is good may be, and is no longer than what is left. -/
theorem Kd.tells_ok {l : ByteArray} {x : α} (h : K.Tells l x true) : K.ok x = true ∧ (K.enc x).size ≤ l.size := by
  obtain ⟨r, hr⟩ := h.1 rfl
  obtain ⟨e1, e2⟩ := (K.dec_iff _ _ _).1 hr
  refine ⟨e1, ?_⟩
  have hs := congrArg ByteArray.size e2
  rw [ByteArray.size_append] at hs
  omega
end
theorem range_once (s : ByteArray) : (tRe s = 0 ∧ (kR.dec s).isSome = true) ∨ (tRe s = 2 ∧ (kR.dec s).isSome = false) := by
  cases h : kR.dec s with
  | none => exact .inr ⟨(tR_none h).2.2, rfl⟩
  | some p => obtain ⟨x, r⟩ := p; exact .inl ⟨(tR_some h).2.2, rfl⟩

end Go.Proofs.Ytfbcmcckgjfdhaa
