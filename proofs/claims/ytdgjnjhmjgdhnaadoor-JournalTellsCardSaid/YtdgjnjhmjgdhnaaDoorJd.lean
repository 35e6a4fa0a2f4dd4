/- Journals on disks: what is told behind appends, flushes and crashes; plain facts. -/
import Derived.Test.YtdgjnjhmjgdhnaaDoorWTexts
namespace Go.Proofs.YtdgjnjhmjgdhnaaDoor

theorem jou_get {S : List ByteArray} {W : List Wr} (h : 130 ≤ S.length) (i : Nat) (hi : i < 128) : (jou S W)[i]'(by rw [jou_len h]; exact hi) = (doneL S W)[2 + i]'(by rw [done_len]; omega) := by
  unfold jou
  rw [List.getElem_take, List.getElem_drop]
theorem jou_flush (S : List ByteArray) (W : List Wr) : jou (doneL S W) [] = jou S W := rfl
/-- What was put lies there, all else stays. -/
theorem jou_put {S : List ByteArray} {W : List Wr} (h : 130 ≤ S.length) (a : Nat) (L : List ByteArray) (hl : a + L.length ≤ 128) (i : Nat) (hi : i < 128) :
    (jou S (W ++ putL (2 + (a : Int)) L))[i]'(by rw [jou_len h]; exact hi) = if h2 : a ≤ i ∧ i < a + L.length then L[i - a]'(by omega) else (jou S W)[i]'(by rw [jou_len h]; exact hi) := by
  rw [jou_get h i hi, jou_get h i hi]
  have e := done_put (doneL S W) (2 + a) L (by rw [done_len]; omega) (2 + i) (by rw [done_len]; omega)
  have e2 : ((2 + a : Nat) : Int) = 2 + (a : Int) := by omega
  rw [e2] at e
  simp only [done_append]
  rw [e]
  by_cases h2 : a ≤ i ∧ i < a + L.length
  · rw [dif_pos (by omega), dif_pos h2]
    congr 1
    omega
  · rw [dif_neg (by omega), dif_neg h2]

/-- A new disk's journal. -/
def S0 : List ByteArray := List.replicate 130 zeroS
theorem S0_len : S0.length = 130 := List.length_replicate
theorem S0_right : rightB S0 [] = true := zero_right 130 (by decide) (by decide)
theorem S0_jou (i : Nat) (hi : i < 128) : (jou S0 [])[i]'(by rw [jou_len (by rw [S0_len]; exact Nat.le_refl _)]; exact hi) = zeroS := by
  rw [jou_get (by rw [S0_len]; exact Nat.le_refl _) i hi]
  exact List.getElem_replicate _
theorem zero_rd {g a : Nat} (h1 : 1 ≤ g) (h2 : g ≤ 2147483647) : rdB g a zeroS.data.toList = false := rd_zero h1 (by omega) (by decide)
theorem ch_right {S : List ByteArray} {W : List Wr} {g a : Nat} {ts : List ByteArray} (hR : rightB S W = true) (h : 130 ≤ S.length) (hl : a + needs ts ≤ 128) : rightB S (W ++ putL (2 + (a : Int)) (chainL g a ts)) = true :=
  put_right hR (chain_fill _ _ _) (by
    unfold hasB
    rw [chain_len]
    exact decide_eq_true (by omega))

/-- Each place has no piece of g. -/
def Bare (g : Nat) (J : List ByteArray) : Prop := ∀ (i : Nat) (h : i < J.length), rdB g i (J[i]).data.toList = false
theorem bare_zero {g : Nat} (h1 : 1 ≤ g) (h2 : g ≤ 2147483647) : Bare g (jou S0 []) := fun i h => by
  have hi : i < 128 := by rwa [jou_len (by rw [S0_len]; exact Nat.le_refl _)] at h
  rw [S0_jou i hi]
  exact zero_rd h1 h2
theorem bare_none {g : Nat} {J : List ByteArray} (h : Bare g J) : Told g 0 J [] := by
  refine Told.nil ?_
  cases J with
  | nil => rfl
  | cons x J =>
    have := h 0 (by simp)
    simp only [List.getElem_cons_zero] at this
    refine recF_bad ?_
    rw [this]
    rfl
theorem bare_other {S : List ByteArray} {W : List Wr} (h : 130 ≤ S.length) {g k a : Nat} {ts : List ByteArray} (hg : g ≤ 2147483647) (hk : k ≤ 2147483647) (hne : g ≠ k) (hl : a + needs ts ≤ 128) (hb : Bare g (jou S W)) : Bare g (jou S (W ++ putL (2 + (a : Int)) (chainL k a ts))) := fun i hi => by
  have hi2 : i < 128 := by rwa [jou_len h] at hi
  rw [jou_put h a _ (by rw [chain_len]; exact hl) i hi2]
  by_cases h2 : a ≤ i ∧ i < a + (chainL k a ts).length
  · rw [dif_pos h2]
    obtain ⟨b, r, e⟩ := chain_gen (List.getElem_mem (by omega : i - a < (chainL k a ts).length))
    rw [e, pcS_list]
    exact rd_other (by omega) (by omega) hne
  · rw [dif_neg h2]
    exact hb i (by rw [jou_len h]; exact hi2)

/-- The records of g stand from the place 0 on, and no piece of it behind them. -/
def Stand (g : Nat) (J ts : List ByteArray) : Prop := J.length = 128 ∧ needs ts ≤ 128 ∧ (∀ t ∈ ts, t.size ≤ 1000) ∧ ∀ (i : Nat) (h : i < J.length), (∃ h2 : i < (chainL g 0 ts).length, J[i] = (chainL g 0 ts)[i]) ∨ (needs ts ≤ i ∧ rdB g i (J[i]).data.toList = false)
theorem Stand.prefix_ {g : Nat} {J ts : List ByteArray} (h : Stand g J ts) : chainL g 0 ts <+: J := by
  obtain ⟨h1, h2, _, h4⟩ := h
  rw [List.prefix_iff_getElem?]
  intro i hi
  have hi2 : i < J.length := by rw [chain_len] at hi; omega
  rw [List.getElem?_eq_getElem hi2]
  rcases h4 i hi2 with ⟨_, h5⟩ | ⟨h5, _⟩
  · rw [h5]
  · rw [chain_len] at hi; omega
theorem Stand.told {g : Nat} {J ts : List ByteArray} (h : Stand g J ts) : Told g 0 J ts := by
  refine told_all h.2.2.1 h.prefix_ fun hn => ?_
  rcases h.2.2.2 (needs ts) hn with ⟨h5, _⟩ | ⟨_, h5⟩
  · rw [chain_len] at h5; omega
  · rw [Nat.zero_add]
    exact h5
theorem Stand.nil {g : Nat} {J : List ByteArray} (hl : J.length = 128) (h : Bare g J) : Stand g J [] := ⟨hl, by decide, by simp, fun i hi => .inr ⟨Nat.zero_le _, h i hi⟩⟩
/-- What is appended where they end stands behind them. -/
theorem Stand.append {S : List ByteArray} {W : List Wr} {g : Nat} {ts us : List ByteArray} (hS : 130 ≤ S.length) (h : Stand g (jou S W) ts) (hu : ∀ t ∈ us, t.size ≤ 1000) (hl : needs ts + needs us ≤ 128) : Stand g (jou S (W ++ putL (2 + ((needs ts : Nat) : Int)) (chainL g (needs ts) us))) (ts ++ us) := by
  obtain ⟨h1, h2, h3, h4⟩ := h
  refine ⟨jou_len hS, by rw [needs_append]; exact hl, fun t ht => (List.mem_append.1 ht).elim (h3 t) (hu t), fun i hi => ?_⟩
  have hi2 : i < 128 := by rwa [jou_len hS] at hi
  have e := jou_put (W := W) hS (needs ts) (chainL g (needs ts) us) (by rw [chain_len]; exact hl) i hi2
  have ec : chainL g 0 (ts ++ us) = chainL g 0 ts ++ chainL g (needs ts) us := by rw [chain_append, Nat.zero_add]
  rw [e]
  by_cases hc : needs ts ≤ i ∧ i < needs ts + (chainL g (needs ts) us).length
  · rw [dif_pos hc]
    refine .inl ⟨by rw [ec, List.length_append, chain_len]; omega, ?_⟩
    simp only [ec]
    rw [List.getElem_append_right (by rw [chain_len]; exact hc.1)]
    congr 1
    rw [chain_len]
  · rw [dif_neg hc]
    rw [chain_len] at hc
    rcases h4 i (by rw [h1]; exact hi2) with ⟨h5, h6⟩ | ⟨h5, h6⟩
    · refine .inl ⟨by rw [ec, List.length_append]; omega, ?_⟩
      rw [h6]
      simp only [ec]
      rw [List.getElem_append_left h5]
    · exact .inr ⟨by rw [needs_append]; omega, h6⟩

/-- A write is one of them. -/
theorem put_at {a : Int} {l : List ByteArray} {x : Wr} (h : x ∈ putL a l) : ∃ (j : Nat) (hj : j < l.length), x.a = a + j ∧ x.tx = l[j] := by
  induction l generalizing a with
  | nil => cases h
  | cons t l ih =>
    rcases List.mem_cons.1 h with rfl | h
    · exact ⟨0, by simp, by simp, rfl⟩
    · obtain ⟨j, hj, h1, h2⟩ := ih h
      exact ⟨j + 1, by simpa using hj, by omega, h2⟩
/-- BEHIND A CRASH SOME OF THE FIRST ONES ARE TOLD, with all that stood there. -/
theorem crash_told {S : List ByteArray} {g : Nat} {ts us : List ByteArray} (ks : List Bool) (hS : 130 ≤ S.length) (h : Stand g (jou S []) ts) (hu : ∀ t ∈ us, t.size ≤ 1000) (hl : needs ts + needs us ≤ 128) :
    ∃ k, ts.length ≤ k ∧ k ≤ (ts ++ us).length ∧ Told g 0 (jou (doneL S (keptL ks (putL (2 + ((needs ts : Nat) : Int)) (chainL g (needs ts) us)))) []) ((ts ++ us).take k) := by
  have hS2 : ∀ V, 130 ≤ (doneL S V).length := fun V => by rw [done_len]; exact hS
  have ec : chainL g 0 (ts ++ us) = chainL g 0 ts ++ chainL g (needs ts) us := by rw [chain_append, Nat.zero_add]
  have hpl := h.prefix_
  obtain ⟨h1, h2, h3, h4⟩ := h
  generalize hV : keptL ks (putL (2 + ((needs ts : Nat) : Int)) (chainL g (needs ts) us)) = V
  have hVm : ∀ x ∈ V, ∃ (j : Nat) (hj : j < (chainL g (needs ts) us).length), x.a = 2 + ((needs ts : Nat) : Int) + j ∧ x.tx = (chainL g (needs ts) us)[j] := fun x hx => put_at (kept_mem (by rw [hV]; exact hx))
  have hJl : (jou (doneL S V) []).length = 128 := jou_len (hS2 V)
  have each : ∀ i (hi : i < 128), ((jou (doneL S V) [])[i]'(by rw [hJl]; exact hi) = (jou S [])[i]'(by rw [jou_len hS]; exact hi)) ∨ (needs ts ≤ i ∧ (chainL g 0 (ts ++ us))[i]? = some ((jou (doneL S V) [])[i]'(by rw [hJl]; exact hi))) := fun i hi => by
    have e1 := jou_get (W := []) (hS2 V) i hi
    have e2 := jou_get (W := []) hS i hi
    simp only [done_nil] at e1 e2
    rcases done_one S V (2 + i) (by omega) (fun x hx => by obtain ⟨j, _, hj, _⟩ := hVm x hx; omega) with h5 | ⟨x, hx, h5, h6⟩
    · exact .inl (by rw [e1, e2, h5])
    · obtain ⟨j, hj, h7, h8⟩ := hVm x hx
      have hij : i = needs ts + j := by omega
      refine .inr ⟨by omega, ?_⟩
      rw [e1, ← h6, h8, ec, hij, List.getElem?_append_right (by rw [chain_len]; omega), chain_len, Nat.add_sub_cancel_left, List.getElem?_eq_getElem hj]
  obtain ⟨k, k1, k2, k3⟩ := told_torn (g := g) (a := 0) (l := jou (doneL S V) []) (ts := ts ++ us) (fun t ht => (List.mem_append.1 ht).elim (h3 t) (hu t)) (fun i hi => by
    have hi2 : i < 128 := by rwa [hJl] at hi
    rcases each i hi2 with h5 | ⟨_, h5⟩
    · rw [h5, Nat.zero_add]
      rcases h4 i (by rw [h1]; exact hi2) with ⟨h6, h7⟩ | ⟨_, h6⟩
      · refine .inl ?_
        rw [ec, List.getElem?_append_left h6, List.getElem?_eq_getElem h6, h7]
      · exact .inr h6
    · exact .inl h5)
  refine ⟨k, k3 ts.length (by simp) ?_, k1, k2⟩
  rw [List.take_left]
  rw [List.prefix_iff_getElem?] at hpl ⊢
  intro i hi
  have hi2 : i < 128 := by rw [chain_len] at hi; omega
  rw [List.getElem?_eq_getElem (by rw [hJl]; exact hi2)]
  rcases each i hi2 with h5 | ⟨h5, _⟩
  · rw [h5]
    have := hpl i hi
    rw [List.getElem?_eq_getElem (by rw [h1]; exact hi2)] at this
    exact this
  · rw [chain_len] at hi
    omega

end Go.Proofs.YtdgjnjhmjgdhnaaDoor
