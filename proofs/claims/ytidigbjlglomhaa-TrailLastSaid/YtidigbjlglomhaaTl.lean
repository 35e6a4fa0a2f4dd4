/- Trails: plain facts on lists of changes. -/
import Derived.Test.YtidigbjlglomhaaCh
set_option linter.unusedVariables false
set_option linter.unusedSimpArgs false
namespace Go.Proofs.Ytidigbjlglomhaa

def Trail (l : List Ch) : Prop := (∀ c ∈ l, mayC c = true) ∧ l.Pairwise fun a b => a.seq < b.seq
/-- What a walk looks at. -/
def okAt (l : List Ch) (i : Nat) (h : i < l.length) : Prop := mayC l[i] = true ∧ (0 < i → (l[i - 1]'(by omega)).seq < l[i].seq)
theorem trail_iff (l : List Ch) : Trail l ↔ ∀ i (h : i < l.length), okAt l i h := by
  constructor
  · rintro ⟨h1, h2⟩ i h
    exact ⟨h1 _ (List.getElem_mem h), fun h0 => List.pairwise_iff_getElem.1 h2 (i - 1) i (by omega) h (by omega)⟩
  · intro h
    refine ⟨fun c hc => ?_, List.pairwise_iff_getElem.2 ?_⟩
    · obtain ⟨i, hi, rfl⟩ := List.getElem_of_mem hc
      exact (h i hi).1
    · have key : ∀ d i (hi : i + d + 1 < l.length), (l[i]'(by omega)).seq < l[i + d + 1].seq := by
        intro d
        induction d with
        | zero => intro i hi; have := (h (i + 1) hi).2 (by omega); simpa using this
        | succ d ih =>
          intro i hi
          have h1 := ih i (by omega)
          have h2 := (h (i + (d + 1) + 1) hi).2 (by omega)
          have h3 : i + (d + 1) + 1 - 1 = i + d + 1 := by omega
          simp only [h3] at h2
          omega
      intro i j hi hj hij
      have := key (j - i - 1) i (by omega)
      have e : i + (j - i - 1) + 1 = j := by omega
      simp only [e] at this
      exact this
instance (l : List Ch) : Decidable (Trail l) := inferInstanceAs (Decidable (_ ∧ _))
def trailB (l : List Ch) : Bool := decide (Trail l)
theorem trail_t {l : List Ch} : trailB l = true ↔ Trail l := by unfold trailB; simp
theorem trail_f {l : List Ch} {i : Nat} {h : i < l.length} (hn : ¬ okAt l i h) : trailB l = false := by
  unfold trailB
  rw [decide_eq_false_iff_not, trail_iff]
  exact fun g => hn (g i h)
theorem trail_all {l : List Ch} (h : ∀ i (h : i < l.length), okAt l i h) : trailB l = true := trail_t.2 ((trail_iff l).2 h)
theorem Trail.sub {l m : List Ch} (h : Trail l) (hs : m.Sublist l) : Trail m := ⟨fun c hc => h.1 c (hs.subset hc), h.2.sublist hs⟩
theorem Trail.seq {l : List Ch} (h : Trail l) {c : Ch} (hc : c ∈ l) : 1 ≤ c.seq ∧ c.seq ≤ 2147483647 := by
  have := may_of (h.1 c hc)
  exact ⟨this.1, this.2.1⟩
theorem Trail.key {l : List Ch} (h : Trail l) {c : Ch} (hc : c ∈ l) : c.key.size ≤ 16 := (may_of (h.1 c hc)).2.2.1

def endL (l : List Ch) : Int := match l.getLast? with | none => 0 | some c => c.seq
def lastL (l : List Ch) : Int := if trailB l then endL l else 0
def aboveL (l : List Ch) (s : Int) : List Ch := l.dropWhile fun c => decide (c.seq ≤ s)
def dropL (l : List Ch) (s : Int) : List Ch := if trailB l then aboveL l s else []
/-- Those above a Seq that are in ranges. -/
def inL (l : List Ch) (s : Int) (rs : List Rng) : List Ch := (aboveL l s).filter fun c => inB (meetL rs) c.key
def sinceL (l : List Ch) (s m : Int) (rs : List Rng) : List Ch := if trailB l then (inL l s rs).take m.toNat else []
/-- The Seq of a key's last change up to s. -/
def seqOf (l : List Ch) (s : Int) (k : ByteArray) : Int := l.foldl (fun z c => if c.seq ≤ s ∧ c.key = k then c.seq else z) 0
def keptB (l : List Ch) (s : Int) (c : Ch) : Bool := decide (s < c.seq) || decide (c.seq = seqOf l s c.key)
def newestL (l : List Ch) (s : Int) : List Ch := if trailB l then l.filter (keptB l s) else []

theorem snoc_ind {P : List Ch → Prop} (h0 : P []) (h1 : ∀ l c, P l → P (l ++ [c])) (l : List Ch) : P l := by
  have h : ∀ n (l : List Ch), l.length = n → P l := by
    intro n
    induction n with
    | zero => intro l hl; rw [List.length_eq_zero_iff.1 hl]; exact h0
    | succ n ih =>
      intro l hl
      rcases List.eq_nil_or_concat l with rfl | ⟨m, c, rfl⟩
      · exact h0
      · rw [List.concat_eq_append] at *
        exact h1 m c (ih m (by simpa using hl))
  exact h _ l rfl
theorem seqOf_snoc (l : List Ch) (c : Ch) (s : Int) (k : ByteArray) : seqOf (l ++ [c]) s k = if c.seq ≤ s ∧ c.key = k then c.seq else seqOf l s k := by
  unfold seqOf; rw [List.foldl_append]; rfl
theorem endL_snoc (l : List Ch) (c : Ch) : endL (l ++ [c]) = c.seq := by unfold endL; simp
theorem endL_get {l : List Ch} (h : 0 < l.length) : endL l = (l[l.length - 1]'(by omega)).seq := by
  unfold endL
  rw [List.getLast?_eq_getElem?, List.getElem?_eq_getElem (by omega)]
theorem take_snoc {l : List Ch} {k : Nat} (h : k < l.length) : l.take (k + 1) = l.take k ++ [l[k]] := List.take_succ_eq_append_getElem h

theorem above_eq {l : List Ch} (h : l.Pairwise fun a b => a.seq < b.seq) (s : Int) : aboveL l s = l.filter fun c => decide (s < c.seq) := by
  unfold aboveL
  induction l with
  | nil => rfl
  | cons c l ih =>
    have h1 := List.pairwise_cons.1 h
    rw [List.dropWhile_cons]
    by_cases hc : c.seq ≤ s
    · rw [if_pos (by simpa using hc), List.filter_cons, if_neg (by simpa using hc)]
      exact ih h1.2
    · rw [if_neg (by simpa using hc)]
      symm
      rw [List.filter_eq_self]
      intro d hd
      rcases List.mem_cons.1 hd with rfl | hd
      · simp; omega
      · have := h1.1 d hd
        simp; omega
theorem in_eq {l : List Ch} (h : l.Pairwise fun a b => a.seq < b.seq) (s : Int) (rs : List Rng) : inL l s rs = l.filter fun c => decide (s < c.seq) && rs.all (inB · c.key) := by
  unfold inL
  rw [above_eq h, List.filter_filter]
  refine List.filter_congr fun c _ => ?_
  rw [in_meetL, Bool.and_comm]
theorem above_sub (l : List Ch) (s : Int) : (aboveL l s).Sublist l := List.dropWhile_sublist _
theorem in_sub (l : List Ch) (s : Int) (rs : List Rng) : (inL l s rs).Sublist l := List.filter_sublist.trans (above_sub l s)

theorem take_part {p : Ch → Bool} {l : List Ch} {k m : Nat} (h : ((l.take k).filter p).length = m) : (l.filter p).take m = (l.take k).filter p := by
  have e : l.filter p = (l.take k).filter p ++ (l.drop k).filter p := by rw [← List.filter_append, List.take_append_drop]
  rw [e, ← h, List.take_left]
theorem take_whole {p : Ch → Bool} {l : List Ch} {m : Nat} (h : (l.filter p).length ≤ m) : (l.filter p).take m = l.filter p := List.take_of_length_le h

/-! The newest. -/
theorem seqOf_le {l : List Ch} (h : l.Pairwise fun a b => a.seq < b.seq) (s : Int) (k : ByteArray) : ∀ d ∈ l, d.key = k → d.seq ≤ s → d.seq ≤ seqOf l s k := by
  induction l using snoc_ind with
  | h0 => intro d hd; cases hd
  | h1 l c ih =>
    have h1 := List.pairwise_append.1 h
    intro d hd hk hs
    rw [seqOf_snoc]
    rcases List.mem_append.1 hd with hd | hd
    · by_cases hc : c.seq ≤ s ∧ c.key = k
      · rw [if_pos hc]
        have := h1.2.2 d hd c (by simp)
        omega
      · rw [if_neg hc]
        exact ih h1.1 d hd hk hs
    · have : d = c := by simpa using hd
      subst this
      rw [if_pos ⟨hs, hk⟩]
      exact Int.le_refl _
theorem seqOf_mem (l : List Ch) (s : Int) (k : ByteArray) : seqOf l s k = 0 ∨ ∃ d ∈ l, d.key = k ∧ d.seq ≤ s ∧ d.seq = seqOf l s k := by
  induction l using snoc_ind with
  | h0 => exact .inl rfl
  | h1 l c ih =>
    rw [seqOf_snoc]
    by_cases hc : c.seq ≤ s ∧ c.key = k
    · rw [if_pos hc]
      exact .inr ⟨c, by simp, hc.2, hc.1, rfl⟩
    · rw [if_neg hc]
      rcases ih with h | ⟨d, hd, h⟩
      · exact .inl h
      · exact .inr ⟨d, by simp [hd], h⟩
/-- Is there one of the same key, of a greater Seq, not above s? -/
def OldC (l : List Ch) (s : Int) (c : Ch) : Prop := ∃ d ∈ l, d.key = c.key ∧ c.seq < d.seq ∧ d.seq ≤ s
theorem kept_iff {l : List Ch} (h : Trail l) (s : Int) {c : Ch} (hc : c ∈ l) : keptB l s c = true ↔ ¬ OldC l s c := by
  unfold keptB OldC
  rw [Bool.or_eq_true, decide_eq_true_eq, decide_eq_true_eq]
  constructor
  · rintro (h1 | h1) ⟨d, hd, hk, h2, h3⟩
    · omega
    · have := seqOf_le h.2 s c.key d hd hk h3
      omega
  · intro h1
    by_cases h2 : s < c.seq
    · exact .inl h2
    · right
      have h3 := seqOf_le h.2 s c.key c hc rfl (by omega)
      rcases seqOf_mem l s c.key with h4 | ⟨d, hd, hk, h4, h5⟩
      · have := (h.seq hc).1; omega
      · by_cases h6 : c.seq < d.seq
        · exact absurd ⟨d, hd, hk, h6, h4⟩ h1
        · omega
instance (l : List Ch) (s : Int) (c : Ch) : Decidable (OldC l s c) := inferInstanceAs (Decidable (∃ d ∈ l, _))
theorem newest_eq {l : List Ch} (h : Trail l) (s : Int) : newestL l s = l.filter fun c => decide (¬ OldC l s c) := by
  unfold newestL
  rw [if_pos (trail_t.2 h)]
  refine List.filter_congr fun c hc => ?_
  rw [Bool.eq_iff_iff, kept_iff h s hc, decide_eq_true_eq]
theorem newest_sub (l : List Ch) (s : Int) : (newestL l s).Sublist l := by
  unfold newestL
  split
  · exact List.filter_sublist
  · exact List.nil_sublist l
theorem newest_trail {l : List Ch} (h : Trail l) (s : Int) : Trail (newestL l s) := h.sub (newest_sub l s)
theorem since_sub (l : List Ch) (s m : Int) (rs : List Rng) : (sinceL l s m rs).Sublist l := by
  unfold sinceL
  split
  · exact (List.take_sublist _ _).trans (in_sub l s rs)
  · exact List.nil_sublist l
theorem drop_sub (l : List Ch) (s : Int) : (dropL l s).Sublist l := by
  unfold dropL
  split
  · exact above_sub l s
  · exact List.nil_sublist l
theorem since_len (l : List Ch) (s m : Int) (rs : List Rng) : (sinceL l s m rs).length ≤ l.length := (since_sub l s m rs).length_le
theorem drop_len (l : List Ch) (s : Int) : (dropL l s).length ≤ l.length := (drop_sub l s).length_le
theorem newest_len (l : List Ch) (s : Int) : (newestL l s).length ≤ l.length := (newest_sub l s).length_le

/-- Among old ones there is a last one, which is not old. -/
theorem old_last {l : List Ch} {s : Int} {c : Ch} (h : OldC l s c) : ∃ d ∈ l, d.key = c.key ∧ c.seq < d.seq ∧ d.seq ≤ s ∧ ¬ OldC l s d := by
  obtain ⟨d, hd, hk, h1, h2⟩ := h
  generalize hn : (s - d.seq).toNat = n
  induction n using Nat.strongRecOn generalizing d with
  | ind n ih =>
    by_cases ho : OldC l s d
    · obtain ⟨e, he, hke, h3, h4⟩ := ho
      exact ih (s - e.seq).toNat (by omega) e he (hke.trans hk) (by omega) h4 rfl
    · exact ⟨d, hd, hk, h1, h2, ho⟩
theorem newest_twice {l : List Ch} (h : Trail l) {lo hi : Int} (hlo : lo ≤ hi) : newestL (newestL l lo) hi = newestL l hi := by
  rw [newest_eq (newest_trail h lo), newest_eq h lo, newest_eq h hi, List.filter_filter]
  refine List.filter_congr fun c hc => ?_
  rw [Bool.eq_iff_iff, Bool.and_eq_true, decide_eq_true_eq, decide_eq_true_eq, decide_eq_true_eq]
  constructor
  · rintro ⟨h1, h2⟩ h3
    obtain ⟨d, hd, hk, h4, h5, h6⟩ := old_last h3
    refine h1 ⟨d, List.mem_filter.2 ⟨hd, ?_⟩, hk, h4, h5⟩
    rw [decide_eq_true_eq]
    rintro ⟨e, he, hke, h7, h8⟩
    exact h6 ⟨e, he, hke, h7, by omega⟩
  · intro h1
    refine ⟨?_, ?_⟩
    · rintro ⟨d, hd, hk, h2, h3⟩
      exact h1 ⟨d, (List.mem_filter.1 hd).1, hk, h2, h3⟩
    · rintro ⟨d, hd, hk, h2, h3⟩
      exact h1 ⟨d, hd, hk, h2, by omega⟩
theorem newest_end {l : List Ch} (h : Trail l) (s : Int) : lastL (newestL l s) = lastL l := by
  unfold lastL
  rw [trail_t.2 h, trail_t.2 (newest_trail h s), if_pos rfl, if_pos rfl]
  rw [newest_eq h]
  rcases List.eq_nil_or_concat l with rfl | ⟨m, c, rfl⟩
  · rfl
  · rw [List.concat_eq_append] at *
    have hk : ¬ OldC (m ++ [c]) s c := by
      rintro ⟨d, hd, _, h2, _⟩
      have h3 := (List.pairwise_append.1 h.2).2.2
      rcases List.mem_append.1 hd with hd | hd
      · have := h3 d hd c (by simp); omega
      · have : d = c := by simpa using hd
        subst this; omega
    rw [List.filter_append, List.filter_cons, if_pos (by simpa using hk), List.filter_nil, endL_snoc, endL_snoc]

/-! Above, of what is above. -/
theorem Trail.above {l : List Ch} (h : Trail l) (s : Int) : Trail (aboveL l s) := h.sub (above_sub l s)
theorem drop_is {l : List Ch} (h : Trail l) (s : Int) : dropL l s = l.filter fun c => decide (s < c.seq) := by
  unfold dropL
  rw [if_pos (trail_t.2 h), above_eq h.2]
theorem since_is {l : List Ch} (h : Trail l) (s m : Int) (rs : List Rng) : sinceL l s m rs = (l.filter fun c => decide (s < c.seq) && rs.all (inB · c.key)).take m.toNat := by
  unfold sinceL
  rw [if_pos (trail_t.2 h), in_eq h.2]
theorem Trail.drop {l : List Ch} (h : Trail l) (s : Int) : Trail (dropL l s) := h.sub (drop_sub l s)
theorem Trail.since {l : List Ch} (h : Trail l) (s m : Int) (rs : List Rng) : Trail (sinceL l s m rs) := h.sub (since_sub l s m rs)
theorem drop_since {l : List Ch} (h : Trail l) {lo hi : Int} (hlo : lo ≤ hi) (m : Int) (rs : List Rng) : sinceL (dropL l lo) hi m rs = sinceL l hi m rs := by
  rw [since_is (h.drop lo), since_is h, drop_is h, List.filter_filter]
  congr 1
  refine List.filter_congr fun c _ => ?_
  by_cases h1 : hi < c.seq
  · rw [decide_eq_true (by omega : lo < c.seq), Bool.and_true]
  · rw [decide_eq_false h1]; rfl
theorem drop_drop {l : List Ch} (h : Trail l) {lo hi : Int} (hlo : lo ≤ hi) : dropL (dropL l lo) hi = dropL l hi ∧ dropL (dropL l hi) lo = dropL l hi := by
  constructor
  · rw [drop_is (h.drop lo), drop_is h, drop_is h, List.filter_filter]
    refine List.filter_congr fun c _ => ?_
    by_cases h1 : hi < c.seq
    · rw [decide_eq_true (by omega : lo < c.seq), Bool.and_true]
    · rw [decide_eq_false h1]; rfl
  · rw [drop_is (h.drop hi), drop_is h, List.filter_filter]
    refine List.filter_congr fun c _ => ?_
    by_cases h1 : hi < c.seq
    · rw [decide_eq_true (by omega : lo < c.seq), Bool.true_and]
    · rw [decide_eq_false h1, Bool.and_false]
theorem meet_flip (l : List Ch) (s m : Int) (a b : Rng) : sinceL l s m [a, b] = sinceL l s m [b, a] := by
  unfold sinceL inL
  rw [meetL_same (l := [a, b]) (k := [b, a]) (fun r => by simp [or_comm])]
theorem meet_again {l : List Ch} (h : Trail l) (s m : Int) (a b : Rng) : sinceL (sinceL l s l.length [a]) s m [b] = sinceL l s m [a, b] := by
  rw [since_is (h.since s l.length [a]), since_is h, since_is h, List.take_of_length_le (l := List.filter _ l) (by rw [Int.toNat_natCast]; exact List.length_filter_le _ _), List.filter_filter]
  congr 1
  refine List.filter_congr fun c _ => ?_
  simp only [List.all_cons, List.all_nil, Bool.and_true]
  cases decide (s < c.seq) <;> cases inB a c.key <;> cases inB b c.key <;> rfl

/-! In parts. -/
theorem part_next {L : List Ch} (h : L.Pairwise fun a b => a.seq < b.seq) {k : Nat} (hk : k < L.length) : (L.filter fun c => decide ((L[k]).seq < c.seq)) = L.drop (k + 1) := by
  have e : L = L.take (k + 1) ++ L.drop (k + 1) := (List.take_append_drop _ _).symm
  have h1 : ∀ c ∈ L.take (k + 1), c.seq ≤ (L[k]).seq := by
    intro c hc
    obtain ⟨i, hi, rfl⟩ := List.getElem_of_mem hc
    rw [List.length_take] at hi
    rw [List.getElem_take]
    by_cases e : i = k
    · subst e; exact Int.le_refl _
    · have := List.pairwise_iff_getElem.1 h i k (by omega) hk (by omega)
      omega
  have h2 : ∀ c ∈ L.drop (k + 1), (L[k]).seq < c.seq := by
    intro c hc
    obtain ⟨i, hi, rfl⟩ := List.getElem_of_mem hc
    rw [List.length_drop] at hi
    rw [List.getElem_drop]
    exact List.pairwise_iff_getElem.1 h k (k + 1 + i) hk (by omega) (by omega)
  generalize (L[k]).seq = x at *
  conv => lhs; rw [e]
  rw [List.filter_append, List.filter_eq_nil_iff.2 (fun c hc => by have := h1 c hc; simp; omega), List.nil_append, List.filter_eq_self.2 (fun c hc => by have := h2 c hc; simp; omega)]
theorem in_above {l : List Ch} (h : Trail l) (s : Int) (rs : List Rng) {k : Nat} (hk : k < (inL l s rs).length) : s < ((inL l s rs)[k]).seq := by
  have := List.getElem_mem hk
  have h2 : ∀ c ∈ inL l s rs, s < c.seq := by
    intro c hc
    rw [in_eq h.2] at hc
    have h1 := (List.mem_filter.1 hc).2
    simp only [Bool.and_eq_true, decide_eq_true_eq] at h1
    exact h1.1
  exact h2 _ this

/-- Behind a part of n: the part's last Seq tells what is left. -/
theorem in_next {l : List Ch} (h : Trail l) (s : Int) (rs : List Rng) {k : Nat} (hk : k < (inL l s rs).length) : inL l ((inL l s rs)[k]).seq rs = (inL l s rs).drop (k + 1) := by
  have hp : (inL l s rs).Pairwise fun a b => a.seq < b.seq := h.2.sublist (in_sub l s rs)
  rw [← part_next hp hk]
  have hx := in_above h s rs hk
  generalize ((inL l s rs)[k]).seq = x at *
  rw [in_eq h.2, in_eq h.2, List.filter_filter]
  refine List.filter_congr fun c _ => ?_
  by_cases h1 : x < c.seq
  · rw [decide_eq_true h1, decide_eq_true (by omega : s < c.seq)]; simp
  · rw [decide_eq_false h1]; simp
/-! Behind one more. -/
theorem snoc_trail {l : List Ch} {c : Ch} (h : Trail l) : Trail (l ++ [c]) ↔ mayC c = true ∧ ∀ d ∈ l, d.seq < c.seq := by
  constructor
  · rintro ⟨h1, h2⟩
    exact ⟨h1 c (by simp), fun d hd => (List.pairwise_append.1 h2).2.2 d hd c (by simp)⟩
  · rintro ⟨h1, h2⟩
    refine ⟨fun d hd => ?_, List.pairwise_append.2 ⟨h.2, by simp, fun d hd e he => ?_⟩⟩
    · rcases List.mem_append.1 hd with hd | hd
      · exact h.1 d hd
      · have : d = c := by simpa using hd
        subst this; exact h1
    · have : e = c := by simpa using he
      subst this; exact h2 d hd
theorem one_trail (c : Ch) : trailB [c] = mayC c := by
  rw [Bool.eq_iff_iff, trail_t]
  constructor
  · exact fun h => h.1 c (by simp)
  · intro h
    exact ⟨fun d hd => by have : d = c := (by simpa using hd); subst this; exact h, by simp⟩
theorem le_end {l : List Ch} (h : Trail l) : ∀ d ∈ l, d.seq ≤ lastL l := by
  unfold lastL
  rw [if_pos (trail_t.2 h)]
  rcases List.eq_nil_or_concat l with rfl | ⟨m, c, rfl⟩
  · intro d hd; cases hd
  · rw [List.concat_eq_append] at *
    intro d hd
    rw [endL_snoc]
    rcases List.mem_append.1 hd with hd | hd
    · have := (List.pairwise_append.1 h.2).2.2 d hd c (by simp); omega
    · have : d = c := by simpa using hd
      subst this; exact Int.le_refl _
theorem end_mem {l : List Ch} (h : Trail l) : lastL l = 0 ∧ l = [] ∨ ∃ d ∈ l, d.seq = lastL l := by
  unfold lastL
  rw [if_pos (trail_t.2 h)]
  rcases List.eq_nil_or_concat l with rfl | ⟨m, c, rfl⟩
  · exact .inl ⟨rfl, rfl⟩
  · rw [List.concat_eq_append]
    exact .inr ⟨c, by simp, (endL_snoc m c).symm⟩
theorem snoc_not {l : List Ch} {c : Ch} (h : Trail l) (hn : trailB (l ++ [c]) = false) : (decide (c.seq ≤ lastL l) || !trailB [c]) = true ∧ lastL (l ++ [c]) = 0 := by
  refine ⟨?_, by unfold lastL; rw [hn]; rfl⟩
  rw [one_trail]
  cases hm : mayC c with
  | false => simp
  | true =>
    rw [Bool.not_true, Bool.or_false, decide_eq_true_eq]
    apply Int.not_lt.1
    intro hlt
    have : Trail (l ++ [c]) := (snoc_trail h).2 ⟨hm, fun d hd => by have := le_end h d hd; omega⟩
    rw [trail_t.2 this] at hn
    cases hn
theorem snoc_is {l : List Ch} {c : Ch} (h : Trail l) (hs : trailB (l ++ [c]) = true) : lastL (l ++ [c]) = c.seq ∧ lastL l < c.seq ∧ sinceL (l ++ [c]) (lastL l) 9 [] = [c] := by
  have ht := trail_t.1 hs
  have h1 := (snoc_trail h).1 ht
  have hlt : lastL l < c.seq := by
    rcases end_mem h with ⟨h2, _⟩ | ⟨d, hd, h2⟩
    · have := (may_of h1.1).1; omega
    · have := h1.2 d hd; omega
  refine ⟨by unfold lastL; rw [hs, if_pos rfl, endL_snoc], hlt, ?_⟩
  rw [since_is ht, List.filter_append]
  have e1 : l.filter (fun d => decide (lastL l < d.seq) && ([] : List Rng).all (inB · d.key)) = [] := by
    rw [List.filter_eq_nil_iff]
    intro d hd
    have := le_end h d hd
    simp; omega
  rw [e1, List.nil_append, List.filter_cons, if_pos (by simp; omega), List.filter_nil]
  rfl

end Go.Proofs.Ytidigbjlglomhaa
