/- Plain facts on ranges of keys: nothing of the program's memory. -/
import Derived.Lib.MinMaxS
import Derived.Lib.Strings
set_option linter.unusedVariables false
set_option linter.unusedSimpArgs false
namespace Go.Proofs.Ytgpjbajfkagdbaa

/-- Go's '<' and '<=' on strings. -/
def ltS (a b : ByteArray) : Bool := Op.bytesLess a.toList b.toList
def leS (a b : ByteArray) : Bool := Op.bytesLess a.toList b.toList || a.toList == b.toList

theorem bl_irrefl : ∀ l : List UInt8, Op.bytesLess l l = false
  | [] => rfl
  | a :: l => by simp [Op.bytesLess, bl_irrefl l]
theorem bl_trans : ∀ x y z : List UInt8, Op.bytesLess x y = true → Op.bytesLess y z = true → Op.bytesLess x z = true
  | [], [], _, h, _ => by simp [Op.bytesLess] at h
  | [], _ :: _, [], _, h => by simp [Op.bytesLess] at h
  | [], _ :: _, _ :: _, _, _ => by simp [Op.bytesLess]
  | _ :: _, [], _, h, _ => by simp [Op.bytesLess] at h
  | _ :: _, _ :: _, [], _, h => by simp [Op.bytesLess] at h
  | a :: x, b :: y, c :: z, h, g => by
    simp only [Op.bytesLess, Bool.or_eq_true, decide_eq_true_eq, Bool.and_eq_true, beq_iff_eq] at h g ⊢
    rcases h with h | ⟨rfl, h⟩
    · rcases g with g | ⟨rfl, g⟩
      · exact .inl (UInt8.lt_trans h g)
      · exact .inl h
    · rcases g with g | ⟨rfl, g⟩
      · exact .inl g
      · exact .inr ⟨rfl, bl_trans x y z h g⟩
theorem bl_tri : ∀ x y : List UInt8, Op.bytesLess x y = false → Op.bytesLess y x = false → x = y
  | [], [], _, _ => rfl
  | [], _ :: _, h, _ => by simp [Op.bytesLess] at h
  | _ :: _, [], _, h => by simp [Op.bytesLess] at h
  | a :: x, b :: y, h, g => by
    simp only [Op.bytesLess, Bool.or_eq_false_iff, decide_eq_false_iff_not, Bool.and_eq_false_iff, beq_eq_false_iff_ne] at h g
    have e : a = b := UInt8.le_antisymm (UInt8.not_lt.1 g.1) (UInt8.not_lt.1 h.1)
    subst e
    rw [bl_tri x y (by simpa using h.2) (by simpa using g.2)]

theorem tl_inj {a b : ByteArray} (h : a.toList = b.toList) : a = b := by
  rw [ByteArray.toList_eq, ByteArray.toList_eq] at h
  exact ByteArray.ext (Array.toList_inj.1 h)

instance : LE ByteArray := ⟨fun a b => ltS b a = false⟩
instance : LT ByteArray := ⟨fun a b => ltS a b = true⟩
instance (a b : ByteArray) : Decidable (a ≤ b) := inferInstanceAs (Decidable (ltS b a = false))
instance (a b : ByteArray) : Decidable (a < b) := inferInstanceAs (Decidable (ltS a b = true))
theorem le_iff {a b : ByteArray} : a ≤ b ↔ ltS b a = false := Iff.rfl
theorem lt_iff {a b : ByteArray} : a < b ↔ ltS a b = true := Iff.rfl
theorem lt_asym {a b : ByteArray} (h : a < b) : ltS b a = false := by
  cases e : ltS b a with
  | false => rfl
  | true =>
    have := bl_trans _ _ _ h e
    rw [bl_irrefl] at this
    cases this
instance : Std.IsLinearOrder ByteArray where
  le_refl a := bl_irrefl _
  le_trans a b c h1 h2 := by
    show ltS c a = false
    cases e : ltS c a with
    | false => rfl
    | true =>
      exfalso
      have h3 : ltS b a = false := h1
      have h4 : ltS c b = false := h2
      cases e2 : ltS a b with
      | true =>
        have := bl_trans _ _ _ e e2
        unfold ltS at h4
        rw [this] at h4; cases h4
      | false =>
        have := tl_inj (bl_tri _ _ e2 h3)
        subst this
        rw [e] at h4; cases h4
  le_antisymm a b h1 h2 := tl_inj (bl_tri _ _ h2 h1)
  le_total a b := by
    show ltS b a = false ∨ ltS a b = false
    cases e : ltS b a with
    | false => exact .inl rfl
    | true => exact .inr (lt_asym e)
instance : Std.LawfulOrderLT ByteArray where
  lt_iff a b := by
    constructor
    · intro h
      exact ⟨lt_asym h, fun h2 => by have h3 : ltS a b = false := h2; have h4 : ltS a b = true := h; rw [h3] at h4; cases h4⟩
    · rintro ⟨_, h2⟩
      show ltS a b = true
      cases e : ltS a b with
      | true => rfl
      | false => exact absurd e h2

theorem ltS_eq (a b : ByteArray) : ltS a b = decide (a < b) := by
  cases e : ltS a b with
  | true => exact (decide_eq_true (lt_iff.2 e)).symm
  | false => exact (decide_eq_false (fun h => by rw [lt_iff.1 h] at e; cases e)).symm
theorem leS_eq (a b : ByteArray) : leS a b = decide (a ≤ b) := by
  have h1 : leS a b = (ltS a b || a.toList == b.toList) := rfl
  by_cases h : a ≤ b
  · rw [decide_eq_true h, h1, ltS_eq]
    by_cases e : a < b
    · rw [decide_eq_true e]; rfl
    · have : a = b := by grind
      subst this; simp
  · rw [decide_eq_false h, h1, ltS_eq]
    have h2 : ¬ a < b := by grind
    have h3 : a.toList ≠ b.toList := fun e => h (by have := tl_inj e; subst this; grind)
    rw [decide_eq_false h2, beq_eq_false_iff_ne.2 h3]; rfl

theorem maxS_eq (a b : ByteArray) : Lib.maxS a b = if a < b then b else a := by
  unfold Lib.maxS
  have : (a.data.toList < b.data.toList) ↔ a < b := by
    rw [lt_iff]; unfold ltS; rw [Proofs.bytesLess_eq, Lib.toList_data, Lib.toList_data]; simp
  simp only [this]
theorem minS_eq (a b : ByteArray) : Lib.minS a b = if a ≤ b then a else b := by
  unfold Lib.minS
  have h1 : (a.data.toList < b.data.toList) ↔ a < b := by
    rw [lt_iff]; unfold ltS; rw [Proofs.bytesLess_eq, Lib.toList_data, Lib.toList_data]; simp
  have h2 : (a.data.toList = b.data.toList) ↔ a = b := ⟨fun h => ByteArray.ext (Array.toList_inj.1 h), fun h => by rw [h]⟩
  have h3 : (a < b ∨ a = b) ↔ a ≤ b := by grind
  simp only [h1, h2, h3]

/-- The empty text. -/
def noS : ByteArray := ⟨#[]⟩
theorem noS_le (a : ByteArray) : noS ≤ a := by
  rw [le_iff]; unfold ltS noS
  have : (ByteArray.mk #[]).toList = [] := by rw [ByteArray.toList_eq]
  rw [this]
  cases a.toList <;> rfl

/-- The least key that is greater. -/
def nextS (k : ByteArray) : ByteArray := k ++ ⟨#[0]⟩
theorem bl_next : ∀ (k o : List UInt8), Op.bytesLess o (k ++ [0]) = !Op.bytesLess k o
  | [], [] => rfl
  | [], a :: o => by
    have h : ¬ a < 0 := by rw [UInt8.lt_iff_toNat_lt]; exact Nat.not_lt_zero _
    simp only [List.nil_append, Op.bytesLess, decide_eq_false h, Bool.false_or]
    cases o <;> simp [Op.bytesLess]
  | a :: k, [] => rfl
  | a :: k, b :: o => by
    simp only [List.cons_append, Op.bytesLess, bl_next k o]
    by_cases h : a = b
    · subst h; simp
    · have h1 : (a == b) = false := beq_eq_false_iff_ne.2 h
      have h2 : (b == a) = false := beq_eq_false_iff_ne.2 (Ne.symm h)
      rw [h1, h2]
      by_cases h3 : a < b
      · have : ¬ b < a := UInt8.not_lt.2 (UInt8.le_of_lt h3)
        simp [h3, this]
      · have : b < a := by
          rcases UInt8.lt_or_lt_of_ne h with h4 | h4
          · exact absurd h4 h3
          · exact h4
        simp [h3, this]
theorem next_le (k o : ByteArray) : nextS k ≤ o ↔ k < o := by
  rw [le_iff, lt_iff]
  unfold ltS nextS
  have : (k ++ ⟨#[0]⟩ : ByteArray).toList = k.toList ++ [0] := by rw [ByteArray.toList_eq, ByteArray.toList_eq]; simp
  rw [this, bl_next]
  simp

/-- A range. -/
structure Rng where
  lo : ByteArray
  hi : ByteArray
  op : Bool
deriving DecidableEq

def Rng.v (r : Rng) : Value := .agg #[.string r.lo, .string r.hi, .bool r.op]

def inB (r : Rng) (k : ByteArray) : Bool := leS r.lo k && (r.op || ltS k r.hi)
def emptyB (r : Rng) : Bool := !inB r r.lo
def endsB (r o : Rng) : Bool := o.op || (!r.op && leS r.hi o.hi)
def withinB (r o : Rng) : Bool := emptyB r || (leS o.lo r.lo && endsB r o)
def smallB (r : Rng) : Bool := decide (r.lo.size ≤ 300) && decide (r.hi.size ≤ 300)
def rightB (r : Rng) : Bool := !(r.op && (r.hi.toList != [])) && (decide (r.lo.size ≤ 16) && decide (r.hi.size ≤ 17))
def meet2 (a b : Rng) : Rng := ⟨Lib.maxS a.lo b.lo, if a.op then (if b.op then noS else b.hi) else (if b.op then a.hi else Lib.minS a.hi b.hi), a.op && b.op⟩
def allR : Rng := ⟨noS, noS, true⟩
def meetL (l : List Rng) : Rng := l.foldl meet2 allR
def behindR (r : Rng) (k : ByteArray) : Rng := ⟨Lib.maxS r.lo (nextS k), r.hi, r.op⟩

theorem inB_iff (r : Rng) (k : ByteArray) : inB r k = true ↔ r.lo ≤ k ∧ (r.op = true ∨ k < r.hi) := by
  unfold inB; rw [leS_eq, ltS_eq]; simp
theorem emptyB_iff (r : Rng) : emptyB r = true ↔ r.op = false ∧ r.hi ≤ r.lo := by
  unfold emptyB
  rw [Bool.not_eq_true']
  rw [← Bool.not_eq_true, inB_iff]
  cases r.op <;> simp <;> grind
theorem endsB_iff (r o : Rng) : endsB r o = true ↔ o.op = true ∨ (r.op = false ∧ r.hi ≤ o.hi) := by
  unfold endsB; rw [leS_eq]; simp
theorem withinB_iff (r o : Rng) : withinB r o = true ↔ (r.op = false ∧ r.hi ≤ r.lo) ∨ (o.lo ≤ r.lo ∧ (o.op = true ∨ (r.op = false ∧ r.hi ≤ o.hi))) := by
  unfold withinB; rw [Bool.or_eq_true, Bool.and_eq_true, emptyB_iff, endsB_iff, leS_eq]; simp

theorem in_meet2 (a b : Rng) (k : ByteArray) : inB (meet2 a b) k = (inB a k && inB b k) := by
  rw [Bool.eq_iff_iff, Bool.and_eq_true, inB_iff, inB_iff, inB_iff]
  unfold meet2
  simp only [maxS_eq, minS_eq]
  cases a.op <;> cases b.op <;> simp <;> grind
theorem in_all (k : ByteArray) : inB allR k = true := by rw [inB_iff]; exact ⟨noS_le k, .inl rfl⟩
theorem in_foldl (l : List Rng) (m : Rng) (k : ByteArray) : inB (l.foldl meet2 m) k = (inB m k && l.all (inB · k)) := by
  induction l generalizing m with
  | nil => simp
  | cons r l ih => rw [List.foldl_cons, ih, in_meet2, List.all_cons, Bool.and_assoc]
theorem in_meetL (l : List Rng) (k : ByteArray) : inB (meetL l) k = l.all (inB · k) := by
  unfold meetL; rw [in_foldl, in_all, Bool.true_and]

theorem within_trans {a b c : Rng} (h : withinB a b = true) (g : withinB b c = true) : withinB a c = true := by
  rw [withinB_iff] at *; grind
theorem within_in {a b : Rng} {k : ByteArray} (h : withinB a b = true) (g : inB a k = true) : inB b k = true := by
  rw [withinB_iff] at h; rw [inB_iff] at *; grind
theorem empty_in {a : Rng} (k : ByteArray) (h : emptyB a = true) : inB a k = false := by
  rw [emptyB_iff] at h
  rw [← Bool.not_eq_true, inB_iff]
  obtain ⟨h1, h2⟩ := h
  rw [h1]; grind
theorem empty_within {a b : Rng} (h : emptyB a = true) : withinB a b = true := by unfold withinB; rw [h]; rfl
theorem in_behind (a : Rng) (k o : ByteArray) : inB (behindR a k) o = (inB a o && !leS o k) := by
  rw [Bool.eq_iff_iff, Bool.and_eq_true, inB_iff, inB_iff, leS_eq]
  unfold behindR
  simp only [maxS_eq]
  have := next_le k o
  have := next_le k a.lo
  simp only [Bool.not_eq_true', decide_eq_false_iff_not]
  grind

/-! Order: what ranges have in common hangs on which ranges there are, and on nothing else. -/
def Norm (r : Rng) : Prop := r.op = true → r.hi = noS
def leR (a b : Rng) : Prop := b.lo ≤ a.lo ∧ (b.op = true ∨ (a.op = false ∧ a.hi ≤ b.hi))
theorem leR_antisymm {a b : Rng} (ha : Norm a) (hb : Norm b) (h : leR a b) (g : leR b a) : a = b := by
  obtain ⟨al, ah, ao⟩ := a
  obtain ⟨bl, bh, bo⟩ := b
  unfold leR at h g
  unfold Norm at ha hb
  simp only at *
  have e1 : al = bl := by grind
  have e2 : ao = bo := by cases ao <;> cases bo <;> simp_all
  subst e1 e2
  have e3 : ah = bh := by
    cases ao
    · simp at h g; grind
    · rw [ha rfl, hb rfl]
  subst e3; rfl
theorem leR_trans {a b c : Rng} (h : leR a b) (g : leR b c) : leR a c := by unfold leR at *; grind
theorem meet2_l (a b : Rng) : leR (meet2 a b) a := by
  unfold leR meet2; simp only [maxS_eq, minS_eq]; cases a.op <;> cases b.op <;> simp <;> grind
theorem meet2_r (a b : Rng) : leR (meet2 a b) b := by
  unfold leR meet2; simp only [maxS_eq, minS_eq]; cases a.op <;> cases b.op <;> simp <;> grind
theorem meet2_g {a b m : Rng} (h : leR m a) (g : leR m b) : leR m (meet2 a b) := by
  unfold leR meet2 at *; simp only [maxS_eq, minS_eq]; cases ha : a.op <;> cases hb : b.op <;> simp_all <;> grind
theorem meet2_norm (a b : Rng) : Norm (meet2 a b) := by
  unfold Norm meet2; cases a.op <;> cases b.op <;> simp
theorem foldl_norm (l : List Rng) {m : Rng} (h : Norm m) : Norm (l.foldl meet2 m) := by
  induction l generalizing m with
  | nil => exact h
  | cons r l ih => exact ih (meet2_norm m r)
theorem meetL_norm (l : List Rng) : Norm (meetL l) := foldl_norm l (fun _ => rfl)
theorem leR_refl (a : Rng) : leR a a := by unfold leR; cases a.op <;> simp <;> grind
theorem foldl_le (l : List Rng) (m : Rng) : leR (l.foldl meet2 m) m ∧ ∀ r ∈ l, leR (l.foldl meet2 m) r := by
  induction l generalizing m with
  | nil => exact ⟨leR_refl m, by simp⟩
  | cons r l ih =>
    obtain ⟨h1, h2⟩ := ih (meet2 m r)
    refine ⟨leR_trans h1 (meet2_l m r), fun x hx => ?_⟩
    rcases List.mem_cons.1 hx with rfl | hx
    · exact leR_trans h1 (meet2_r m x)
    · exact h2 x hx
theorem foldl_g (l : List Rng) {m q : Rng} (h : leR q m) (g : ∀ r ∈ l, leR q r) : leR q (l.foldl meet2 m) := by
  induction l generalizing m with
  | nil => exact h
  | cons r l ih => exact ih (meet2_g h (g r (by simp))) (fun x hx => g x (by simp [hx]))
theorem leR_all (a : Rng) : leR a allR := ⟨noS_le _, .inl rfl⟩
theorem meetL_same {l k : List Rng} (h : ∀ r, r ∈ l ↔ r ∈ k) : meetL l = meetL k :=
  leR_antisymm (meetL_norm l) (meetL_norm k) (foldl_g k (leR_all _) fun r hr => (foldl_le l allR).2 r ((h r).2 hr)) (foldl_g l (leR_all _) fun r hr => (foldl_le k allR).2 r ((h r).1 hr))
theorem meetL_twice {m : Rng} (h : Norm m) : meetL [m, m] = m :=
  leR_antisymm (meetL_norm _) h ((foldl_le [m, m] allR).2 m (by simp)) (foldl_g _ (leR_all _) fun r hr => by
    have : r = m := by simpa using hr
    subst this; exact leR_refl _)

theorem leR_within {a b : Rng} (h : leR a b) : withinB a b = true := (withinB_iff _ _).2 (.inr h)
theorem meet_within (a b : Rng) : withinB (meetL [a, b]) a = true ∧ withinB (meetL [a, b]) b = true :=
  ⟨leR_within ((foldl_le [a, b] allR).2 a (by simp)), leR_within ((foldl_le [a, b] allR).2 b (by simp))⟩

/-! The document's Meet, a round. -/
def refStep (m r : Rng) : Rng :=
  ⟨if m.lo < r.lo then r.lo else m.lo, if r.op = false ∧ (m.op = true ∨ r.hi < m.hi) then r.hi else m.hi, if r.op = false ∧ (m.op = true ∨ r.hi < m.hi) then false else m.op⟩
theorem refStep_eq {m : Rng} (r : Rng) (h : Norm m) : refStep m r = meet2 m r := by
  unfold refStep meet2
  simp only [maxS_eq, minS_eq]
  unfold Norm at h
  cases hm : m.op <;> cases hr : r.op <;> simp_all <;> grind

/-! The last law's halves. -/
theorem halves (r : Rng) (key : ByteArray) : emptyB (meetL [⟨r.lo, key, false⟩, ⟨key, r.hi, r.op⟩]) = true := by
  have h := in_meetL [⟨r.lo, key, false⟩, ⟨key, r.hi, r.op⟩] (meetL [⟨r.lo, key, false⟩, ⟨key, r.hi, r.op⟩]).lo
  unfold emptyB
  rw [h, Bool.not_eq_true', ← Bool.not_eq_true]
  simp only [List.all_cons, List.all_nil, Bool.and_true, Bool.and_eq_true, inB_iff]
  generalize (meetL _).lo = x
  intro ⟨h1, h2⟩
  have : x < key := by simpa using h1.2
  have : key ≤ x := h2.1
  grind
theorem halves_in (r : Rng) (key x : ByteArray) (h : inB r x = true) (g : ltS key r.lo = false) (k : inB r key = true) : inB ⟨r.lo, key, false⟩ x ≠ inB ⟨key, r.hi, r.op⟩ x := by
  rw [inB_iff] at h k
  intro e
  rw [Bool.eq_iff_iff, inB_iff, inB_iff] at e
  simp only at e
  grind

end Go.Proofs.Ytgpjbajfkagdbaa
