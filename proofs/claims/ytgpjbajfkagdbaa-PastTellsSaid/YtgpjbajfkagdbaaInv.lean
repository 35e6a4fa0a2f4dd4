/- A region that draws its order, by ONE condition a slot: whatever order comes up, each operation is run once, from what its own operands are known to be. Nothing of the program. -/
import Derived.OrdersHeld
import Derived.WalkKit
set_option linter.unusedVariables false
set_option linter.unusedSimpArgs false
namespace Go.Proofs.Ytgpjbajfkagdbaa

/-- The slots that a region writes. -/
def dsts (ops : Array Oper) : List Nat := ops.toList.filterMap (·.dst)

/-- Each slot that an operation looks at is there, and is written, if at all, by operations that it waits for; no slot is written twice. -/
def invB (md : Region.Mode) (ops : Array Oper) (n : Nat) : Bool :=
  (List.range ops.size).all fun i => match ops[i]? with
    | none => true
    | some o => ((o.looksAt ops).all fun t => decide (t < n) && (List.range ops.size).all fun j => match ops[j]? with
        | none => true
        | some oj => oj.dst != some t || (o.after.any fun e => Region.binds md e && e.on == j)) &&
      ((match o.dst with | none => true | some d => decide (d < n)) && (List.range ops.size).all fun j => match ops[j]? with
        | none => true
        | some oj => j == i || oj.dst == none || oj.dst != o.dst)

section
variable {P : Program} {ops : Array Oper} {Q : Exit → Act → World → Prop} {md : Region.Mode}

theorem invB_spec {n i : Nat} {o : Oper} (h : invB md ops n = true) (hi : ops[i]? = some o) :
    (∀ t : Nat, t ∈ o.looksAt ops → t < n ∧ ∀ (j : Nat) oj, ops[j]? = some oj → oj.dst = some t → ∃ e ∈ o.after, Region.binds md e = true ∧ e.on = j) ∧
    (∀ d : Nat, o.dst = some d → d < n) ∧ (∀ (j : Nat) oj (d : Nat), ops[j]? = some oj → oj.dst = some d → o.dst = some d → j = i) := by
  have hlt : ∀ {k : Nat} {ok : Oper}, ops[k]? = some ok → k < ops.size := fun hk => (Array.getElem?_eq_some_iff.1 hk).1
  have h1 := List.all_eq_true.1 h i (by simpa using hlt hi)
  simp only [hi, Bool.and_eq_true, List.all_eq_true, decide_eq_true_eq] at h1
  obtain ⟨ha, hb, hc⟩ := h1
  refine ⟨fun t ht => ⟨(ha t ht).1, fun j oj hj hd => ?_⟩, fun d hd => ?_, fun j oj d hj hd ho => ?_⟩
  · have h2 := (ha t ht).2 j (by simpa using hlt hj)
    simp only [hj, hd, bne_self_eq_false, Bool.false_or] at h2
    obtain ⟨e, he, h3⟩ := Array.any_eq_true'.1 h2
    simp only [Bool.and_eq_true, beq_iff_eq] at h3
    exact ⟨e, he, h3⟩
  · simpa [hd] using hb
  · have h2 := hc j (by simpa using hlt hj)
    simp only [hj, hd, ho, bne_self_eq_false, Bool.or_false, Bool.or_eq_true, beq_iff_eq] at h2
    rcases h2 with h2 | h2
    · exact h2
    · cases h2

/-- What is known where an operation comes up: of each slot that it looks at, what V says if the region writes it, else what it was. -/
def Got (ops : Array Oper) (V : Nat → Value → World → Prop) (a0 a : Act) (w : World) (o : Oper) : Prop :=
  ∀ t : Nat, t ∈ o.looksAt ops → ∃ v, a.tmps[t]? = some v ∧ (if (dsts ops).contains t then V t v w else a0.tmps[t]? = some v)

/-- What an operation makes. -/
def Made1 (V : Nat → Value → World → Prop) (R : World → World → Prop) (o : Oper) (a : Act) (w : World) (a' : Act) (w' : World) : Prop :=
  ∃ v, a' = a.put o.dst v ∧ R w w' ∧ ∀ d : Nat, o.dst = some d → V d v w'

/-- Slots, put one behind the other. -/
def puts (a : Act) : List Nat → (Nat → Value) → Act
  | [], _ => a
  | d :: l, f => puts (a.put (some d) (f d)) l f

def InvAt (ops : Array Oper) (S : World → Prop) (V : Nat → Value → World → Prop) (a0 : Act) (listed : Array Bool) (a : Act) (w : World) : Prop :=
  S w ∧ a.defers = a0.defers ∧ a.tmps.size = a0.tmps.size ∧
  (∀ t : Nat, (∀ (i : Nat) o, ops[i]? = some o → listed.getD i false = true → o.dst ≠ some t) → a.tmps[t]? = a0.tmps[t]?) ∧
  (∀ (i : Nat) o (d : Nat), ops[i]? = some o → o.dst = some d → listed.getD i false = true → ∃ v, a.tmps[d]? = some v ∧ V d v w)

theorem mem_dsts {t : Nat} : t ∈ dsts ops ↔ ∃ (i : Nat) (o : Oper), ops[i]? = some o ∧ o.dst = some t := by
  unfold dsts
  rw [List.mem_filterMap]
  constructor
  · rintro ⟨o, ho, hd⟩
    obtain ⟨i, hi, rfl⟩ := List.getElem_of_mem ho
    exact ⟨i, ops.toList[i], by simp at hi ⊢, hd⟩
  · rintro ⟨i, o, hi, hd⟩
    obtain ⟨h1, rfl⟩ := Array.getElem?_eq_some_iff.1 hi
    exact ⟨_, by simp, hd⟩

theorem puts_size (l : List Nat) (f : Nat → Value) (a : Act) : (puts a l f).tmps.size = a.tmps.size := by
  induction l generalizing a with
  | nil => rfl
  | cons d l ih => show (puts _ l f).tmps.size = _; rw [ih]; simp [Act.put]

theorem puts_defers (l : List Nat) (f : Nat → Value) (a : Act) : (puts a l f).defers = a.defers := by
  induction l generalizing a with
  | nil => rfl
  | cons d l ih => show (puts _ l f).defers = _; rw [ih]; simp [Act.put]

theorem puts_get (l : List Nat) (f : Nat → Value) (a : Act) (t : Nat) : (puts a l f).tmps[t]? = if t ∈ l ∧ t < a.tmps.size then some (f t) else a.tmps[t]? := by
  induction l generalizing a with
  | nil => simp [puts]
  | cons d l ih =>
    show (puts _ l f).tmps[t]? = _
    rw [ih]
    by_cases hd : d = t
    · subst hd
      by_cases hs : d < a.tmps.size
      · simp [Act.put, hs]
      · simp [Act.put, hs]
    · simp [Act.put, hd, Ne.symm hd]

theorem ready_nil_all {listed : Array Bool} (hn : (List.range ops.size).all (fun i => listed.getD i false) = true) : Region.ready md ops listed = [] := by
  unfold Region.ready
  rw [List.filter_eq_nil_iff]
  intro i hi
  have h := List.all_eq_true.1 hn i hi
  rcases Nat.lt_or_ge i listed.size with h' | h'
  · simp [h'] at h ⊢; simp [h]
  · simp [Array.getElem?_eq_none h'] at h

/-- How many have not come up. -/
def left (n : Nat) (listed : Array Bool) : Nat := ((List.range n).filter fun i => !listed.getD i false).length

theorem left_zero {n : Nat} {listed : Array Bool} (h : left n listed = 0) : (List.range n).all (fun i => listed.getD i false) = true := by
  unfold left at h
  rw [List.length_eq_zero_iff, List.filter_eq_nil_iff] at h
  rw [List.all_eq_true]
  intro i hi
  simpa using h i hi

theorem filter_le (p q : Nat → Bool) (i : Nat) (h : ∀ j, q j = if j = i then false else p j) (l : List Nat) : (l.filter q).length ≤ (l.filter p).length := by
  induction l with
  | nil => exact Nat.le_refl _
  | cons c l ih =>
    rw [List.filter_cons, List.filter_cons, h c]
    by_cases hc : c = i
    · rw [if_pos hc]; cases p c <;> simp only [if_true, Bool.false_eq_true, if_false, List.length_cons] <;> omega
    · rw [if_neg hc]; cases p c <;> simp only [if_true, Bool.false_eq_true, if_false, List.length_cons] <;> omega

theorem filter_lt (p q : Nat → Bool) (i : Nat) (h : ∀ j, q j = if j = i then false else p j) (hp : p i = true) (l : List Nat) (hm : i ∈ l) : (l.filter q).length < (l.filter p).length := by
  induction l with
  | nil => cases hm
  | cons c l ih =>
    rw [List.filter_cons, List.filter_cons, h c]
    by_cases hc : c = i
    · subst hc
      have := filter_le p q c h l
      rw [if_pos rfl, hp]
      simp only [if_true, Bool.false_eq_true, if_false, List.length_cons]
      omega
    · have := ih (by rcases List.mem_cons.1 hm with h | h; exact absurd h.symm hc; exact h)
      rw [if_neg hc]; cases p c <;> simp only [if_true, Bool.false_eq_true, if_false, List.length_cons] <;> omega

theorem left_set {n i : Nat} {listed : Array Bool} (hi : i < n) (hs : listed.size = n) (hl : listed.getD i true = false) : left n (listed.setIfInBounds i true) < left n listed := by
  unfold left
  refine filter_lt _ _ i (fun j => ?_) ?_ _ (by simpa using hi)
  · by_cases h : i = j
    · subst h; simp [hs, hi]
    · rw [getD_set_ne false h, if_neg (Ne.symm h)]
  · simpa [hs, hi] using hl

/-- WHATEVER ORDER COMES UP. -/
theorem wpAny_inv {a0 : Act} (S : World → Prop) (R : World → World → Prop) (V : Nat → Value → World → Prop) (hok : invB md ops a0.tmps.size = true)
    (hRS : ∀ w w', R w w' → S w → S w') (hRV : ∀ t v w w', R w w' → V t v w → V t v w')
    (step : ∀ (i : Nat) (o : Oper), ops[i]? = some o → ∀ a w, S w → Got ops V a0 a w o → wpOp P ops Q i (Made1 V R o a w) a w)
    (done : ∀ (f : Nat → Value) (w : World), S w → (∀ d ∈ dsts ops, V d (f d) w) → Q .normal (puts a0 (dsts ops) f) w) :
    ∀ (fuel : Nat) (listed : Array Bool) (a : Act) (w : World), listed.size = ops.size → left ops.size listed ≤ fuel →
      (∀ i : Nat, listed.getD i false = false → i < ops.size → Region.ready md ops listed = [] → False) ∨ True →
      InvAt ops S V a0 listed a w → (∀ l : Array Bool, l.size = ops.size → Region.ready md ops l = [] → (List.range ops.size).all (fun i => l.getD i false) = true) →
      wpAny P md ops Q fuel listed a w := by
  have fin : ∀ (listed : Array Bool) (a : Act) (w : World), (List.range ops.size).all (fun i => listed.getD i false) = true → InvAt ops S V a0 listed a w → Q .normal a w := by
    intro listed a w hall ⟨hS, hd, hz, hn, hv⟩
    have hl : ∀ (i : Nat) o, ops[i]? = some o → listed.getD i false = true := fun i o hi => List.all_eq_true.1 hall i (by simpa using (Array.getElem?_eq_some_iff.1 hi).1)
    have he : a = puts a0 (dsts ops) (fun d => a.tmps.getD d undef) := by
      have ht : a.tmps = (puts a0 (dsts ops) (fun d => a.tmps.getD d undef)).tmps := by
        apply Array.ext_getElem?
        intro t
        rw [puts_get]
        by_cases hm : t ∈ dsts ops
        · obtain ⟨i, o, hi, ho⟩ := mem_dsts.1 hm
          obtain ⟨v, h1, _⟩ := hv i o t hi ho (hl i o hi)
          have hlt := (Array.getElem?_eq_some_iff.1 h1).1
          rw [if_pos ⟨hm, by omega⟩, h1]
          simp [h1]
        · rw [if_neg (fun h => hm h.1)]
          exact hn t fun i o hi _ ho => hm (mem_dsts.2 ⟨i, o, hi, ho⟩)
      have hd' : a.defers = (puts a0 (dsts ops) (fun d => a.tmps.getD d undef)).defers := by rw [puts_defers, hd]
      calc a = ⟨a.tmps, a.defers⟩ := rfl
        _ = ⟨(puts a0 (dsts ops) (fun d => a.tmps.getD d undef)).tmps, (puts a0 (dsts ops) (fun d => a.tmps.getD d undef)).defers⟩ := by rw [← ht, ← hd']
        _ = _ := rfl
    rw [he]
    refine done _ w hS fun d hd => ?_
    obtain ⟨i, o, hi, ho⟩ := mem_dsts.1 hd
    obtain ⟨v, h1, h2⟩ := hv i o d hi ho (hl i o hi)
    simpa [h1] using h2
  intro fuel
  induction fuel with
  | zero =>
    intro listed a w hsz hf _ hI _
    have h0 := left_zero (Nat.le_zero.1 hf)
    exact ⟨ready_nil_all h0, fin _ _ _ h0 hI⟩
  | succ fuel ih =>
    intro listed a w hsz hf hz0 hI hAll
    refine ⟨fun hr => fin _ _ _ (hAll _ hsz hr) hI, fun i hi => ?_⟩
    obtain ⟨hun, o, ho, hall⟩ := mem_ready.1 hi
    obtain ⟨hS, hd, hz, hn, hv⟩ := hI
    obtain ⟨hk1, hk2, hk3⟩ := invB_spec hok ho
    have hilt : i < ops.size := (Array.getElem?_eq_some_iff.1 ho).1
    have hset : ∀ j, (listed.setIfInBounds i true).getD j false = if j = i then true else listed.getD j false := fun j => by
      by_cases h : i = j
      · subst h; simp [hsz, hilt]
      · rw [getD_set_ne false h, if_neg (Ne.symm h)]
    have hgot : Got ops V a0 a w o := by
      intro t ht
      obtain ⟨h1, h2⟩ := hk1 t ht
      by_cases hm : t ∈ dsts ops
      · obtain ⟨j, oj, hj, hjd⟩ := mem_dsts.1 hm
        obtain ⟨e, he, hb, rfl⟩ := h2 j oj hj hjd
        obtain ⟨v, h3, h4⟩ := hv _ oj t hj hjd (hall e he hb)
        exact ⟨v, h3, by rw [if_pos (by simpa using hm)]; exact h4⟩
      · have h3 := hn t fun i o hi _ ho => hm (mem_dsts.2 ⟨i, o, hi, ho⟩)
        refine ⟨a.tmps[t]'(by omega), by simp, ?_⟩
        rw [if_neg (by simpa using hm), ← h3]
        simp
    refine wpOp_mono (fun a' w' hm => ?_) (step i o ho a w hS hgot)
    obtain ⟨v, rfl, hR, hV⟩ := hm
    refine ih _ _ _ (by simpa using hsz) (by have := left_set hilt hsz hun; omega) (.inr trivial) ?_ hAll
    refine ⟨hRS _ _ hR hS, by cases h : o.dst <;> simpa [Act.put, h] using hd, by cases h : o.dst <;> simpa [Act.put, h] using hz, ?_, ?_⟩
    · intro t hno
      have h1 : o.dst ≠ some t := hno i o ho (by rw [hset, if_pos rfl])
      have h2 := hn t fun j oj hj hl => hno j oj hj (by rw [hset]; split <;> simp_all)
      rw [← h2]
      cases hod : o.dst with
      | none => simp [Act.put]
      | some d =>
        have : d ≠ t := fun e => h1 (by rw [hod, e])
        simp [Act.put, Array.getElem?_setIfInBounds, this]
    · intro j oj d hj hjd hl
      by_cases hji : j = i
      · subst hji
        obtain rfl : o = oj := by rw [ho] at hj; exact Option.some.inj hj
        have hlt : d < a.tmps.size := by have := hk2 d hjd; omega
        exact ⟨v, by rw [hjd]; simp [Act.put, hlt], hV d hjd⟩
      · rw [hset, if_neg hji] at hl
        obtain ⟨u, h1, h2⟩ := hv j oj d hj hjd hl
        refine ⟨u, ?_, hRV _ _ _ _ hR h2⟩
        cases hod : o.dst with
        | none => simpa [Act.put] using h1
        | some d' =>
          have : d' ≠ d := fun e => hji (hk3 j oj d hj hjd (by rw [hod, e]))
          simpa [Act.put, Array.getElem?_setIfInBounds, this] using h1

/-- The operations wait for earlier ones alone. -/
def backB (md : Region.Mode) (ops : Array Oper) : Bool :=
  (List.range ops.size).all fun i => match ops[i]? with
    | none => true
    | some o => o.after.all fun e => !Region.binds md e || decide (e.on < i)

theorem all_of_ready {listed : Array Bool} (hb : backB md ops = true) (hs : listed.size = ops.size) (hr : Region.ready md ops listed = []) : (List.range ops.size).all (fun i => listed.getD i false) = true := by
  rw [List.all_eq_true]
  have H : ∀ n i, i < n → i < ops.size → listed.getD i false = true := by
    intro n
    induction n with
    | zero => intro i hi; omega
    | succ n ih =>
      intro i hi hlt
      cases hl : listed.getD i false with
      | true => rfl
      | false =>
        exfalso
        have ho : ops[i]? = some ops[i] := by simp [hlt]
        have h1 := List.all_eq_true.1 hb i (by simpa using hlt)
        simp only [ho, Array.all_eq_true'] at h1
        have hmem : i ∈ Region.ready md ops listed := by
          rw [mem_ready]
          refine ⟨by simpa [hs, hlt] using hl, _, ho, fun e he hbn => ?_⟩
          have h2 := h1 e he
          simp only [hbn, Bool.not_true, Bool.false_or, decide_eq_true_eq] at h2
          exact ih e.on (by omega) (by omega)
        rw [hr] at hmem
        cases hmem
  intro i hi
  exact H (i + 1) i (Nat.lt_succ_self _) (by simpa using hi)

/-- THE REGION, by one condition a slot. -/
theorem wp_region_inv {id : Nat} {a0 : Act} {w0 : World} (ds : List Nat) (hds : dsts ops = ds) (hm : P.follows .mixedOrders = true) (S : World → Prop) (R : World → World → Prop) (V : Nat → Value → World → Prop)
    (hok : (invB .any ops a0.tmps.size && backB .any ops) = true)
    (hRS : ∀ w w', R w w' → S w → S w') (hRV : ∀ t v w w', R w w' → V t v w → V t v w') (hS : S w0.drew)
    (step : ∀ (i : Nat) (o : Oper), ops[i]? = some o → ∀ a w, S w → Got ops V a0 a w o → wpOp P ops Q i (Made1 V R o a w) a w)
    (done : ∀ (f : Nat → Value) (w : World), S w → (∀ d ∈ ds, V d (f d) w) → Q .normal (puts a0 ds f) w) :
    (Code.region id ops true).wp P Q a0 w0 := by
  subst hds
  rw [Bool.and_eq_true] at hok
  refine wp_region_any hm (wpAny_inv S R V hok.1 hRS hRV step done _ _ _ _ (by simp) ?_ (.inr trivial) ?_ (fun l hl hr => all_of_ready hok.2 hl hr))
  · unfold left
    refine Nat.le_trans (List.length_filter_le _ _) (by simp)
  · have hf : ∀ i : Nat, (Array.replicate ops.size false).getD i false = false := fun i => by
      rcases Nat.lt_or_ge i ops.size with h | h <;> simp [h]
    exact ⟨hS, rfl, rfl, fun _ _ => rfl, fun i o d _ _ h => by rw [hf] at h; cases h⟩

/-! The steps, one behind the other. -/
def Steps1 (f : Nat → Oper → Prop) : Nat → List Oper → Prop
  | _, [] => True
  | k, o :: l => f k o ∧ Steps1 f (k + 1) l
theorem Steps1.nil {f : Nat → Oper → Prop} {k : Nat} : Steps1 f k [] := trivial
theorem Steps1.cons {f : Nat → Oper → Prop} {k : Nat} {o : Oper} {l : List Oper} (h : f k o) (hs : Steps1 f (k + 1) l) : Steps1 f k (o :: l) := ⟨h, hs⟩
theorem Steps1.get {f : Nat → Oper → Prop} {l : List Oper} {k : Nat} (h : Steps1 f k l) : ∀ (i : Nat) (o : Oper), l[i]? = some o → f (k + i) o := by
  induction l generalizing k with
  | nil => intro i o hi; simp at hi
  | cons c l ih =>
    intro i o hi
    cases i with
    | zero => simp at hi; subst hi; exact h.1
    | succ i => have := ih h.2 i o (by simpa using hi); rwa [show k + (i + 1) = k + 1 + i by omega]
theorem steps_of {f : Nat → Oper → Prop} {l : List Oper} (h : Steps1 f 0 l) : ∀ (i : Nat) (o : Oper), l.toArray[i]? = some o → f i o := fun i o hi => by
  have := h.get i o (by simpa using hi); rwa [Nat.zero_add] at this

theorem Got.new {V : Nat → Value → World → Prop} {a0 a : Act} {w : World} {o : Oper} (h : Got ops V a0 a w o) (t : Nat) (h1 : (o.looksAt ops).contains t = true) (h2 : (dsts ops).contains t = true) : ∃ v, a.tmps[t]? = some v ∧ V t v w := by
  obtain ⟨v, h3, h4⟩ := h t (by simpa using h1)
  rw [if_pos h2] at h4
  exact ⟨v, h3, h4⟩
theorem Got.old {V : Nat → Value → World → Prop} {a0 a : Act} {w : World} {o : Oper} (h : Got ops V a0 a w o) (t : Nat) (h1 : (o.looksAt ops).contains t = true) (h2 : (dsts ops).contains t = false) : a.tmps[t]? = a0.tmps[t]? := by
  obtain ⟨v, h3, h4⟩ := h t (by simpa using h1)
  rw [if_neg (by rw [h2]; exact Bool.false_ne_true)] at h4
  rw [h3, h4]

/-- An operation that comes to a value. -/
theorem step_value {i : Nat} {o : Oper} {V : Nat → Value → World → Prop} {R : World → World → Prop} {a : Act} {w w' : World} {v : Value} (hi : ops[i]? = some o) (hw : Region.wanted o (yielded ops a.tmps) = true)
    (hr : (execOp a.eval o).run P w = .ok (.value v) w') (hR : R w w') (hV : ∀ d, o.dst = some d → V d v w') : wpOp P ops Q i (Made1 V R o a w) a w := by
  unfold wpOp
  simp only [hi, hw, if_true, Oper.wp, hr, Oper.upon]
  exact .inl ⟨v, rfl, hR, hV⟩

/-- An operation that calls a function. -/
theorem step_call {i : Nat} {o : Oper} {V : Nat → Value → World → Prop} {R : World → World → Prop} {a : Act} {w w1 : World} {f : FuncId} {args : Array Value} (hi : ops[i]? = some o) (hw : Region.wanted o (yielded ops a.tmps) = true)
    (hr : (execOp a.eval o).run P w = .ok (.enter f args) w1)
    (hc : Calls P f args w1 fun e w' => ∃ v, e = .returned v ∧ R w w' ∧ ∀ d, o.dst = some d → V d v w') : wpOp P ops Q i (Made1 V R o a w) a w := by
  unfold wpOp
  simp only [hi, hw, if_true, Oper.wp, hr, Oper.upon]
  refine .inl (Calls.mono hc fun e w' h => ?_)
  obtain ⟨v, rfl, hR, hV⟩ := h
  exact ⟨v, rfl, hR, hV⟩

/-- An operation that is passed over. -/
theorem step_past {i : Nat} {o : Oper} {V : Nat → Value → World → Prop} {R : World → World → Prop} {a : Act} {w : World} (hi : ops[i]? = some o) (hw : Region.wanted o (yielded ops a.tmps) = false)
    (hR : R w w) (hV : ∀ d, o.dst = some d → V d undef w) : wpOp P ops Q i (Made1 V R o a w) a w := by
  unfold wpOp
  simp only [hi, hw]
  exact ⟨undef, rfl, hR, hV⟩

end
end Go.Proofs.Ytgpjbajfkagdbaa
