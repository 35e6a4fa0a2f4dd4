/- A region that draws its order and writes memory: some of its operations, which follow one another (its stores, its appends), part it into phases; within each, one condition a slot, and one on the act. Nothing of the program. -/
import Derived.Test.YtgpjbajfkagdbaaInv
set_option linter.unusedVariables false
set_option linter.unusedSimpArgs false
namespace Go.Proofs.Ytgpjbajfkagdbaa

/-- What an operation waits for, what that waits for, and so on. -/
def waits (md : Region.Mode) (ops : Array Oper) : Nat → Nat → List Nat
  | 0, _ => []
  | f + 1, i => match ops[i]? with
    | none => []
    | some o => (o.after.toList.filter (Region.binds md)).flatMap fun e => e.on :: waits md ops f e.on

/-- Operation i may come up when the first p marked ones did, and no other one. -/
def inPhase (md : Region.Mode) (ops : Array Oper) (f : Nat) (marks : List Nat) (p i : Nat) : Bool :=
  (marks.take p).all (fun s => s != i && !(waits md ops f s).contains i) && (marks.drop p).all fun s => !(waits md ops f i).contains s

/-- The marked operations are there, and follow one another. -/
def chainB (md : Region.Mode) (ops : Array Oper) (f : Nat) (marks : List Nat) : Bool :=
  marks.all (fun s => decide (s < ops.size)) && (List.range marks.length).all fun k => (List.range k).all fun j => match marks[k]?, marks[j]? with
    | some a, some b => a != b && (waits md ops f a).contains b
    | _, _ => true

/-- The operation waits for one that writes the slot t. -/
def newB (md : Region.Mode) (ops : Array Oper) (o : Oper) (t : Nat) : Bool :=
  o.after.any fun e => Region.binds md e && (match ops[e.on]? with | none => false | some oj => oj.dst == some t)

/-- Each slot that an operation looks at is there, and is written, if at all, by one that it waits for, or by ones that wait for it; no slot is written twice. -/
def invB2 (md : Region.Mode) (ops : Array Oper) (n : Nat) : Bool :=
  (List.range ops.size).all fun i => match ops[i]? with
    | none => true
    | some o => ((o.looksAt ops).all fun t => decide (t < n) && (newB md ops o t || (List.range ops.size).all fun j => match ops[j]? with
        | none => true
        | some oj => oj.dst != some t || (oj.after.any fun e => Region.binds md e && e.on == i))) &&
      ((match o.dst with | none => true | some d => decide (d < n)) && (List.range ops.size).all fun j => match ops[j]? with
        | none => true
        | some oj => j == i || oj.dst == none || oj.dst != o.dst)

section
variable {P : Program} {ops : Array Oper} {Q : Exit → Act → World → Prop} {md : Region.Mode}

theorem invB2_spec {n i : Nat} {o : Oper} (h : invB2 md ops n = true) (hi : ops[i]? = some o) :
    (∀ t : Nat, t ∈ o.looksAt ops → t < n ∧ (newB md ops o t = true ∨ ∀ (j : Nat) oj, ops[j]? = some oj → oj.dst = some t → ∃ e ∈ oj.after, Region.binds md e = true ∧ e.on = i)) ∧
    (∀ d : Nat, o.dst = some d → d < n) ∧ (∀ (j : Nat) oj (d : Nat), ops[j]? = some oj → oj.dst = some d → o.dst = some d → j = i) := by
  have hlt : ∀ {k : Nat} {ok : Oper}, ops[k]? = some ok → k < ops.size := fun hk => (Array.getElem?_eq_some_iff.1 hk).1
  have h1 := List.all_eq_true.1 h i (by simpa using hlt hi)
  simp only [hi, Bool.and_eq_true, List.all_eq_true, decide_eq_true_eq, Bool.or_eq_true] at h1
  obtain ⟨ha, hb, hc⟩ := h1
  refine ⟨fun t ht => ⟨(ha t ht).1, ?_⟩, fun d hd => ?_, fun j oj d hj hd ho => ?_⟩
  · rcases (ha t ht).2 with h2 | h2
    · exact .inl h2
    · refine .inr fun j oj hj hd => ?_
      have h3 := h2 j (by simpa using hlt hj)
      simp only [hj, hd, bne_self_eq_false, Bool.false_or, Bool.false_eq_true, false_or] at h3
      obtain ⟨e, he, h3⟩ := Array.any_eq_true'.1 h3
      simp only [Bool.and_eq_true, beq_iff_eq] at h3
      exact ⟨e, he, h3⟩
  · simpa [hd] using hb
  · have h2 := hc j (by simpa using hlt hj)
    simp only [hj, hd, ho, bne_self_eq_false, Bool.or_false, Bool.or_eq_true, beq_iff_eq] at h2
    rcases h2 with h2 | h2
    · first
        | exact h2
        | (rcases h2 with h2 | h2
           · exact h2
           · cases h2)
    · cases h2

/-- What is known where an operation comes up: of each slot that it looks at, what V says if it waits for one that writes it, else what it was. -/
def Got2 (md : Region.Mode) (ops : Array Oper) (V : Nat → Value → World → Prop) (a0 a : Act) (w : World) (o : Oper) : Prop :=
  ∀ t : Nat, t ∈ o.looksAt ops → ∃ v, a.tmps[t]? = some v ∧ (if newB md ops o t = true then V t v w else a0.tmps[t]? = some v)

theorem Got2.new {V : Nat → Value → World → Prop} {a0 a : Act} {w : World} {o : Oper} (h : Got2 md ops V a0 a w o) (t : Nat) (h1 : (o.looksAt ops).contains t = true) (h2 : newB md ops o t = true) : ∃ v, a.tmps[t]? = some v ∧ V t v w := by
  obtain ⟨v, h3, h4⟩ := h t (by simpa using h1)
  rw [if_pos h2] at h4
  exact ⟨v, h3, h4⟩
theorem Got2.old {V : Nat → Value → World → Prop} {a0 a : Act} {w : World} {o : Oper} (h : Got2 md ops V a0 a w o) (t : Nat) (h1 : (o.looksAt ops).contains t = true) (h2 : newB md ops o t = false) : a.tmps[t]? = a0.tmps[t]? := by
  obtain ⟨v, h3, h4⟩ := h t (by simpa using h1)
  rw [if_neg (by rw [h2]; exact Bool.false_ne_true)] at h4
  rw [h3, h4]

def Shut (md : Region.Mode) (ops : Array Oper) (listed : Array Bool) : Prop :=
  ∀ (i : Nat) o, ops[i]? = some o → listed.getD i false = true → ∀ e ∈ o.after, Region.binds md e = true → listed.getD e.on false = true

theorem Shut.waits {listed : Array Bool} (h : Shut md ops listed) : ∀ (f i j : Nat), (∀ o, ops[i]? = some o → ∀ e ∈ o.after, Region.binds md e = true → listed.getD e.on false = true) → j ∈ waits md ops f i → listed.getD j false = true := by
  intro f
  induction f with
  | zero => intro i j _ hj; simp [Proofs.Ytgpjbajfkagdbaa.waits] at hj
  | succ f ih =>
    intro i j hi hj
    unfold Proofs.Ytgpjbajfkagdbaa.waits at hj
    cases ho : ops[i]? with
    | none => rw [ho] at hj; simp at hj
    | some o =>
      rw [ho] at hj
      obtain ⟨e, he, hj⟩ := List.mem_flatMap.1 hj
      obtain ⟨he1, he2⟩ := List.mem_filter.1 he
      have h1 := hi o ho e (by simpa using he1) he2
      rcases List.mem_cons.1 hj with rfl | hj
      · exact h1
      · exact ih e.on j (fun o2 ho2 => h e.on o2 ho2 h1) hj

/-- What an operation makes: a slot; or, a marked one, what is known of each slot in the next phase. -/
def Made2 (ops : Array Oper) (marks : List Nat) (T : List Nat) (J : Act → World → Prop) (S : Nat → World → Prop) (V : Nat → Nat → Value → World → Prop) (R : World → World → Prop) (p i : Nat) (o : Oper) (a : Act) (w : World) (a' : Act) (w' : World) : Prop :=
  if marks.contains i = true then ∃ v, a' = a.put o.dst v ∧ S (p + 1) w' ∧ J a' w' ∧ (∀ d, o.dst = some d → V (p + 1) d v w') ∧ ∀ t u, (dsts ops).contains t = true → o.dst ≠ some t → a.tmps[t]? = some u → V p t u w → V (p + 1) t u w'
  else Made1 (V p) R o a w a' w' ∧ ∀ d, o.dst = some d → T.contains d = true → J a' w'

def PhaseAt (marks : List Nat) (p : Nat) (listed : Array Bool) : Prop := p ≤ marks.length ∧ ∀ (k s : Nat), marks[k]? = some s → listed.getD s false = decide (k < p)

set_option maxHeartbeats 1000000 in
theorem wpAny_phase {a0 : Act} (f : Nat) (marks T : List Nat) (J : Act → World → Prop) (S : Nat → World → Prop) (R : World → World → Prop) (V : Nat → Nat → Value → World → Prop) (hok : invB2 md ops a0.tmps.size = true) (hch : chainB md ops f marks = true)
    (hJ : ∀ a w a' w', (∀ t ∈ T, a'.tmps[t]? = a.tmps[t]?) → R w w' → J a w → J a' w')
    (hRS : ∀ p w w', R w w' → S p w → S p w') (hRV : ∀ p t v w w', R w w' → V p t v w → V p t v w')
    (step : ∀ (p i : Nat) (o : Oper), ops[i]? = some o → p ≤ marks.length → inPhase md ops f marks p i = true → ∀ a w, S p w → J a w → Got2 md ops (V p) a0 a w o → wpOp P ops Q i (Made2 ops marks T J S V R p i o a w) a w)
    (done : ∀ (g : Nat → Value) (w : World), S marks.length w → J (puts a0 (dsts ops) g) w → (∀ d ∈ dsts ops, V marks.length d (g d) w) → Q .normal (puts a0 (dsts ops) g) w) :
    ∀ (fuel p : Nat) (listed : Array Bool) (a : Act) (w : World), listed.size = ops.size → left ops.size listed ≤ fuel → PhaseAt marks p listed → Shut md ops listed → J a w →
      InvAt ops (S p) (V p) a0 listed a w → (∀ l : Array Bool, l.size = ops.size → Region.ready md ops l = [] → (List.range ops.size).all (fun i => l.getD i false) = true) →
      wpAny P md ops Q fuel listed a w := by
  have hms : ∀ s ∈ marks, s < ops.size := fun s hs => by
    unfold chainB at hch
    rw [Bool.and_eq_true] at hch
    simpa using List.all_eq_true.1 hch.1 s hs
  have hmc : ∀ (k j : Nat) (hk : k < marks.length) (hj : j < k), marks[k] ≠ marks[j] ∧ marks[j] ∈ waits md ops f marks[k] := fun k j hk hj => by
    unfold chainB at hch
    rw [Bool.and_eq_true] at hch
    have h2 := List.all_eq_true.1 (List.all_eq_true.1 hch.2 k (by simpa using hk)) j (by simpa using hj)
    rw [List.getElem?_eq_getElem hk, List.getElem?_eq_getElem (by omega : j < marks.length)] at h2
    simpa using h2
  have hinj : ∀ (k j : Nat) (hk : k < marks.length) (hj : j < marks.length), marks[k] = marks[j] → k = j := fun k j hk hj h => by
    rcases Nat.lt_trichotomy k j with h1 | h1 | h1
    · exact absurd h.symm (hmc j k hj h1).1
    · exact h1
    · exact absurd h (hmc k j hk h1).1
  have fin : ∀ (p : Nat) (listed : Array Bool) (a : Act) (w : World), (List.range ops.size).all (fun i => listed.getD i false) = true → PhaseAt marks p listed → J a w → InvAt ops (S p) (V p) a0 listed a w → Q .normal a w := by
    intro p listed a w hall hp hj ⟨hS, hd, hz, hn, hv⟩
    have hl : ∀ (i : Nat) o, ops[i]? = some o → listed.getD i false = true := fun i o hi => List.all_eq_true.1 hall i (by simpa using (Array.getElem?_eq_some_iff.1 hi).1)
    have hpe : p = marks.length := by
      rcases Nat.lt_or_ge p marks.length with h | h
      · exfalso
        have h1 := hp.2 p _ (List.getElem?_eq_getElem h)
        have h2 := List.all_eq_true.1 hall marks[p] (by simpa using hms _ (List.getElem_mem h))
        rw [h2] at h1
        simp at h1
      · have := hp.1; omega
    subst hpe
    have he : a = puts a0 (dsts ops) (fun d => a.tmps.getD d undef) := by
      have ht : a.tmps = (puts a0 (dsts ops) (fun d => a.tmps.getD d undef)).tmps := by
        apply Array.ext_getElem?
        intro t
        rw [puts_get]
        by_cases hm : t ∈ dsts ops
        · obtain ⟨i, o, hi, ho⟩ := mem_dsts.1 hm
          obtain ⟨v, h1, _⟩ := hv i o t hi ho (hl i o hi)
          have hlt := (Array.getElem?_eq_some_iff.1 h1).1
          rw [if_pos ⟨hm, by omega⟩, h1]
          simp [h1]
        · rw [if_neg (fun h => hm h.1)]
          exact hn t fun i o hi _ ho => hm (mem_dsts.2 ⟨i, o, hi, ho⟩)
      have hd' : a.defers = (puts a0 (dsts ops) (fun d => a.tmps.getD d undef)).defers := by rw [puts_defers, hd]
      calc a = ⟨a.tmps, a.defers⟩ := rfl
        _ = ⟨(puts a0 (dsts ops) (fun d => a.tmps.getD d undef)).tmps, (puts a0 (dsts ops) (fun d => a.tmps.getD d undef)).defers⟩ := by rw [← ht, ← hd']
        _ = _ := rfl
    rw [he] at hj ⊢
    refine done _ w hS hj fun d hd => ?_
    obtain ⟨i, o, hi, ho⟩ := mem_dsts.1 hd
    obtain ⟨v, h1, h2⟩ := hv i o d hi ho (hl i o hi)
    simpa [h1] using h2
  intro fuel
  induction fuel with
  | zero =>
    intro p listed a w hsz hf hp _ hj hI _
    have h0 := left_zero (Nat.le_zero.1 hf)
    exact ⟨ready_nil_all h0, fin _ _ _ _ h0 hp hj hI⟩
  | succ fuel ih =>
    intro p listed a w hsz hf hp hsh hj hI hAll
    refine ⟨fun hr => fin _ _ _ _ (hAll _ hsz hr) hp hj hI, fun i hi => ?_⟩
    obtain ⟨hun, o, ho, hall⟩ := mem_ready.1 hi
    obtain ⟨hS, hd, hz, hn, hv⟩ := hI
    obtain ⟨hk1, hk2, hk3⟩ := invB2_spec hok ho
    have hilt : i < ops.size := (Array.getElem?_eq_some_iff.1 ho).1
    have hunf : listed.getD i false = false := by simpa [hsz, hilt] using hun
    have hset : ∀ j, (listed.setIfInBounds i true).getD j false = if j = i then true else listed.getD j false := fun j => by
      by_cases h : i = j
      · subst h; simp [hsz, hilt]
      · rw [getD_set_ne false h, if_neg (Ne.symm h)]
    have hsh' : Shut md ops (listed.setIfInBounds i true) := by
      intro j oj hj hl e he hb
      rw [hset] at hl ⊢
      split
      · rfl
      · by_cases hji : j = i
        · subst hji
          obtain rfl : o = oj := by rw [ho] at hj; exact Option.some.inj hj
          exact hall e he hb
        · rw [if_neg hji] at hl
          exact hsh j oj hj hl e he hb
    have hiw : ∀ j, j ∈ waits md ops f i → listed.getD j false = true := fun j hj => hsh.waits f i j (fun o2 ho2 => by
      obtain rfl : o = o2 := by rw [ho] at ho2; exact Option.some.inj ho2
      exact hall) hj
    have hin : inPhase md ops f marks p i = true := by
      unfold inPhase
      rw [Bool.and_eq_true, List.all_eq_true, List.all_eq_true]
      constructor
      · intro s hs
        obtain ⟨k, hk, rfl⟩ := List.getElem_of_mem hs
        rw [List.length_take] at hk
        rw [List.getElem_take]
        have h1 := hp.2 k _ (List.getElem?_eq_getElem (by omega))
        rw [decide_eq_true (by omega)] at h1
        rw [Bool.and_eq_true]
        refine ⟨?_, ?_⟩
        · rw [bne_iff_ne]
          intro e
          rw [e, hunf] at h1
          cases h1
        · rw [Bool.not_eq_true']
          refine Bool.eq_false_iff.2 fun hc => ?_
          have h2 := hsh.waits f _ i (fun o2 ho2 => hsh _ o2 ho2 h1) (by simpa using hc)
          rw [hunf] at h2
          cases h2
      · intro s hs
        obtain ⟨k, hk, rfl⟩ := List.getElem_of_mem hs
        rw [List.length_drop] at hk
        rw [List.getElem_drop]
        have h1 := hp.2 (p + k) _ (List.getElem?_eq_getElem (by omega))
        rw [decide_eq_false (by omega)] at h1
        rw [Bool.not_eq_true']
        refine Bool.eq_false_iff.2 fun hc => ?_
        rw [hiw _ (by simpa using hc)] at h1
        cases h1
    have hgot : Got2 md ops (V p) a0 a w o := by
      intro t ht
      obtain ⟨h1, h2⟩ := hk1 t ht
      by_cases hm : newB md ops o t = true
      · have h5 := hm
        unfold newB at h5
        obtain ⟨e, he, h5⟩ := Array.any_eq_true'.1 h5
        rw [Bool.and_eq_true] at h5
        cases hoj : ops[e.on]? with
        | none => rw [hoj] at h5; simp at h5
        | some oj =>
          rw [hoj] at h5
          obtain ⟨v, h3, h4⟩ := hv _ oj t hoj (by simpa using h5.2) (hall e he h5.1)
          exact ⟨v, h3, by rw [if_pos hm]; exact h4⟩
      · have h6 : ∀ (j : Nat) oj, ops[j]? = some oj → oj.dst = some t → ∃ e ∈ oj.after, Region.binds md e = true ∧ e.on = i := by
          rcases h2 with h2 | h2
          · exact absurd h2 hm
          · exact h2
        have h3 := hn t fun j oj hj hl ho' => by
          obtain ⟨e, he, hb, hei⟩ := h6 j oj hj ho'
          have h7 := hsh j oj hj hl e he hb
          rw [hei, hunf] at h7
          cases h7
        refine ⟨a.tmps[t]'(by omega), by simp, ?_⟩
        rw [if_neg hm, ← h3]
        simp
    refine wpOp_mono (fun a' w' hm => ?_) (step p i o ho hp.1 hin a w hS hj hgot)
    unfold Made2 at hm
    have hleft : left ops.size (listed.setIfInBounds i true) ≤ fuel := by have := left_set hilt hsz hun; omega
    have hput : ∀ (v : Value) (t : Nat), o.dst ≠ some t → (a.put o.dst v).tmps[t]? = a.tmps[t]? := fun v t ht => by
      cases hod : o.dst with
      | none => simp [Act.put]
      | some d0 =>
        have : d0 ≠ t := fun e => ht (by rw [hod, e])
        simp [Act.put, Array.getElem?_setIfInBounds, this]
    have hold : ∀ (v : Value) (t : Nat), (∀ (j : Nat) oj, ops[j]? = some oj → (listed.setIfInBounds i true).getD j false = true → oj.dst ≠ some t) → (a.put o.dst v).tmps[t]? = a0.tmps[t]? := fun v t hno => by
      have h1 : o.dst ≠ some t := hno i o ho (by rw [hset, if_pos rfl])
      have h2 := hn t fun j oj hj hl => hno j oj hj (by rw [hset]; split; (rfl); exact hl)
      rw [← h2]
      exact hput v t h1
    have hdz : ∀ v : Value, (a.put o.dst v).defers = a0.defers ∧ (a.put o.dst v).tmps.size = a0.tmps.size := fun v => by
      cases hod : o.dst with
      | none => exact ⟨by simpa [Act.put] using hd, by simpa [Act.put] using hz⟩
      | some d0 => exact ⟨by simpa [Act.put] using hd, by simpa [Act.put] using hz⟩
    by_cases him : marks.contains i = true
    · rw [if_pos him] at hm
      obtain ⟨v, rfl, hS', hJ', hVn, hVo⟩ := hm
      have his : i ∈ marks := by simpa using him
      obtain ⟨k0, hk0, hki⟩ := List.getElem_of_mem his
      have hk0p : k0 = p := by
        have h1 := hp.2 k0 i (by rw [List.getElem?_eq_getElem hk0, hki])
        rw [hunf] at h1
        have hge : ¬ k0 < p := by intro h; rw [decide_eq_true h] at h1; cases h1
        rcases Nat.lt_or_ge p k0 with hlt | hge2
        · exfalso
          have h2 := (hmc k0 p hk0 hlt).2
          rw [hki] at h2
          have h3 := hiw _ h2
          have h4 := hp.2 p _ (List.getElem?_eq_getElem (by omega : p < marks.length))
          rw [h3] at h4
          simp at h4
        · omega
      subst hk0p
      refine ih (k0 + 1) _ _ _ (by simpa using hsz) hleft ⟨hk0, fun k s hs => ?_⟩ hsh' hJ' ?_ hAll
      · rw [hset]
        by_cases hsi : s = i
        · subst hsi
          obtain ⟨hk, he⟩ := List.getElem?_eq_some_iff.1 hs
          have : k = k0 := hinj k k0 hk hk0 (he.trans hki.symm)
          subst this
          simp
        · have hne : k ≠ k0 := by
            rintro rfl
            obtain ⟨hk, he⟩ := List.getElem?_eq_some_iff.1 hs
            exact hsi (he.symm.trans hki)
          rw [if_neg hsi, hp.2 k s hs, decide_eq_decide]
          omega
      refine ⟨hS', (hdz v).1, (hdz v).2, hold v, ?_⟩
      intro j oj d hj hjd hl
      by_cases hji : j = i
      · subst hji
        obtain rfl : o = oj := by rw [ho] at hj; exact Option.some.inj hj
        have hlt : d < a.tmps.size := by have := hk2 d hjd; omega
        exact ⟨v, by rw [hjd]; simp [Act.put, hlt], hVn d hjd⟩
      · rw [hset, if_neg hji] at hl
        obtain ⟨u, h1, h2⟩ := hv j oj d hj hjd hl
        have hne : o.dst ≠ some d := fun e => hji (hk3 j oj d hj hjd e)
        exact ⟨u, by rw [hput v d hne]; exact h1, hVo d u (by simpa using mem_dsts.2 ⟨j, oj, hj, hjd⟩) hne h1 h2⟩
    · rw [if_neg him] at hm
      obtain ⟨⟨v, rfl, hR, hV⟩, hJn⟩ := hm
      have hJ' : J (a.put o.dst v) w' := by
        by_cases hT : ∃ d, o.dst = some d ∧ T.contains d = true
        · obtain ⟨d, h1, h2⟩ := hT
          exact hJn d h1 h2
        · exact hJ a w _ w' (fun t ht => hput v t fun e => hT ⟨t, e, by simpa using ht⟩) hR hj
      refine ih p _ _ _ (by simpa using hsz) hleft ⟨hp.1, fun k s hs => ?_⟩ hsh' hJ' ?_ hAll
      · have hsi : s ≠ i := fun e => him (by rw [← e]; simpa using List.mem_of_getElem? hs)
        rw [hset, if_neg hsi]
        exact hp.2 k s hs
      refine ⟨hRS _ _ _ hR hS, (hdz v).1, (hdz v).2, hold v, ?_⟩
      intro j oj d hj hjd hl
      by_cases hji : j = i
      · subst hji
        obtain rfl : o = oj := by rw [ho] at hj; exact Option.some.inj hj
        have hlt : d < a.tmps.size := by have := hk2 d hjd; omega
        exact ⟨v, by rw [hjd]; simp [Act.put, hlt], hV d hjd⟩
      · rw [hset, if_neg hji] at hl
        obtain ⟨u, h1, h2⟩ := hv j oj d hj hjd hl
        have hne : o.dst ≠ some d := fun e => hji (hk3 j oj d hj hjd e)
        exact ⟨u, by rw [hput v d hne]; exact h1, hRV _ _ _ _ _ hR h2⟩

/-- THE REGION, by phases. -/
theorem wp_region_phase {id : Nat} {a0 : Act} {w0 : World} (f : Nat) (ds : List Nat) (hds : dsts ops = ds) (marks T : List Nat) (J : Act → World → Prop) (n : Nat) (hn : marks.length = n) (hm : P.follows .mixedOrders = true) (S : Nat → World → Prop) (R : World → World → Prop) (V : Nat → Nat → Value → World → Prop)
    (hok : (invB2 .any ops a0.tmps.size && (backB .any ops && chainB .any ops f marks)) = true)
    (hRS : ∀ p w w', R w w' → S p w → S p w') (hRV : ∀ p t v w w', R w w' → V p t v w → V p t v w')
    (hJ : ∀ a w a' w', (∀ t ∈ T, a'.tmps[t]? = a.tmps[t]?) → R w w' → J a w → J a' w') (hS : S 0 w0.drew) (hJ0 : J a0 w0.drew)
    (step : ∀ (p i : Nat) (o : Oper), ops[i]? = some o → p ≤ n → inPhase .any ops f marks p i = true → ∀ a w, S p w → J a w → Got2 .any ops (V p) a0 a w o → wpOp P ops Q i (Made2 ops marks T J S V R p i o a w) a w)
    (done : ∀ (g : Nat → Value) (w : World), S n w → J (puts a0 ds g) w → (∀ d ∈ ds, V n d (g d) w) → Q .normal (puts a0 ds g) w) :
    (Code.region id ops true).wp P Q a0 w0 := by
  subst hds
  subst hn
  rw [Bool.and_eq_true, Bool.and_eq_true] at hok
  have hf : ∀ i : Nat, (Array.replicate ops.size false).getD i false = false := fun i => by
    rcases Nat.lt_or_ge i ops.size with h | h <;> simp [h]
  refine wp_region_any hm (wpAny_phase f marks T J S R V hok.1 hok.2.2 hJ hRS hRV step done _ 0 _ _ _ (by simp) ?_ ⟨Nat.zero_le _, fun k s _ => by rw [hf]; simp⟩ (fun i o _ h => by rw [hf] at h; cases h) hJ0 ?_ (fun l hl hr => all_of_ready hok.2.1 hl hr))
  · unfold left
    refine Nat.le_trans (List.length_filter_le _ _) (by simp)
  · exact ⟨hS, rfl, rfl, fun _ _ => rfl, fun i o d _ _ h => by rw [hf] at h; cases h⟩

theorem out {b : Bool} {p : Prop} (hb : b = false) (h : b = true) : p := by rw [hb] at h; cases h

theorem phase0 {F : Nat → Nat → Oper → Prop} {l : List Oper} (h : Steps1 (F 0) 0 l) : ∀ (p i : Nat) (o : Oper), l.toArray[i]? = some o → p ≤ 0 → F p i o := fun p i o hi hp => by
  obtain rfl : p = 0 := by omega
  exact steps_of h i o hi
theorem phase2 {F : Nat → Nat → Oper → Prop} {l : List Oper} (h : Steps1 (F 0) 0 l) (h1 : Steps1 (F 1) 0 l) (h2 : Steps1 (F 2) 0 l) : ∀ (p i : Nat) (o : Oper), l.toArray[i]? = some o → p ≤ 2 → F p i o := fun p i o hi hp => by
  match p, hp with
  | 0, _ => exact steps_of h i o hi
  | 1, _ => exact steps_of h1 i o hi
  | 2, _ => exact steps_of h2 i o hi
theorem phase3 {F : Nat → Nat → Oper → Prop} {l : List Oper} (h : Steps1 (F 0) 0 l) (h1 : Steps1 (F 1) 0 l) (h2 : Steps1 (F 2) 0 l) (h3 : Steps1 (F 3) 0 l) : ∀ (p i : Nat) (o : Oper), l.toArray[i]? = some o → p ≤ 3 → F p i o := fun p i o hi hp => by
  match p, hp with
  | 0, _ => exact steps_of h i o hi
  | 1, _ => exact steps_of h1 i o hi
  | 2, _ => exact steps_of h2 i o hi
  | 3, _ => exact steps_of h3 i o hi

section
variable {marks T : List Nat} {J : Act → World → Prop} {S : Nat → World → Prop} {V : Nat → Nat → Value → World → Prop} {R : World → World → Prop} {p i d : Nat} {o : Oper} {a : Act} {w : World}
theorem made_plain {a' : Act} {w' : World} (hi : marks.contains i = false) (h : Made1 (V p) R o a w a' w' ∧ ∀ d, o.dst = some d → T.contains d = true → J a' w') : Made2 ops marks T J S V R p i o a w a' w' := by
  unfold Made2
  rw [if_neg (by rw [hi]; exact Bool.false_ne_true)]
  exact h
theorem made_marked {a' : Act} {w' : World} (hi : marks.contains i = true) (h : ∃ v, a' = a.put o.dst v ∧ S (p + 1) w' ∧ J a' w' ∧ (∀ d, o.dst = some d → V (p + 1) d v w') ∧ ∀ t u, (dsts ops).contains t = true → o.dst ≠ some t → a.tmps[t]? = some u → V p t u w → V (p + 1) t u w') : Made2 ops marks T J S V R p i o a w a' w' := by
  unfold Made2
  rw [if_pos hi]
  exact h

/-- An operation that writes a slot of which the act's condition does not speak. -/
theorem step_slot (hd : o.dst = some d) (hi : marks.contains i = false) (hT : T.contains d = false) (h : wpOp P ops Q i (Made1 (V p) R o a w) a w) : wpOp P ops Q i (Made2 ops marks T J S V R p i o a w) a w :=
  wpOp_mono (fun a' w' hm => made_plain hi ⟨hm, fun d' h1 h2 => by rw [hd] at h1; injection h1 with h1; subst h1; rw [hT] at h2; cases h2⟩) h

/-- An operation that comes to a value; the act's condition is laid by hand. -/
theorem step_value_J {w' : World} {v : Value} (hi : ops[i]? = some o) (hd : o.dst = some d) (hk : marks.contains i = false) (hw : Region.wanted o (yielded ops a.tmps) = true)
    (hr : (execOp a.eval o).run P w = .ok (.value v) w') (hR : R w w') (hV : V p d v w') (hJ : J (a.put (some d) v) w') : wpOp P ops Q i (Made2 ops marks T J S V R p i o a w) a w := by
  unfold wpOp
  simp only [hi, hw, if_true, Oper.wp, hr, Oper.upon]
  exact .inl (made_plain hk ⟨⟨v, rfl, hR, fun d' h => by rw [hd] at h; injection h with h; subst h; exact hV⟩, fun d' h _ => by rw [hd]; exact hJ⟩)

/-- A store that is marked. -/
theorem step_store {w' : World} (hi : ops[i]? = some o) (hd : o.dst = none) (hk : marks.contains i = true) (hw : Region.wanted o (yielded ops a.tmps) = true)
    (hr : (execOp a.eval o).run P w = .ok .skip w') (hS : S (p + 1) w') (hJ : J a w') (hV : ∀ t v, (dsts ops).contains t = true → a.tmps[t]? = some v → V p t v w → V (p + 1) t v w') : wpOp P ops Q i (Made2 ops marks T J S V R p i o a w) a w := by
  unfold wpOp
  simp only [hi, hw, if_true, Oper.wp, hr, Oper.upon]
  exact .inl (made_marked hk ⟨undef, rfl, hS, by rw [hd]; exact hJ, fun d h => (by rw [hd] at h; cases h), fun t u h1 _ h3 h4 => hV t u h1 h3 h4⟩)

/-- An operation that is marked and comes to a value. -/
theorem step_marked {w' : World} {v : Value} (hi : ops[i]? = some o) (hd : o.dst = some d) (hk : marks.contains i = true) (hw : Region.wanted o (yielded ops a.tmps) = true)
    (hr : (execOp a.eval o).run P w = .ok (.value v) w') (hS : S (p + 1) w') (hJ : J (a.put (some d) v) w') (hVd : V (p + 1) d v w') (hV : ∀ t u, (dsts ops).contains t = true → t ≠ d → a.tmps[t]? = some u → V p t u w → V (p + 1) t u w') : wpOp P ops Q i (Made2 ops marks T J S V R p i o a w) a w := by
  unfold wpOp
  simp only [hi, hw, if_true, Oper.wp, hr, Oper.upon]
  exact .inl (made_marked hk ⟨v, rfl, hS, by rw [hd]; exact hJ, fun d' h => by rw [hd] at h; injection h with h; subst h; exact hVd, fun t u h1 h2 h3 h4 => hV t u h1 (fun e => h2 (by rw [hd, e])) h3 h4⟩)
end

end
end Go.Proofs.Ytgpjbajfkagdbaa
