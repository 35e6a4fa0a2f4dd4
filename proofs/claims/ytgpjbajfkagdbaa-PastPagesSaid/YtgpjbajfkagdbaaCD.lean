/- A change: what it is, and whether it may be: plain facts; the walks of flat's maySide and May, and of the document's May. -/
import Derived.Test.YtgpjbajfkagdbaaWRightN
import Derived.Test.YtgpjbajfkagdbaaLf
set_option linter.unusedVariables false
set_option linter.unusedSimpArgs false
namespace Go.Proofs.Ytgpjbajfkagdbaa
open Go.RowKit Go.Sort

/-- A change. -/
structure Ch where
  seq : Int
  key : ByteArray
  had : Bool
  before : ByteArray
  has : Bool
  after : ByteArray
deriving DecidableEq

def sideB (has : Bool) (v : ByteArray) : Bool := if has then decide (v.size ≤ 32) else decide (v = noB)
def mayC (c : Ch) : Bool := decide (1 ≤ c.seq) && decide (c.seq ≤ 2147483647) && decide (c.key.size ≤ 16) && (c.had || c.has) && sideB c.had c.before && sideB c.has c.after
theorem side_size {h : Bool} {v : ByteArray} (e : sideB h v = true) : v.size ≤ 32 := by
  unfold sideB at e
  cases h with
  | true => simpa using e
  | false =>
    simp only [Bool.false_eq_true, if_false, decide_eq_true_eq] at e
    subst e
    show 0 ≤ 32
    omega

theorem may_of {c : Ch} (h : mayC c = true) : 1 ≤ c.seq ∧ c.seq ≤ 2147483647 ∧ c.key.size ≤ 16 ∧ c.before.size ≤ 32 ∧ c.after.size ≤ 32 := by
  unfold mayC at h
  simp only [Bool.and_eq_true, decide_eq_true_eq] at h
  obtain ⟨⟨⟨⟨⟨h1, h2⟩, h3⟩, _⟩, h4⟩, h5⟩ := h
  exact ⟨h1, h2, h3, side_size h4, side_size h5⟩

set_option maxRecDepth 100000 in
set_option maxHeartbeats 1000000 in
theorem side_any (has : Bool) (v : ByteArray) (w : World) :
    Calls Try.prog 46 #[.bool has, .string v] w fun e w' => e = .returned (.bool (sideB has v)) ∧ Below w.heap.size w w' := by
  obtain ⟨R, hR⟩ : ∃ R, R = sideB has v := ⟨_, rfl⟩
  rw [← hR]
  unfold sideB at hR
  cases has with
  | true =>
    rw [if_pos rfl] at hR
    have hd : decide ((v.size : Int) ≤ 32) = R := by rw [hR]; exact decide_eq_decide.2 (by omega)
    clear hR
    go_enter Try.func46, Try.ntmps46
    go_wp2
    go_ret
    rw [← hd]
    exact ⟨rfl, Below.refl _ _⟩
  | false =>
    rw [if_neg (by decide), ← str_empty] at hR
    have HR := Lib.hid hR
    clear hR
    go_enter Try.func46, Try.ntmps46
    go_wp2
    go_ret
    rw [HR.out]
    exact ⟨rfl, Below.refl _ _⟩

def chV (s : Int) (k : ByteArray) (h : Bool) (b : ByteArray) (g : Bool) (a : ByteArray) : Value := .agg #[.int .i64 s, .string k, .bool h, .string b, .bool g, .string a]

theorem may_parts (s : Int) (k : ByteArray) (h : Bool) (b : ByteArray) (g : Bool) (a : ByteArray) :
    mayC ⟨s, k, h, b, g, a⟩ = (decide (1 ≤ s) && decide (s ≤ 2147483647) && decide (k.size ≤ 16) && (h || g) && sideB h b && sideB g a) := rfl

set_option maxRecDepth 100000 in
set_option maxHeartbeats 2000000 in
theorem may_any (s : Int) (k : ByteArray) (had : Bool) (xb : ByteArray) (has : Bool) (xa : ByteArray) (w : World) :
    Calls Try.prog 32 #[.agg #[.int .i64 s, .string k, .bool had, .string xb, .bool has, .string xa]] w fun e w' => e = .returned (.bool (mayC ⟨s, k, had, xb, has, xa⟩)) ∧ Below w.heap.size w w' := by
  obtain ⟨R, hR⟩ : ∃ R, R = mayC ⟨s, k, had, xb, has, xa⟩ := ⟨_, rfl⟩
  rw [← hR]
  rw [may_parts] at hR
  by_cases h1 : 1 ≤ s
  case neg =>
    have e : R = false := by rw [hR, decide_eq_false h1]; rfl
    subst e
    clear hR
    go_enter Try.func32, Try.ntmps32
    go_wp2
    go_ret
    exact ⟨rfl, (Below.refl _ _).alloc (Nat.le_refl _) _⟩
  have hd1 : decide (s < 1) = false := by simp; omega
  by_cases h2 : s ≤ 2147483647
  case neg =>
    have hd2 : decide (2147483647 < s) = true := by simp; omega
    have e : R = false := by rw [hR, decide_eq_false h2]; simp
    subst e
    clear hR
    go_enter Try.func32, Try.ntmps32
    go_wp2
    go_ret
    exact ⟨rfl, (Below.refl _ _).alloc (Nat.le_refl _) _⟩
  have hd2 : decide (2147483647 < s) = false := by simp; omega
  by_cases h3 : k.size ≤ 16
  case neg =>
    have hd3 : decide (16 < (k.size : Int)) = true := by simp; omega
    have e : R = false := by rw [hR, decide_eq_false h3]; simp
    subst e
    clear hR
    go_enter Try.func32, Try.ntmps32
    go_wp2
    go_ret
    exact ⟨rfl, (Below.refl _ _).alloc (Nat.le_refl _) _⟩
  have hd3 : decide (16 < (k.size : Int)) = false := by simp; omega
  rw [decide_eq_true h1, decide_eq_true h2, decide_eq_true h3] at hR
  simp only [Bool.true_and, Bool.and_true] at hR
  clear h1 h2 h3
  obtain ⟨b1, hb1⟩ : ∃ b, b = sideB had xb := ⟨_, rfl⟩
  obtain ⟨b2, hb2⟩ : ∃ b, b = sideB has xa := ⟨_, rfl⟩
  rw [← hb1, ← hb2] at hR
  have hc1 := fun w => side_any had xb w
  have hc2 := fun w => side_any has xa w
  rw [← hb1] at hc1
  rw [← hb2] at hc2
  obtain ⟨o, ho⟩ : ∃ o, o = (had || has) := ⟨_, rfl⟩
  rw [← ho] at hR
  have HC1 := Lib.hid hc1
  have HC2 := Lib.hid hc2
  have HR := Lib.hid hR
  clear hb1 hb2 hc1 hc2 hR
  cases o with
  | false =>
    obtain ⟨rfl, rfl⟩ : had = false ∧ has = false := by cases had <;> cases has <;> first | exact ⟨rfl, rfl⟩ | cases ho
    clear ho
    go_enter Try.func32, Try.ntmps32
    go_wp2
    go_ret
    rw [HR.out]
    exact ⟨rfl, (Below.refl _ _).alloc (Nat.le_refl _) _⟩
  | true =>
    cases b1 with
    | false =>
      cases had with
      | false =>
        obtain rfl : has = true := by cases has <;> first | rfl | cases ho
        clear ho
        go_enter Try.func32, Try.ntmps32
        go_wp2_with fail
        refine (HC1.out _).mono ?_
        rintro e w1 ⟨rfl, hb⟩
        have HB := Lib.hid (below1 hb)
        clear hb
        go_wp2
        go_ret
        rw [HR.out]
        exact ⟨rfl, HB.out⟩
      | true =>
        clear ho
        go_enter Try.func32, Try.ntmps32
        go_wp2_with fail
        refine (HC1.out _).mono ?_
        rintro e w1 ⟨rfl, hb⟩
        have HB := Lib.hid (below1 hb)
        clear hb
        go_wp2
        go_ret
        rw [HR.out]
        exact ⟨rfl, HB.out⟩
    | true =>
      cases had with
      | false =>
        obtain rfl : has = true := by cases has <;> first | rfl | cases ho
        clear ho
        go_enter Try.func32, Try.ntmps32
        go_wp2_with fail
        refine (HC1.out _).mono ?_
        rintro e w1 ⟨rfl, hb⟩
        obtain ⟨c0, c1, c2, c3, c4, c5⟩ : _ ∧ _ ∧ _ ∧ _ ∧ _ ∧ _ := let hx := (Box.fresh w 55 #[.int .i64 s, .string k, .bool false, .string xb, .bool true, .string xa]).on hb; ⟨hx.cell 0 rfl, hx.cell 1 rfl, hx.cell 2 rfl, hx.cell 3 rfl, hx.cell 4 rfl, hx.cell 5 rfl⟩
        have HB := Lib.hid (below1 hb)
        clear hb
        go_wp2_with fail
        refine (HC2.out _).mono ?_
        rintro e w2 ⟨rfl, hb⟩
        have HB2 := Lib.hid (HB.out.trans (hb.mono HB.out.size))
        clear hb
        go_wp2
        go_ret
        rw [HR.out]
        exact ⟨rfl, HB2.out⟩
      | true =>
        clear ho
        go_enter Try.func32, Try.ntmps32
        go_wp2_with fail
        refine (HC1.out _).mono ?_
        rintro e w1 ⟨rfl, hb⟩
        obtain ⟨c0, c1, c2, c3, c4, c5⟩ : _ ∧ _ ∧ _ ∧ _ ∧ _ ∧ _ := let hx := (Box.fresh w 55 #[.int .i64 s, .string k, .bool true, .string xb, .bool has, .string xa]).on hb; ⟨hx.cell 0 rfl, hx.cell 1 rfl, hx.cell 2 rfl, hx.cell 3 rfl, hx.cell 4 rfl, hx.cell 5 rfl⟩
        have HB := Lib.hid (below1 hb)
        clear hb
        go_wp2_with fail
        refine (HC2.out _).mono ?_
        rintro e w2 ⟨rfl, hb⟩
        have HB2 := Lib.hid (HB.out.trans (hb.mono HB.out.size))
        clear hb
        go_wp2
        go_ret
        rw [HR.out]
        exact ⟨rfl, HB2.out⟩

theorem may_in {s : Int} {k : ByteArray} {had : Bool} {xb : ByteArray} {has : Bool} {xa : ByteArray} (h1 : 1 ≤ s) (h2 : s ≤ 2147483647) (h3 : k.size ≤ 16) (h4 : xb.size ≤ 32) (h5 : xa.size ≤ 32) :
    mayC ⟨s, k, had, xb, has, xa⟩ = ((had || has) && (had || xb.toList.isEmpty) && (has || xa.toList.isEmpty)) := by
  rw [may_parts, decide_eq_true h1, decide_eq_true h2, decide_eq_true h3, str_empty, str_empty]
  unfold sideB
  rw [decide_eq_true h4, decide_eq_true h5]
  cases had <;> cases has <;> simp

end Go.Proofs.Ytgpjbajfkagdbaa

namespace Go.Proofs.Ytgpjbajfkagdbaa

/-- Pairs with a key just so. -/
def setL (l : List Pr) (k : ByteArray) (o : Option ByteArray) : List Pr := (l.filter fun p => decide (p.k < k)) ++ pairOf k o ++ (l.filter fun p => decide (k < p.k))
theorem getL_set (l : List Pr) (k : ByteArray) (o : Option ByteArray) (j : ByteArray) : getL (setL l k o) j = if k = j then o else getL l j := by
  unfold setL
  rw [getL_append, getL_append, getL_filter (fun x => decide (x < k)), getL_filter (fun x => decide (k < x)), getL_pair]
  by_cases h : k = j
  · subst h
    have h1 : ¬ k < k := by grind
    simp [h1]
  · rw [if_neg h, if_neg h]
    by_cases h1 : j < k
    · have h2 : ¬ k < j := by grind
      simp [h1, h2]
    · have h2 : k < j := by grind
      simp [h1, h2]
theorem sorted_set {l : List Pr} (h : Sorted l) (k : ByteArray) (o : Option ByteArray) : Sorted (setL l k o) := by
  unfold setL Sorted
  rw [List.pairwise_append, List.pairwise_append]
  refine ⟨⟨h.sublist List.filter_sublist, ?_, ?_⟩, h.sublist List.filter_sublist, ?_⟩
  · cases o <;> simp [pairOf]
  · intro a ha b hb
    have hb2 : b.k = k := by
      cases o with
      | none => simp [pairOf] at hb
      | some v => simp [pairOf] at hb; rw [hb]
    have := (List.mem_filter.1 ha).2
    simp only [decide_eq_true_eq] at this
    rw [hb2]; exact this
  · intro a ha b hb
    have hb2 := (List.mem_filter.1 hb).2
    simp only [decide_eq_true_eq] at hb2
    rw [List.mem_append] at ha
    rcases ha with ha | ha
    · have := (List.mem_filter.1 ha).2
      simp only [decide_eq_true_eq] at this
      grind
    · have ha2 : a.k = k := by
        cases o with
        | none => simp [pairOf] at ha
        | some v => simp [pairOf] at ha; rw [ha]
      rw [ha2]; exact hb2
theorem fits_set {l : List Pr} (hf : ∀ p ∈ l, fitsP p = true) {k : ByteArray} {o : Option ByteArray} (hk : k.size ≤ 16) (ho : ∀ v, o = some v → v.size ≤ 32) : ∀ p ∈ setL l k o, fitsP p = true := by
  intro p hp
  unfold setL at hp
  rw [List.mem_append, List.mem_append] at hp
  rcases hp with (hp | hp) | hp
  · exact hf p (List.mem_filter.1 hp).1
  · cases o with
    | none => simp [pairOf] at hp
    | some v => simp [pairOf] at hp; rw [hp]; exact (fitsP_iff _).2 ⟨hk, ho v rfl⟩
  · exact hf p (List.mem_filter.1 hp).1
theorem len_set (l : List Pr) (k : ByteArray) (o : Option ByteArray) : (setL l k o).length ≤ l.length + 1 := by
  have := parts_len l k
  unfold setL
  simp only [List.length_append]
  have : (pairOf k o).length ≤ 1 := by cases o <;> simp [pairOf]
  omega
theorem set_same {l : List Pr} (hs : Sorted l) {k : ByteArray} {o : Option ByteArray} (h : getL l k = o) : setL l k o = l :=
  sorted_ext (sorted_set hs k o) hs fun j => by
    rw [getL_set]
    by_cases e : k = j
    · subst e; rw [if_pos rfl, h]
    · rw [if_neg e]
theorem set_set {l : List Pr} (hs : Sorted l) (k : ByteArray) (o p : Option ByteArray) : setL (setL l k o) k p = setL l k p :=
  sorted_ext (sorted_set (sorted_set hs k o) k p) (sorted_set hs k p) fun j => by
    rw [getL_set, getL_set, getL_set]
    by_cases e : k = j
    · subst e; rw [if_pos rfl, if_pos rfl]
    · rw [if_neg e, if_neg e, if_neg e]

/-! What is ahead of a change, and behind it. -/
def aheadO (c : Ch) : Option ByteArray := if c.had then some c.before else none
def behindO (c : Ch) : Option ByteArray := if c.has then some c.after else none
def turnC (c : Ch) : Ch := ⟨c.seq, c.key, c.has, c.after, c.had, c.before⟩
theorem turn_turn (c : Ch) : turnC (turnC c) = c := rfl
theorem turn_ahead (c : Ch) : aheadO (turnC c) = behindO c := rfl
theorem turn_behind (c : Ch) : behindO (turnC c) = aheadO c := rfl
theorem turn_may (c : Ch) : mayC (turnC c) = mayC c := by
  unfold mayC turnC
  simp only
  rw [Bool.or_comm c.has c.had]
  cases sideB c.had c.before <;> cases sideB c.has c.after <;> simp
theorem side_no {v : ByteArray} (h : sideB false v = true) : v = noB := by
  unfold sideB at h
  simpa using h
theorem may_sides {c : Ch} (h : mayC c = true) : hasOf (aheadO c) = (c.before, c.had) ∧ hasOf (behindO c) = (c.after, c.has) := by
  unfold mayC at h
  simp only [Bool.and_eq_true] at h
  obtain ⟨⟨_, h4⟩, h5⟩ := h
  unfold aheadO behindO
  constructor
  · cases e : c.had with
    | true => rfl
    | false => rw [e] at h4; rw [side_no h4]; rfl
  · cases e : c.has with
    | true => rfl
    | false => rw [e] at h5; rw [side_no h5]; rfl
theorem may_some {c : Ch} (h : mayC c = true) : (∀ v, aheadO c = some v → v.size ≤ 32) ∧ (∀ v, behindO c = some v → v.size ≤ 32) := by
  obtain ⟨_, _, _, h4, h5⟩ := may_of h
  unfold aheadO behindO
  constructor <;> intro v hv
  · cases e : c.had <;> rw [e] at hv <;> simp at hv; rw [← hv]; exact h4
  · cases e : c.has <;> rw [e] at hv <;> simp at hv; rw [← hv]; exact h5

/-- May it be done? -/
def okC (l : List Pr) (c : Ch) : Bool := mayC c && decide (getL l c.key = aheadO c)
theorem okC_iff {l : List Pr} {c : Ch} : okC l c = true ↔ mayC c = true ∧ getL l c.key = aheadO c := by unfold okC; simp
def doC (l : List Pr) (c : Ch) : List Pr := setL l c.key (behindO c)
def doL : List Pr → List Ch → Option (List Pr)
  | l, [] => some l
  | l, c :: cs => if okC l c then doL (doC l c) cs else none
theorem doL_append (l : List Pr) (a b : List Ch) : doL l (a ++ b) = (doL l a).bind fun q => doL q b := by
  induction a generalizing l with
  | nil => rfl
  | cons c a ih =>
    show (if okC l c then doL (doC l c) (a ++ b) else none) = Option.bind (if okC l c then doL (doC l c) a else none) _
    by_cases h : okC l c = true
    · rw [if_pos h, if_pos h, ih]
    · rw [if_neg h, if_neg h]; rfl
theorem doL_snoc (l : List Pr) (a : List Ch) (c : Ch) : doL l (a ++ [c]) = (doL l a).bind fun q => if okC q c then some (doC q c) else none := doL_append l a [c]
/-- What stands well, behind what is done. -/
theorem okC_well {l : List Pr} (hw : wellL l = true) {c : Ch} (h : okC l c = true) : wellL (doC l c) = true := by
  obtain ⟨hm, _⟩ := okC_iff.1 h
  exact well_of (sorted_set (well_sorted hw) _ _) (fits_set (well_fits hw) (may_of hm).2.2.1 (may_some hm).2)
theorem doL_well {l : List Pr} (hw : wellL l = true) {C : List Ch} {q : List Pr} (h : doL l C = some q) : wellL q = true := by
  induction C generalizing l with
  | nil => injection h with h; rw [← h]; exact hw
  | cons c C ih =>
    unfold doL at h
    by_cases e : okC l c = true
    · rw [if_pos e] at h; exact ih (okC_well hw e) h
    · rw [if_neg e] at h; cases h
theorem doL_len {l : List Pr} {C : List Ch} {q : List Pr} (h : doL l C = some q) : q.length ≤ l.length + C.length := by
  induction C generalizing l with
  | nil => injection h with h; rw [← h]; exact Nat.le_refl _
  | cons c C ih =>
    unfold doL at h
    by_cases e : okC l c = true
    · rw [if_pos e] at h
      have h1 := ih h
      have h2 : (doC l c).length ≤ l.length + 1 := len_set _ _ _
      rw [List.length_cons]; omega
    · rw [if_neg e] at h; cases h
/-- A key of which no change is stays. -/
theorem doL_other {l : List Pr} {C : List Ch} {q : List Pr} (h : doL l C = some q) {k : ByteArray} (hk : ∀ c ∈ C, c.key ≠ k) : getL q k = getL l k := by
  induction C generalizing l with
  | nil => injection h with h; rw [h]
  | cons c C ih =>
    unfold doL at h
    by_cases e : okC l c = true
    · rw [if_pos e] at h
      rw [ih h (fun d hd => hk d (by simp [hd])), doC, getL_set, if_neg (hk c (by simp))]
    · rw [if_neg e] at h; cases h

/-! The note that leaves what is behind a change. -/
def noteC (c : Ch) : Nt := if c.has then ⟨1, c.key, c.after, 0⟩ else ⟨2, c.key, noB, 0⟩
theorem noteC_key (c : Ch) : (noteC c).key = c.key := by unfold noteC; split <;> rfl
theorem noteC_right {c : Ch} (h : mayC c = true) : rightN (noteC c) = true := by
  obtain ⟨_, _, h3, _, h5⟩ := may_of h
  rw [rightN_iff]
  unfold noteC
  cases c.has
  · exact ⟨h3, .inr (.inl ⟨rfl, rfl, rfl⟩)⟩
  · exact ⟨h3, .inl ⟨rfl, h5, rfl⟩⟩
theorem noteC_steps (c : Ch) (o : Option ByteArray) : stepsO o [noteC c] = behindO c := by
  unfold noteC behindO
  cases c.has
  · unfold stepsO
    simp only [Bool.false_eq_true, if_false, List.foldl_cons, List.foldl_nil]
    rw [step2 _ _ rfl]; rfl
  · unfold stepsO
    simp only [if_true, List.foldl_cons, List.foldl_nil]
    rw [step1 _ _ rfl]; rfl
theorem oneL_note (l : List Pr) (c : Ch) : oneL l (noteC c) = doC l c := by
  unfold oneL doC setL
  rw [noteC_key, noteC_steps]
theorem fold_notes {l : List Pr} {C : List Ch} {q : List Pr} (h : doL l C = some q) : foldOne l (C.map noteC) = q := by
  induction C generalizing l with
  | nil => injection h
  | cons c C ih =>
    unfold doL at h
    by_cases e : okC l c = true
    · rw [if_pos e] at h
      rw [List.map_cons, foldOne_cons, oneL_note, ih h]
    · rw [if_neg e] at h; cases h
theorem doL_rights {l : List Pr} {C : List Ch} {q : List Pr} (h : doL l C = some q) : ∀ c ∈ C, mayC c = true := by
  induction C generalizing l with
  | nil => intro c hc; cases hc
  | cons c C ih =>
    unfold doL at h
    by_cases e : okC l c = true
    · rw [if_pos e] at h
      intro d hd
      rcases List.mem_cons.1 hd with rfl | hd
      · exact (okC_iff.1 e).1
      · exact ih h d hd
    · rw [if_neg e] at h; cases h
theorem doL_notes {l : List Pr} {C : List Ch} {q : List Pr} (h : doL l C = some q) : (C.map noteC).all rightN = true := by
  rw [List.all_eq_true]
  intro n hn
  obtain ⟨c, hc, rfl⟩ := List.mem_map.1 hn
  exact noteC_right (doL_rights h c hc)

/-! What Do and Undo answer. -/
def walkA (l : List Pr) (C : List Ch) : List Pr := if wellL l then (doL l C).getD l else l
def walkE (l : List Pr) (C : List Ch) : Int := if wellL l && (doL l C).isSome then 0 else 1
def backL (C : List Ch) : List Ch := (C.map turnC).reverse
theorem walk_yes {l : List Pr} {C : List Ch} {q : List Pr} (hw : wellL l = true) (h : doL l C = some q) : walkE l C = 0 ∧ walkA l C = q := by
  unfold walkE walkA
  rw [hw, h]
  exact ⟨rfl, rfl⟩
theorem walk_ok {l : List Pr} {C : List Ch} (h : walkE l C = 0) : wellL l = true ∧ doL l C = some (walkA l C) := by
  unfold walkE at h
  by_cases e : (wellL l && (doL l C).isSome) = true
  · rw [Bool.and_eq_true] at e
    refine ⟨e.1, ?_⟩
    unfold walkA
    rw [if_pos e.1]
    cases hd : doL l C with
    | none => rw [hd] at e; cases e.2
    | some q => rfl
  · rw [if_neg e] at h; cases h
theorem walk_two (l : List Pr) (C : List Ch) : walkE l C = 0 ∨ walkE l C = 1 := by
  unfold walkE
  split <;> simp
theorem walk_no {l : List Pr} {C : List Ch} (h : walkE l C ≠ 0) : walkE l C = 1 ∧ walkA l C = l ∧ (wellL l && (doL l C).isSome) = false := by
  have h2 : (wellL l && (doL l C).isSome) = false := by
    cases e : (wellL l && (doL l C).isSome) with
    | false => rfl
    | true => exfalso; apply h; unfold walkE; rw [e]; rfl
  refine ⟨by unfold walkE; rw [h2]; rfl, ?_, h2⟩
  unfold walkA
  by_cases e : wellL l = true
  · rw [if_pos e]
    rw [e, Bool.true_and] at h2
    cases hd : doL l C with
    | none => rfl
    | some q => rw [hd] at h2; cases h2
  · rw [if_neg e]
theorem walk_len (l : List Pr) (C : List Ch) : (walkA l C).length ≤ l.length + C.length := by
  rcases walk_two l C with h | h
  · exact doL_len (walk_ok h).2
  · rw [(walk_no (by omega)).2.1]; omega
theorem walk_well {l : List Pr} (C : List Ch) (h : wellL l = true) : wellL (walkA l C) = true := by
  rcases walk_two l C with e | e
  · exact doL_well h (walk_ok e).2
  · rw [(walk_no (by omega)).2.1]; exact h

/-- What is done is undone. -/
theorem doL_back {l : List Pr} (hw : wellL l = true) {C : List Ch} {q : List Pr} (h : doL l C = some q) : doL q (backL C) = some l := by
  induction C generalizing l with
  | nil => injection h with h; rw [← h]; rfl
  | cons c C ih =>
    unfold doL at h
    by_cases e : okC l c = true
    · rw [if_pos e] at h
      have h1 := ih (okC_well hw e) h
      have e2 : backL (c :: C) = backL C ++ [turnC c] := by unfold backL; rw [List.map_cons, List.reverse_cons]
      obtain ⟨hm, hg⟩ := okC_iff.1 e
      rw [e2, doL_snoc, h1]
      show (if okC (doC l c) (turnC c) then some (doC (doC l c) (turnC c)) else none) = some l
      have h3 : okC (doC l c) (turnC c) = true := okC_iff.2 ⟨by rw [turn_may]; exact hm, by
        show getL (doC l c) c.key = _
        rw [doC, getL_set, if_pos rfl, turn_ahead]⟩
      rw [if_pos h3]
      show some (setL (setL l c.key (behindO c)) c.key (behindO (turnC c))) = some l
      rw [set_set (well_sorted hw), turn_behind, set_same (well_sorted hw) hg]
    · rw [if_neg e] at h; cases h
theorem back_back (C : List Ch) : backL (backL C) = C := by
  unfold backL
  rw [List.map_reverse, List.reverse_reverse, List.map_map]
  have : (turnC ∘ turnC) = id := by funext c; rfl
  rw [this, List.map_id]
theorem back_len (C : List Ch) : (backL C).length = C.length := by unfold backL; simp

end Go.Proofs.Ytgpjbajfkagdbaa
