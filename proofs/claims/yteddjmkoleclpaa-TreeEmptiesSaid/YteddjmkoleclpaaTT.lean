/- What is told of a tree's nodes, and when they stand well, as the document's functions go through it: plain. Nothing of the program. -/
import Derived.Test.YteddjmkoleclpaaPP
set_option linter.unusedVariables false
set_option linter.unusedSimpArgs false
namespace Go.Proofs.Yteddjmkoleclpaa

/-- What is told of a node. -/
structure In where
  depth : Int
  kids : Int
  low : ByteArray
  notes : List Nt
  pairs : List Pr

/-- The greatest depth of the first k; 0 of none. -/
def deepTo (l : List In) (k : Nat) : Int := (l.take k).foldl (fun n x => if n < x.depth then x.depth else n) 0
def deepI (l : List In) : Int := deepTo l l.length
theorem deep_zero (l : List In) : deepTo l 0 = 0 := by simp [deepTo]
theorem deep_succ {l : List In} {k : Nat} (hk : k < l.length) : deepTo l (k + 1) = if deepTo l k < l[k].depth then l[k].depth else deepTo l k := by
  unfold deepTo
  rw [List.take_succ_eq_append_getElem hk, List.foldl_append]
  rfl
theorem deep_pos (l : List In) (k : Nat) (hk : k ≤ l.length) : 0 ≤ deepTo l k := by
  induction k with
  | zero => rw [deep_zero]; exact Int.le_refl _
  | succ k ih =>
    have := ih (by omega)
    rw [deep_succ (by omega)]
    split <;> omega
theorem deep_le (l : List In) (m : Int) (hm : 0 ≤ m) (h : ∀ x ∈ l, x.depth ≤ m) (k : Nat) (hk : k ≤ l.length) : deepTo l k ≤ m := by
  induction k with
  | zero => rw [deep_zero]; exact hm
  | succ k ih =>
    have := ih (by omega)
    rw [deep_succ (by omega)]
    split
    · exact h _ (List.getElem_mem _)
    · exact this

/-! The place behind a node, and all that is below it. -/
def badKid (l : List In) (kids : Int) (next : Nat) : Bool := match l[next]? with
  | none => false
  | some y => decide (y.kids = 0) && decide (y.pairs.length = 0) && decide (1 < kids)
def kidsF (f : Nat → Option Nat) (bad : Nat → Bool) : Nat → Nat → Option Nat
  | 0, next => some next
  | n + 1, next => if bad next then none else (f next).bind (kidsF f bad n)
def endF (l : List In) (deep : Int) : Nat → Nat → Int → Option Nat
  | 0, _, _ => none
  | f + 1, at_, depth => match l[at_]? with
    | none => none
    | some x =>
      if x.depth ≠ depth then none
      else if x.kids = 0 then (if depth ≠ deep ∨ 4 < x.pairs.length ∨ 0 < x.notes.length then none else some (at_ + 1))
      else if 4 < x.kids ∨ x.kids < 0 ∨ 6 < x.notes.length ∨ 0 < x.pairs.length then none
      else kidsF (fun next => endF l deep f next (depth + 1)) (badKid l x.kids) x.kids.toNat (at_ + 1)
theorem kidsF_le {f : Nat → Option Nat} {bad : Nat → Bool} (hf : ∀ a b, f a = some b → a < b) : ∀ n a b, kidsF f bad n a = some b → a ≤ b := by
  intro n
  induction n with
  | zero => intro a b h; injection h with h; omega
  | succ n ih =>
    intro a b h
    unfold kidsF at h
    split at h
    · cases h
    · cases e : f a with
      | none => rw [e] at h; cases h
      | some c =>
        rw [e] at h
        have h1 := hf a c e
        have h2 := ih c b h
        omega
theorem end_gt (l : List In) (deep : Int) : ∀ f a d b, endF l deep f a d = some b → a < b := by
  intro f
  induction f with
  | zero => intro a d b h; cases h
  | succ f ih =>
    intro a d b h
    unfold endF at h
    split at h
    · cases h
    · split at h
      · cases h
      · split at h
        · split at h
          · cases h
          · injection h with h; omega
        · split at h
          · cases h
          · have := kidsF_le (fun a b h => ih a (d + 1) b h) _ _ _ h
            omega
theorem kids_snoc (f : Nat → Option Nat) (bad : Nat → Bool) : ∀ n a, kidsF f bad (n + 1) a = (kidsF f bad n a).bind fun b => if bad b then none else f b := by
  intro n
  induction n with
  | zero =>
    intro a
    unfold kidsF
    split
    · rename_i h; simp [kidsF, h]
    · rename_i h
      simp [kidsF, h]
  | succ n ih =>
    intro a
    rw [kidsF, kidsF]
    split
    · rfl
    · cases f a with
      | none => rfl
      | some c => exact ih c
theorem kids_none {f : Nat → Option Nat} {bad : Nat → Bool} {a : Nat} : ∀ n k, kidsF f bad n a = none → kidsF f bad (n + k) a = none := by
  intro n k h
  induction k with
  | zero => exact h
  | succ k ih => rw [← Nat.add_assoc, kids_snoc, ih]; rfl
def endI (l : List In) (at_ : Nat) (depth deep : Int) : Option Nat := endF l deep (l.length - at_ + 1) at_ depth

/-! Are a node's keys where they belong? -/
/-- The Low of the first node of those from i on, that is no deeper. -/
def highFrom (l : List In) (d : Int) (i : Nat) : Option ByteArray := ((l.drop i).find? fun x => decide (x.depth ≤ d)).map In.low
def belowH (h : Option ByteArray) (k : ByteArray) : Bool := match h with
  | none => true
  | some b => decide (k < b)
def inLow (low : ByteArray) (h : Option ByteArray) (k : ByteArray) : Bool := !decide (k < low) && belowH h k
def betweenX (x : In) (h : Option ByteArray) : Bool := (x.notes.all fun n => inLow x.low h n.key) && (x.pairs.all fun p => inLow x.low h p.k)
def betweenI (l : List In) (i : Nat) : Bool := match l[i]? with
  | none => true
  | some x => betweenX x (highFrom l x.depth (i + 1))
theorem high_succ {l : List In} {i : Nat} (hi : i < l.length) (d : Int) : highFrom l d i = if l[i].depth ≤ d then some l[i].low else highFrom l d (i + 1) := by
  unfold highFrom
  rw [List.drop_eq_getElem_cons hi, List.find?_cons]
  by_cases h : l[i].depth ≤ d <;> simp [h]
theorem high_end {l : List In} {i : Nat} (hi : l.length ≤ i) (d : Int) : highFrom l d i = none := by
  unfold highFrom
  rw [List.drop_of_length_le hi]; rfl

/-! Do they stand well? -/
def lowBad (a b : In) : Bool := decide (b.low < a.low) || (decide (b.low = a.low) && decide (b.depth ≤ a.depth))
def nodeI (l : List In) (i : Nat) : Bool := match l[i]? with
  | none => true
  | some x => wellN x.notes && wellL x.pairs && betweenI l i && (l.drop (i + 1)).all fun y => !lowBad x y
def firstI (l : List In) : Bool := match l[0]? with
  | none => false
  | some x => decide (x.low = noB)
def wellI (l : List In) : Bool := firstI l && decide (endI l 0 0 (deepI l) = some l.length) && (List.range l.length).all (nodeI l)

/-! Their pairs. -/
def applyN (l : List Pr) (ns : List Nt) : List Pr := if wellL l && ns.all rightN then foldOne l ns else l
def levelTo (l : List In) (d : Int) (out : List Pr) (k : Nat) : List Pr := (l.take k).foldl (fun o x => if x.depth = d then applyN o x.notes else o) out
theorem level_succ {l : List In} {k : Nat} (hk : k < l.length) (d : Int) (out : List Pr) : levelTo l d out (k + 1) = if l[k].depth = d then applyN (levelTo l d out k) l[k].notes else levelTo l d out k := by
  unfold levelTo
  rw [List.take_succ_eq_append_getElem hk, List.foldl_append]
  rfl
def downI (l : List In) (out : List Pr) : Nat → List Pr
  | 0 => out
  | k + 1 => downI l (levelTo l k out l.length) k
def pairsI (l : List In) : List Pr := downI l (l.flatMap In.pairs) (deepI l).toNat.succ

end Go.Proofs.Yteddjmkoleclpaa

namespace Go.Proofs.Yteddjmkoleclpaa

/-- A tree whose leaves lie h below it: a leaf's pairs; or the notes that wait, and the kids, each with its Low. -/
def TrH : Nat → Type
  | 0 => List Pr
  | h + 1 => List Nt × List (ByteArray × TrH h)

/-- What is told of its nodes. -/
def infosH : (h : Nat) → Int → ByteArray → TrH h → List In
  | 0, d, lo, ps => [⟨d, 0, lo, [], ps⟩]
  | h + 1, d, lo, t => ⟨d, t.2.length, lo, t.1, []⟩ :: t.2.flatMap fun k => infosH h (d + 1) k.1 k.2
/-- Its leaves' pairs; all notes that wait, those below first; its pairs. -/
def leavesH : (h : Nat) → TrH h → List Pr
  | 0, ps => ps
  | h + 1, t => t.2.flatMap fun k => leavesH h k.2
def postH : (h : Nat) → TrH h → List Nt
  | 0, _ => []
  | h + 1, t => (t.2.flatMap fun k => postH h k.2) ++ t.1
def pairsH : (h : Nat) → TrH h → List Pr
  | 0, ps => ps
  | h + 1, t => foldOne (t.2.flatMap fun k => pairsH h k.2) t.1
def bareH : (h : Nat) → TrH h → Bool
  | 0, ps => List.isEmpty (α := Pr) ps
  | _ + 1, _ => false

/-- The Low of the first one, or what comes behind all. -/
def nextLo {α : Type} (hi : Option ByteArray) : List (ByteArray × α) → Option ByteArray
  | [] => hi
  | k :: _ => some k.1
def okK {α : Type} (ok : ByteArray → Option ByteArray → α → Prop) (hi : Option ByteArray) : List (ByteArray × α) → Prop
  | [] => True
  | k :: ks => ok k.1 (nextLo hi ks) k.2 ∧ okK ok hi ks
/-- It stands well between these. -/
def okH : (h : Nat) → ByteArray → Option ByteArray → TrH h → Prop
  | 0, lo, hi, ps => wellL ps = true ∧ List.length (α := Pr) ps ≤ 4 ∧ belowH hi lo = true ∧ ∀ p ∈ (show List Pr from ps), inLow lo hi p.k = true
  | h + 1, lo, hi, t => wellN t.1 = true ∧ t.1.length ≤ 6 ∧ belowH hi lo = true ∧ (∀ n ∈ t.1, inLow lo hi n.key = true) ∧ 0 < t.2.length ∧ t.2.length ≤ 4 ∧
      (∀ k ∈ t.2, ¬ k.1 < lo) ∧ okK (okH h) hi t.2 ∧ ∀ k ∈ t.2, bareH h k.2 = true → t.2.length = 1

/-! Keys between. -/
def leO (a b : Option ByteArray) : Prop := match b with
  | none => True
  | some b => match a with
    | none => False
    | some a => a ≤ b
theorem leO_rfl (a : Option ByteArray) : leO a a := by
  cases a with
  | none => trivial
  | some a => show a ≤ a; grind
theorem below_le {a b : Option ByteArray} (h : leO a b) {k : ByteArray} (hk : belowH a k = true) : belowH b k = true := by
  cases b with
  | none => rfl
  | some b =>
    cases a with
    | none => exact h.elim
    | some a =>
      have h1 : a ≤ b := h
      simp only [belowH, decide_eq_true_eq] at hk ⊢
      grind
theorem inLow_le {lo lo' : ByteArray} {a b : Option ByteArray} (h : leO a b) (hl : ¬ lo < lo') {k : ByteArray} (hk : inLow lo a k = true) : inLow lo' b k = true := by
  unfold inLow at *
  rw [Bool.and_eq_true] at *
  refine ⟨?_, below_le h hk.2⟩
  have := hk.1
  simp at this ⊢
  grind
theorem okK_mem {α : Type} {ok : ByteArray → Option ByteArray → α → Prop} {hi : Option ByteArray} (hlo : ∀ lo hi t, ok lo hi t → belowH hi lo = true) : ∀ {ks : List (ByteArray × α)}, okK ok hi ks → (∀ k ∈ ks, ∃ b, ok k.1 b k.2 ∧ leO b hi) ∧ ks.Pairwise (fun a b => a.1 < b.1) ∧ leO (nextLo hi ks) hi
  | [], _ => ⟨fun _ h => (by cases h), .nil, leO_rfl _⟩
  | k :: ks, h => by
    obtain ⟨h1, h2, h3⟩ := okK_mem hlo h.2
    have hb := hlo _ _ _ h.1
    refine ⟨fun x hx => ?_, List.pairwise_cons.2 ⟨fun x hx => ?_, h2⟩, ?_⟩
    · rcases List.mem_cons.1 hx with rfl | hx
      · exact ⟨_, h.1, h3⟩
      · exact h1 x hx
    · cases ks with
      | nil => cases hx
      | cons y ys =>
        simp only [nextLo, belowH, decide_eq_true_eq] at hb
        rcases List.mem_cons.1 hx with rfl | hx
        · exact hb
        · have := (List.pairwise_cons.1 h2).1 x hx
          grind
    · have h4 := below_le h3 hb
      cases hi with
      | none => trivial
      | some b =>
        simp only [belowH, decide_eq_true_eq] at h4
        show k.1 ≤ b
        grind
theorem ok_lo : ∀ (h : Nat) (lo : ByteArray) (hi : Option ByteArray) (t : TrH h), okH h lo hi t → belowH hi lo = true
  | 0, _, _, _, h => h.2.2.1
  | _ + 1, _, _, _, h => h.2.2.1

/-! What of a tree lies where. -/
/-- Each kid's things lie between its Low and the next one's. -/
theorem kids_in {α β : Type} {ok : ByteArray → Option ByteArray → α → Prop} {hi : Option ByteArray} (f : α → List β) (key : β → ByteArray)
    (hlo : ∀ lo hi t, ok lo hi t → belowH hi lo = true) (hf : ∀ lo hi t, ok lo hi t → ∀ x ∈ f t, inLow lo hi (key x) = true) {ks : List (ByteArray × α)} {lo : ByteArray} (hk : okK ok hi ks) (hl : ∀ k ∈ ks, ¬ k.1 < lo) :
    ∀ x ∈ ks.flatMap (fun k => f k.2), inLow lo hi (key x) = true := by
  intro x hx
  obtain ⟨k, hkm, hx⟩ := List.mem_flatMap.1 hx
  obtain ⟨b, h1, h2⟩ := (okK_mem hlo hk).1 k hkm
  exact inLow_le h2 (hl k hkm) (hf _ _ _ h1 x hx)
theorem leaves_in : ∀ (h : Nat) (lo : ByteArray) (hi : Option ByteArray) (t : TrH h), okH h lo hi t → ∀ p ∈ leavesH h t, inLow lo hi p.k = true
  | 0, _, _, _, h => h.2.2.2
  | h + 1, lo, hi, t, hk => kids_in (leavesH h) Pr.k (ok_lo h) (leaves_in h) hk.2.2.2.2.2.2.2.1 hk.2.2.2.2.2.2.1
theorem post_in : ∀ (h : Nat) (lo : ByteArray) (hi : Option ByteArray) (t : TrH h), okH h lo hi t → ∀ n ∈ postH h t, inLow lo hi n.key = true
  | 0, _, _, _, _ => fun n hn => by cases hn
  | h + 1, lo, hi, t, hk => fun n hn => by
    rcases List.mem_append.1 hn with hn | hn
    · exact kids_in (postH h) Nt.key (ok_lo h) (post_in h) hk.2.2.2.2.2.2.2.1 hk.2.2.2.2.2.2.1 n hn
    · exact hk.2.2.2.1 n hn
theorem mem_keys {l : List Pr} {ns : List Nt} {p : Pr} (hp : p ∈ foldOne l ns) (hs : Sorted l) : (∃ q ∈ l, q.k = p.k) ∨ ∃ n ∈ ns, n.key = p.k := by
  obtain ⟨i, hi, e⟩ := List.getElem_of_mem hp
  have h1 := getL_mem (sorted_fold hs ns) i hi
  rw [e, getL_fold] at h1
  cases hf : (ns.filter fun n => decide (n.key = p.k)) with
  | nil =>
    rw [hf, stepsO_nil] at h1
    obtain ⟨j, hj, e2⟩ := getL_some h1
    exact .inl ⟨l[j], List.getElem_mem hj, by rw [e2]⟩
  | cons y t =>
    have h2 : y ∈ ns.filter fun n => decide (n.key = p.k) := by rw [hf]; exact List.mem_cons_self
    obtain ⟨h3, h4⟩ := List.mem_filter.1 h2
    exact .inr ⟨y, h3, by simpa using h4⟩
/-- Things of kids, each kid's sorted, are sorted. -/
theorem kids_sorted {α β : Type} {ok : ByteArray → Option ByteArray → α → Prop} {hi : Option ByteArray} (f : α → List β) (key : β → ByteArray)
    (hlo : ∀ lo hi t, ok lo hi t → belowH hi lo = true) (hf : ∀ lo hi t, ok lo hi t → (∀ x ∈ f t, inLow lo hi (key x) = true) ∧ (f t).Pairwise fun a b => key a < key b) : ∀ {ks : List (ByteArray × α)}, okK ok hi ks →
    (ks.flatMap fun k => f k.2).Pairwise fun a b => key a < key b
  | [], _ => .nil
  | k :: ks, h => by
    rw [List.flatMap_cons, List.pairwise_append]
    refine ⟨(hf _ _ _ h.1).2, kids_sorted f key hlo hf h.2, fun x hx y hy => ?_⟩
    have h1 := (hf _ _ _ h.1).1 x hx
    obtain ⟨k2, hk2, hy⟩ := List.mem_flatMap.1 hy
    obtain ⟨b, h2, _⟩ := (okK_mem hlo h.2).1 k2 hk2
    have h3 := (hf _ _ _ h2).1 y hy
    unfold inLow at h1 h3
    rw [Bool.and_eq_true] at h1 h3
    have h4 := h1.2
    have h5 := h3.1
    cases ks with
    | nil => cases hk2
    | cons z zs =>
      simp only [nextLo, belowH, decide_eq_true_eq] at h4
      simp at h5
      have h6 : ¬ k2.1 < z.1 := by
        rcases List.mem_cons.1 hk2 with rfl | hk2
        · grind
        · have := (List.pairwise_cons.1 (okK_mem hlo h.2).2.1).1 k2 hk2
          grind
      grind
theorem leaves_sorted : ∀ (h : Nat) (lo : ByteArray) (hi : Option ByteArray) (t : TrH h), okH h lo hi t → Sorted (leavesH h t)
  | 0, _, _, _, h => well_sorted h.1
  | h + 1, lo, hi, t, hk => kids_sorted (leavesH h) Pr.k (ok_lo h) (fun lo hi t ht => ⟨leaves_in h lo hi t ht, leaves_sorted h lo hi t ht⟩) hk.2.2.2.2.2.2.2.1

end Go.Proofs.Yteddjmkoleclpaa

namespace Go.Proofs.Yteddjmkoleclpaa

/-! The pairs of a tree are its leaves', with all that waits done, those below first. -/
theorem fold_join {A B : List Pr} {a b : List Nt} (hA : Sorted A) (hB : Sorted B) (h1 : ∀ p ∈ A, ∀ q ∈ B, p.k < q.k) (h2 : ∀ p ∈ A, ∀ n ∈ b, p.k < n.key) (h3 : ∀ n ∈ a, ∀ q ∈ B, n.key < q.k) (h4 : ∀ n ∈ a, ∀ m ∈ b, n.key < m.key) :
    foldOne (A ++ B) (a ++ b) = foldOne A a ++ foldOne B b := by
  refine sorted_ext (sorted_fold (List.pairwise_append.2 ⟨hA, hB, h1⟩) _) (List.pairwise_append.2 ⟨sorted_fold hA _, sorted_fold hB _, fun p hp q hq => ?_⟩) fun k => ?_
  · rcases mem_keys hp hA with ⟨x, hx, e⟩ | ⟨x, hx, e⟩ <;> rcases mem_keys hq hB with ⟨y, hy, f⟩ | ⟨y, hy, f⟩ <;> rw [← e, ← f]
    · exact h1 x hx y hy
    · exact h2 x hx y hy
    · exact h3 x hx y hy
    · exact h4 x hx y hy
  · rw [getL_fold, getL_append, getL_append, getL_fold, getL_fold, List.filter_append]
    by_cases hk : (∃ p ∈ A, p.k = k) ∨ ∃ n ∈ a, n.key = k
    · have e1 : getL B k = none := getL_none fun q hq e => by
        rcases hk with ⟨p, hp, e2⟩ | ⟨n, hn, e2⟩
        · have := h1 p hp q hq; grind
        · have := h3 n hn q hq; grind
      have e2 : (b.filter fun n => decide (n.key = k)) = [] := List.filter_eq_nil_iff.2 fun m hm e => by
        have e := of_decide_eq_true e
        rcases hk with ⟨p, hp, e2⟩ | ⟨n, hn, e2⟩
        · have := h2 p hp m hm; grind
        · have := h4 n hn m hm; grind
      rw [e1, e2, List.append_nil, stepsO_nil, Option.or_none, Option.or_none]
    · have e1 : getL A k = none := getL_none fun p hp e => hk (.inl ⟨p, hp, e⟩)
      have e2 : (a.filter fun n => decide (n.key = k)) = [] := List.filter_eq_nil_iff.2 fun m hm e => hk (.inr ⟨m, hm, of_decide_eq_true e⟩)
      rw [e1, e2, stepsO_nil, List.nil_append, Option.none_or, Option.none_or]
theorem in_apart {a b x y : ByteArray} {hi hi' : Option ByteArray} (hx : inLow a hi x = true) (hy : inLow b hi' y = true) (h : belowH (some b) a = true → leO hi (some b)) (hb : leO hi (some b)) : x < y := by
  unfold inLow at hx hy
  rw [Bool.and_eq_true] at hx hy
  have h1 := below_le hb hx.2
  simp only [belowH, decide_eq_true_eq] at h1
  have h2 := hy.1
  simp at h2
  grind
/-- What lies in a kid is less than what lies in a later one. -/
theorem kid_less {α : Type} {ok : ByteArray → Option ByteArray → α → Prop} {hi : Option ByteArray} (hlo : ∀ lo hi t, ok lo hi t → belowH hi lo = true) {k : ByteArray × α} {ks : List (ByteArray × α)} (h : okK ok hi (k :: ks))
    {k2 : ByteArray × α} (hk2 : k2 ∈ ks) {x y : ByteArray} {b : Option ByteArray} (hx : inLow k.1 (nextLo hi ks) x = true) (hy : inLow k2.1 b y = true) : x < y := by
  unfold inLow at hx hy
  rw [Bool.and_eq_true] at hx hy
  have h4 := hx.2
  have h5 := hy.1
  cases ks with
  | nil => cases hk2
  | cons z zs =>
    simp only [nextLo, belowH, decide_eq_true_eq] at h4
    simp at h5
    have h6 : ¬ k2.1 < z.1 := by
      rcases List.mem_cons.1 hk2 with rfl | hk2
      · grind
      · have := (List.pairwise_cons.1 (okK_mem hlo h.2).2.1).1 k2 hk2
        grind
    grind
theorem pairs_fold : ∀ (h : Nat) (lo : ByteArray) (hi : Option ByteArray) (t : TrH h), okH h lo hi t → pairsH h t = foldOne (leavesH h t) (postH h t)
  | 0, _, _, _, _ => rfl
  | h + 1, lo, hi, t, hk => by
    have hf : ∀ ks : List (ByteArray × TrH h), okK (okH h) hi ks → (ks.flatMap fun k => pairsH h k.2) = foldOne (ks.flatMap fun k => leavesH h k.2) (ks.flatMap fun k => postH h k.2) := by
      intro ks
      induction ks with
      | nil => intro _; rfl
      | cons k ks ih =>
        intro hks
        rw [List.flatMap_cons, List.flatMap_cons, List.flatMap_cons, ih hks.2, pairs_fold h _ _ _ hks.1]
        have hL := leaves_in h _ _ _ hks.1
        have hP := post_in h _ _ _ hks.1
        have hm := (okK_mem (ok_lo h) hks.2).1
        refine (fold_join (leaves_sorted h _ _ _ hks.1) (kids_sorted (leavesH h) Pr.k (ok_lo h) (fun lo hi t ht => ⟨leaves_in h lo hi t ht, leaves_sorted h lo hi t ht⟩) hks.2) ?_ ?_ ?_ ?_).symm
        · intro p hp q hq
          obtain ⟨k2, hk2, hq⟩ := List.mem_flatMap.1 hq
          obtain ⟨b, hb, _⟩ := hm k2 hk2
          exact kid_less (ok_lo h) hks hk2 (hL p hp) (leaves_in h _ _ _ hb q hq)
        · intro p hp q hq
          obtain ⟨k2, hk2, hq⟩ := List.mem_flatMap.1 hq
          obtain ⟨b, hb, _⟩ := hm k2 hk2
          exact kid_less (ok_lo h) hks hk2 (hL p hp) (post_in h _ _ _ hb q hq)
        · intro p hp q hq
          obtain ⟨k2, hk2, hq⟩ := List.mem_flatMap.1 hq
          obtain ⟨b, hb, _⟩ := hm k2 hk2
          exact kid_less (ok_lo h) hks hk2 (hP p hp) (leaves_in h _ _ _ hb q hq)
        · intro p hp q hq
          obtain ⟨k2, hk2, hq⟩ := List.mem_flatMap.1 hq
          obtain ⟨b, hb, _⟩ := hm k2 hk2
          exact kid_less (ok_lo h) hks hk2 (hP p hp) (post_in h _ _ _ hb q hq)
    show foldOne _ _ = foldOne _ (_ ++ _)
    rw [foldOne_append, hf _ hk.2.2.2.2.2.2.2.1]; rfl
theorem post_right : ∀ (h : Nat) (lo : ByteArray) (hi : Option ByteArray) (t : TrH h), okH h lo hi t → ∀ n ∈ postH h t, rightN n = true
  | 0, _, _, _, _ => fun n hn => by cases hn
  | h + 1, lo, hi, t, hk => fun n hn => by
    rcases List.mem_append.1 hn with hn | hn
    · obtain ⟨k, hkm, hn⟩ := List.mem_flatMap.1 hn
      obtain ⟨b, h1, _⟩ := (okK_mem (ok_lo h) hk.2.2.2.2.2.2.2.1).1 k hkm
      exact post_right h _ _ _ h1 n hn
    · exact List.all_eq_true.1 (wellN_right hk.1) n hn
theorem leaves_fits : ∀ (h : Nat) (lo : ByteArray) (hi : Option ByteArray) (t : TrH h), okH h lo hi t → ∀ p ∈ leavesH h t, fitsP p = true
  | 0, _, _, _, hk => well_fits hk.1
  | h + 1, lo, hi, t, hk => fun p hp => by
    obtain ⟨k, hkm, hp⟩ := List.mem_flatMap.1 hp
    obtain ⟨b, h1, _⟩ := (okK_mem (ok_lo h) hk.2.2.2.2.2.2.2.1).1 k hkm
    exact leaves_fits h _ _ _ h1 p hp
theorem leaves_well {h : Nat} {lo : ByteArray} {hi : Option ByteArray} {t : TrH h} (hk : okH h lo hi t) : wellL (leavesH h t) = true := well_of (leaves_sorted h lo hi t hk) (leaves_fits h lo hi t hk)
theorem pairs_well {h : Nat} {lo : ByteArray} {hi : Option ByteArray} {t : TrH h} (hk : okH h lo hi t) : wellL (pairsH h t) = true := by
  rw [pairs_fold h lo hi t hk]
  exact well_fold (leaves_well hk) (post_right h lo hi t hk)

/-! Level by level. -/
def lev (l : List In) (d : Int) : List Nt := (l.filter fun x => decide (x.depth = d)).flatMap In.notes
/-- Those of the n levels from a on, the deepest first. -/
def downs (l : List In) (a : Int) : Nat → List Nt
  | 0 => []
  | n + 1 => lev l (a + n) ++ downs l a n
theorem lev_append (a b : List In) (d : Int) : lev (a ++ b) d = lev a d ++ lev b d := by unfold lev; rw [List.filter_append, List.flatMap_append]
theorem lev_none {l : List In} {d : Int} (h : ∀ x ∈ l, x.depth ≠ d) : lev l d = [] := by
  unfold lev
  rw [List.filter_eq_nil_iff.2 fun x hx => by simpa using h x hx]; rfl
theorem lev_mem {l : List In} {d : Int} {n : Nt} (h : n ∈ lev l d) : ∃ x ∈ l, n ∈ x.notes := by
  obtain ⟨x, hx, hn⟩ := List.mem_flatMap.1 h
  exact ⟨x, (List.mem_filter.1 hx).1, hn⟩
theorem downs_mem {l : List In} {a : Int} {n : Nt} : ∀ {m : Nat}, n ∈ downs l a m → ∃ x ∈ l, n ∈ x.notes
  | 0, h => by cases h
  | m + 1, h => by
    rcases List.mem_append.1 h with h | h
    · exact lev_mem h
    · exact downs_mem h
theorem downs_apart {A B : List In} (h : ∀ x ∈ A, ∀ y ∈ B, ∀ n ∈ x.notes, ∀ m ∈ y.notes, n.key ≠ m.key) (a : Int) : ∀ m, StEq (downs (A ++ B) a m) (downs A a m ++ downs B a m)
  | 0 => StEq.rfl' _
  | m + 1 => by
    show StEq (lev (A ++ B) _ ++ downs (A ++ B) a m) ((lev A _ ++ downs A a m) ++ (lev B _ ++ downs B a m))
    rw [lev_append]
    refine ((StEq.rfl' _).app (downs_apart h a m)).trans ?_
    have e1 : ∀ P Q R S : List Nt, P ++ Q ++ (R ++ S) = P ++ (Q ++ R) ++ S := fun P Q R S => by simp
    have e2 : ∀ P Q R S : List Nt, P ++ R ++ (Q ++ S) = P ++ (R ++ Q) ++ S := fun P Q R S => by simp
    rw [e1, e2]
    refine ((StEq.rfl' _).app (StEq.swap fun n hn k hk => ?_)).app (StEq.rfl' _)
    obtain ⟨y, hy, hn⟩ := lev_mem hn
    obtain ⟨x, hx, hk⟩ := downs_mem hk
    exact (h x hx y hy k hk n hn).symm
theorem infos_depth : ∀ (h : Nat) (d : Int) (lo : ByteArray) (t : TrH h), ∀ x ∈ infosH h d lo t, d ≤ x.depth ∧ x.depth ≤ d + h
  | 0, d, lo, t, x, hx => by
    simp [infosH] at hx
    subst hx
    exact ⟨Int.le_refl _, by simp⟩
  | h + 1, d, lo, t, x, hx => by
    rcases List.mem_cons.1 hx with rfl | hx
    · exact ⟨Int.le_refl _, by simp; omega⟩
    · obtain ⟨k, _, hx⟩ := List.mem_flatMap.1 hx
      have := infos_depth h (d + 1) k.1 k.2 x hx
      exact ⟨by omega, by push_cast; omega⟩
theorem infos_notes : ∀ (h : Nat) (d : Int) (lo : ByteArray) (t : TrH h), ∀ x ∈ infosH h d lo t, ∀ n ∈ x.notes, n ∈ postH h t
  | 0, d, lo, t, x, hx, n, hn => by
    simp [infosH] at hx
    subst hx
    cases hn
  | h + 1, d, lo, t, x, hx, n, hn => by
    rcases List.mem_cons.1 hx with rfl | hx
    · exact List.mem_append_right _ hn
    · obtain ⟨k, hk, hx⟩ := List.mem_flatMap.1 hx
      exact List.mem_append_left _ (List.mem_flatMap.2 ⟨k, hk, infos_notes h (d + 1) k.1 k.2 x hx n hn⟩)
theorem downs_shift (x : In) (l : List In) (d : Int) (hx : x.depth = d) (hl : ∀ y ∈ l, d < y.depth) : ∀ m, downs (x :: l) d (m + 1) = downs l (d + 1) m ++ x.notes
  | 0 => by
    show lev (x :: l) (d + 0) ++ [] = [] ++ x.notes
    rw [List.append_nil, List.nil_append, Int.add_zero, show x :: l = [x] ++ l from rfl, lev_append, lev_none (l := l) fun y hy => by have := hl y hy; omega, List.append_nil]
    unfold lev
    simp [hx]
  | m + 1 => by
    show lev (x :: l) (d + ((m + 1 : Nat) : Int)) ++ downs (x :: l) d (m + 1) = (lev l (d + 1 + (m : Int)) ++ downs l (d + 1) m) ++ x.notes
    rw [downs_shift x l d hx hl m, show x :: l = [x] ++ l from rfl, lev_append, lev_none (l := [x]) fun y hy => by simp at hy; subst hy; omega, List.nil_append, List.append_assoc]
    congr 2
    push_cast
    omega
theorem downs_post : ∀ (h : Nat) (d : Int) (lo : ByteArray) (hi : Option ByteArray) (t : TrH h), okH h lo hi t → StEq (downs (infosH h d lo t) d (h + 1)) (postH h t)
  | 0, d, lo, hi, t, _ => by
    have e : downs (infosH 0 d lo t) d 1 = [] := by
      show lev _ _ ++ [] = []
      simp [lev, infosH]
    rw [e]
    exact StEq.rfl' _
  | h + 1, d, lo, hi, t, hk => by
    have hf : ∀ ks : List (ByteArray × TrH h), okK (okH h) hi ks → StEq (downs (ks.flatMap fun k => infosH h (d + 1) k.1 k.2) (d + 1) (h + 1)) (ks.flatMap fun k => postH h k.2) := by
      intro ks
      induction ks with
      | nil =>
        intro _
        have e : ∀ m, downs [] (d + 1) m = [] := by
          intro m
          induction m with
          | zero => rfl
          | succ m ih => show lev [] _ ++ _ = []; rw [ih]; rfl
        show StEq (downs [] _ _) []
        rw [e]
        exact StEq.rfl' _
      | cons k ks ih =>
        intro hks
        rw [List.flatMap_cons, List.flatMap_cons]
        refine (downs_apart (fun x hx y hy n hn m hm => ?_) (d + 1) (h + 1)).trans ((downs_post h (d + 1) _ _ _ hks.1).app (ih hks.2))
        obtain ⟨k2, hk2, hy⟩ := List.mem_flatMap.1 hy
        obtain ⟨b, hb, _⟩ := (okK_mem (ok_lo h) hks.2).1 k2 hk2
        have h1 := post_in h _ _ _ hks.1 n (infos_notes h _ _ _ x hx n hn)
        have h2 := post_in h _ _ _ hb m (infos_notes h _ _ _ y hy m hm)
        have h3 := kid_less (ok_lo h) hks hk2 h1 h2
        intro e
        rw [e] at h3
        grind
    have e1 : downs (infosH (h + 1) d lo t) d (h + 1 + 1) = downs (t.2.flatMap fun k => infosH h (d + 1) k.1 k.2) (d + 1) (h + 1) ++ t.1 :=
      downs_shift ⟨d, t.2.length, lo, t.1, []⟩ _ d rfl (fun y hy => by
        obtain ⟨k, _, hy⟩ := List.mem_flatMap.1 hy
        have := infos_depth h (d + 1) k.1 k.2 y hy
        omega) (h + 1)
    rw [e1]
    exact (hf _ hk.2.2.2.2.2.2.2.1).app (StEq.rfl' _)
theorem infos_pairs : ∀ (h : Nat) (d : Int) (lo : ByteArray) (t : TrH h), (infosH h d lo t).flatMap In.pairs = leavesH h t
  | 0, d, lo, t => List.append_nil (show List Pr from t)
  | h + 1, d, lo, t => by
    show [] ++ (t.2.flatMap fun k => infosH h (d + 1) k.1 k.2).flatMap In.pairs = t.2.flatMap fun k => leavesH h k.2
    rw [List.nil_append]
    generalize t.2 = ks
    induction ks with
    | nil => rfl
    | cons k ks ih => rw [List.flatMap_cons, List.flatMap_append, ih, infos_pairs h (d + 1) k.1 k.2, List.flatMap_cons]
theorem level_fold {l : List In} {d : Int} (hr : ∀ x ∈ l, ∀ n ∈ x.notes, rightN n = true) {out : List Pr} (hw : wellL out = true) : ∀ k, k ≤ l.length → levelTo l d out k = foldOne out (lev (l.take k) d) ∧ wellL (levelTo l d out k) = true
  | 0, _ => ⟨by simp [levelTo, lev]; rfl, by simpa [levelTo] using hw⟩
  | k + 1, hk => by
    obtain ⟨h1, h2⟩ := level_fold hr hw k (by omega)
    have hkl : k < l.length := by omega
    have hrn : ∀ n ∈ l[k].notes, rightN n = true := hr l[k] (List.getElem_mem _)
    rw [level_succ hkl, List.take_succ_eq_append_getElem hkl, lev_append]
    by_cases hd : l[k].depth = d
    · have e1 : lev [l[k]] d = l[k].notes := by simp [lev, hd]
      have e2 : applyN (levelTo l d out k) l[k].notes = foldOne (levelTo l d out k) l[k].notes := by
        unfold applyN
        rw [h2, List.all_eq_true.2 hrn]; rfl
      rw [if_pos hd, e1, e2, foldOne_append, ← h1]
      exact ⟨rfl, well_fold h2 hrn⟩
    · have e1 : lev [l[k]] d = [] := by simp [lev, hd]
      rw [if_neg hd, e1, List.append_nil]
      exact ⟨h1, h2⟩
theorem down_fold {l : List In} (hr : ∀ x ∈ l, ∀ n ∈ x.notes, rightN n = true) : ∀ (m : Nat) (out : List Pr), wellL out = true → downI l out m = foldOne out (downs l 0 m)
  | 0, _, _ => rfl
  | m + 1, out, hw => by
    obtain ⟨h1, h2⟩ := level_fold (d := (m : Int)) hr hw l.length (Nat.le_refl _)
    rw [List.take_length] at h1
    show downI l (levelTo l m out l.length) m = foldOne out (lev l (0 + (m : Int)) ++ downs l 0 m)
    rw [down_fold hr m _ h2, h1, foldOne_append, Int.zero_add]
theorem deep_ge (l : List In) : ∀ k, k ≤ l.length → ∀ x ∈ l.take k, x.depth ≤ deepTo l k
  | 0, _, x, hx => by simp at hx
  | k + 1, hk, x, hx => by
    have hkl : k < l.length := by omega
    rw [deep_succ hkl]
    rw [List.take_succ_eq_append_getElem hkl] at hx
    rcases List.mem_append.1 hx with hx | hx
    · have := deep_ge l k (by omega) x hx
      split <;> omega
    · simp at hx
      subst hx
      split <;> omega
theorem infos_deep : ∀ (h : Nat) (d : Int) (lo : ByteArray) (hi : Option ByteArray) (t : TrH h), okH h lo hi t → ∃ x ∈ infosH h d lo t, x.depth = d + h
  | 0, d, lo, hi, t, _ => ⟨_, List.mem_singleton.2 rfl, by simp⟩
  | h + 1, d, lo, hi, t, hk => by
    obtain ⟨k, hkm⟩ := List.exists_mem_of_length_pos hk.2.2.2.2.1
    obtain ⟨b, h1, _⟩ := (okK_mem (ok_lo h) hk.2.2.2.2.2.2.2.1).1 k hkm
    obtain ⟨x, hx, e⟩ := infos_deep h (d + 1) _ _ _ h1
    exact ⟨x, List.mem_cons_of_mem _ (List.mem_flatMap.2 ⟨k, hkm, hx⟩), by rw [e]; push_cast; omega⟩
theorem deep_infos {h : Nat} {lo : ByteArray} {hi : Option ByteArray} {t : TrH h} (hk : okH h lo hi t) : deepI (infosH h 0 lo t) = h := by
  have h1 : deepI (infosH h 0 lo t) ≤ h := deep_le _ h (by omega) (fun x hx => by have := infos_depth h 0 lo t x hx; omega) _ (Nat.le_refl _)
  obtain ⟨x, hx, e⟩ := infos_deep h 0 lo hi t hk
  have h2 := deep_ge (infosH h 0 lo t) _ (Nat.le_refl _) x (by rw [List.take_length]; exact hx)
  unfold deepI at h1 ⊢
  omega
/-- What is told of a tree's nodes has the tree's pairs. -/
theorem pairs_infos {h : Nat} {lo : ByteArray} {hi : Option ByteArray} {t : TrH h} (hk : okH h lo hi t) : pairsI (infosH h 0 lo t) = pairsH h t := by
  unfold pairsI
  rw [infos_pairs, deep_infos hk, down_fold (fun x hx n hn => post_right h lo hi t hk n (infos_notes h 0 lo t x hx n hn)) _ _ (leaves_well hk), pairs_fold h lo hi t hk]
  exact fold_steq (leaves_sorted h lo hi t hk) (downs_post h 0 lo hi t hk)

end Go.Proofs.Yteddjmkoleclpaa

namespace Go.Proofs.Yteddjmkoleclpaa

/-! Node by node, each with what comes behind it. -/
def highL (l : List In) (d : Int) : Option ByteArray := (l.find? fun x => decide (x.depth ≤ d)).map In.low
def nodeQ (x : In) (rest : List In) : Bool := wellN x.notes && wellL x.pairs && betweenX x (highL rest x.depth) && rest.all fun y => !lowBad x y
def allQ : List In → List In → Prop
  | [], _ => True
  | x :: A, post => nodeQ x (A ++ post) = true ∧ allQ A post
theorem allQ_append : ∀ (A B post : List In), allQ (A ++ B) post ↔ allQ A (B ++ post) ∧ allQ B post
  | [], B, post => by simp [allQ]
  | x :: A, B, post => by
    show nodeQ x ((A ++ B) ++ post) = true ∧ allQ (A ++ B) post ↔ (nodeQ x (A ++ (B ++ post)) = true ∧ allQ A (B ++ post)) ∧ allQ B post
    rw [allQ_append A B post, List.append_assoc, and_assoc]
theorem allQ_at : ∀ {l post : List In}, allQ l post → ∀ i (hi : i < l.length), nodeQ l[i] (l.drop (i + 1) ++ post) = true
  | x :: A, post, h, 0, _ => h.1
  | x :: A, post, h, i + 1, hi => by simpa using allQ_at h.2 i (by simpa using hi)
theorem allQ_nodes {l : List In} (h : allQ l []) : (List.range l.length).all (nodeI l) = true := by
  rw [List.all_eq_true]
  intro i hi
  have hi : i < l.length := by simpa using hi
  have h1 := allQ_at h i hi
  rw [List.append_nil] at h1
  unfold nodeI betweenI
  rw [List.getElem?_eq_getElem hi]
  exact h1

/-! A tree's nodes. -/
theorem infos_first : ∀ (h : Nat) (d : Int) (lo : ByteArray) (t : TrH h), ∃ x r, infosH h d lo t = x :: r ∧ x.depth = d ∧ x.low = lo ∧ (∀ y ∈ r, d < y.depth)
  | 0, d, lo, t => ⟨_, [], rfl, rfl, rfl, fun y hy => by cases hy⟩
  | h + 1, d, lo, t => ⟨_, _, rfl, rfl, rfl, fun y hy => by
      obtain ⟨k, _, hy⟩ := List.mem_flatMap.1 hy
      have := infos_depth h (d + 1) k.1 k.2 y hy
      omega⟩
theorem infos_lows : ∀ (h : Nat) (d : Int) (lo : ByteArray) (hi : Option ByteArray) (t : TrH h), okH h lo hi t → ∀ x ∈ infosH h d lo t, inLow lo hi x.low = true
  | 0, d, lo, hi, t, hk, x, hx => by
    have e : x.low = lo := by simp [infosH] at hx; rw [hx]
    rw [e]
    unfold inLow
    rw [hk.2.2.1, Bool.and_true]
    simp; grind
  | h + 1, d, lo, hi, t, hk, x, hx => by
    rcases List.mem_cons.1 hx with rfl | hx
    · unfold inLow
      rw [hk.2.2.1, Bool.and_true]
      simp; grind
    · obtain ⟨k, hkm, hx⟩ := List.mem_flatMap.1 hx
      obtain ⟨b, h1, h2⟩ := (okK_mem (ok_lo h) hk.2.2.2.2.2.2.2.1).1 k hkm
      exact inLow_le h2 (hk.2.2.2.2.2.2.1 k hkm) (infos_lows h (d + 1) k.1 b k.2 h1 x hx)

/-- What comes behind: nothing, or first a node that is no deeper, whose Low ends it; all Lows there are not less. -/
def ctxT (d : Int) (hi : Option ByteArray) (post : List In) : Prop := highL post d = hi ∧ (∀ y r, post = y :: r → y.depth ≤ d) ∧ ∀ y ∈ post, ∃ b, hi = some b ∧ ¬ y.low < b
theorem high_skip {A : List In} {d : Int} (h : ∀ y ∈ A, d < y.depth) (post : List In) : highL (A ++ post) d = highL post d := by
  unfold highL
  rw [List.find?_append, List.find?_eq_none.2 fun y hy => by have := h y hy; simp; omega, Option.none_or]
theorem ctx_deeper {d : Int} {hi : Option ByteArray} {post : List In} (h : ctxT d hi post) : ctxT (d + 1) hi post := by
  obtain ⟨h1, h2, h3⟩ := h
  refine ⟨?_, fun y r e => by have := h2 y r e; omega, h3⟩
  cases post with
  | nil => exact h1
  | cons y r =>
    have hd := h2 y r rfl
    unfold highL at h1 ⊢
    rw [List.find?_cons_of_pos (by simpa using hd)] at h1
    rw [List.find?_cons_of_pos (by simp; omega)]
    exact h1
theorem ctx_next {h : Nat} {d : Int} {hi : Option ByteArray} {k : ByteArray × TrH h} {ks : List (ByteArray × TrH h)} {post : List In} (hks : okK (okH h) hi (k :: ks)) (hc : ctxT d hi post) : ctxT d (some k.1) (((k :: ks).flatMap fun k => infosH h d k.1 k.2) ++ post) := by
  obtain ⟨x, r, e, hx, hl, _⟩ := infos_first h d k.1 k.2
  have hm := okK_mem (ok_lo h) hks
  have hbl := ok_lo h _ _ _ hks.1
  refine ⟨?_, fun y r' e2 => ?_, fun y hy => ⟨k.1, rfl, ?_⟩⟩
  · unfold highL
    rw [List.flatMap_cons, e, List.cons_append, List.cons_append, List.find?_cons_of_pos (by simp; omega)]
    simp [hl]
  · rw [List.flatMap_cons, e, List.cons_append, List.cons_append] at e2
    injection e2 with e2
    rw [← e2]; omega
  · rcases List.mem_append.1 hy with hy | hy
    · obtain ⟨k2, hk2, hy⟩ := List.mem_flatMap.1 hy
      obtain ⟨b, hb, _⟩ := hm.1 k2 hk2
      have h1 := infos_lows h d _ _ _ hb y hy
      unfold inLow at h1
      rw [Bool.and_eq_true] at h1
      have h2 := h1.1
      simp at h2
      have h3 : ¬ k2.1 < k.1 := by
        rcases List.mem_cons.1 hk2 with rfl | hk2
        · grind
        · have := (List.pairwise_cons.1 hm.2.1).1 k2 hk2
          grind
      grind
    · obtain ⟨b, hb, hyb⟩ := hc.2.2 y hy
      have h4 := below_le (okK_mem (ok_lo h) hks.2).2.2 hbl
      rw [hb] at h4
      simp only [belowH, decide_eq_true_eq] at h4
      grind
theorem ctx_kid {h : Nat} {d : Int} {hi : Option ByteArray} {ks : List (ByteArray × TrH h)} {post : List In} (hks : okK (okH h) hi ks) (hc : ctxT d hi post) : ctxT d (nextLo hi ks) ((ks.flatMap fun k => infosH h d k.1 k.2) ++ post) := by
  cases ks with
  | nil => exact hc
  | cons k ks => exact ctx_next hks hc
theorem low_good {x y : In} (h : x.low < y.low ∨ x.low = y.low ∧ x.depth < y.depth) : lowBad x y = false := by
  unfold lowBad
  rw [Bool.or_eq_false_iff, Bool.and_eq_false_iff]
  rcases h with h | ⟨h1, h2⟩
  · refine ⟨by simp; grind, .inl (by simp; grind)⟩
  · refine ⟨by simp; grind, .inr (by simp; omega)⟩
/-- A node that ends where what comes behind begins. -/
theorem low_post {x : In} {d : Int} {hi : Option ByteArray} {post : List In} (hc : ctxT d hi post) (hx : belowH hi x.low = true) : ∀ y ∈ post, lowBad x y = false := by
  intro y hy
  obtain ⟨b, hb, hyb⟩ := hc.2.2 y hy
  rw [hb] at hx
  simp only [belowH, decide_eq_true_eq] at hx
  exact low_good (.inl (by grind))
theorem leaf_node {d : Int} {lo : ByteArray} {hi : Option ByteArray} {ps : List Pr} {post : List In} (hw : wellL ps = true) (hb : belowH hi lo = true) (hin : ∀ p ∈ ps, inLow lo hi p.k = true) (hc : ctxT d hi post) : nodeQ ⟨d, 0, lo, [], ps⟩ post = true := by
  unfold nodeQ betweenX
  simp only [Bool.and_eq_true, List.all_eq_true]
  refine ⟨⟨⟨rfl, hw⟩, fun n hn => (by cases hn), fun p hp => ?_⟩, fun y hy => ?_⟩
  · rw [hc.1]; exact hin p hp
  · rw [low_post hc hb y hy]; rfl
theorem bare_nil {ps : List Pr} (h : ps.length = 0) : ps.isEmpty = true := List.isEmpty_iff.2 (List.length_eq_zero_iff.1 h)
theorem infos_all : ∀ (h : Nat) (d : Int) (lo : ByteArray) (hi : Option ByteArray) (t : TrH h), okH h lo hi t → ∀ post, ctxT d hi post → allQ (infosH h d lo t) post
  | 0, d, lo, hi, t, hk, post, hc => by
    exact ⟨leaf_node hk.1 hk.2.2.1 hk.2.2.2 hc, trivial⟩
  | h + 1, d, lo, hi, t, hk, post, hc => by
    obtain ⟨hwn, hn6, hbl, hnin, hk0, hk4, hkl, hkk, hbare⟩ := hk
    have hF : ∀ y ∈ (t.2.flatMap fun k => infosH h (d + 1) k.1 k.2), d < y.depth := fun y hy => by
      obtain ⟨k, _, hy⟩ := List.mem_flatMap.1 hy
      have := infos_depth h (d + 1) k.1 k.2 y hy
      omega
    have hf : ∀ ks : List (ByteArray × TrH h), okK (okH h) hi ks → allQ (ks.flatMap fun k => infosH h (d + 1) k.1 k.2) post := by
      intro ks
      induction ks with
      | nil => intro _; trivial
      | cons k ks ih =>
        intro hks
        rw [List.flatMap_cons, allQ_append]
        exact ⟨infos_all h (d + 1) _ _ _ hks.1 _ (ctx_kid hks.2 (ctx_deeper hc)), ih hks.2⟩
    refine ⟨?_, hf _ hkk⟩
    show nodeQ ⟨d, t.2.length, lo, t.1, []⟩ ((t.2.flatMap fun k => infosH h (d + 1) k.1 k.2) ++ post) = true
    unfold nodeQ betweenX
    simp only [Bool.and_eq_true, List.all_eq_true]
    refine ⟨⟨⟨hwn, rfl⟩, fun n hn => ?_, fun p hp => (by cases hp)⟩, fun y hy => ?_⟩
    · rw [high_skip hF, hc.1]; exact hnin n hn
    · rcases List.mem_append.1 hy with hy | hy
      · obtain ⟨k, hkm, hy2⟩ := List.mem_flatMap.1 hy
        obtain ⟨b, h1, _⟩ := (okK_mem (ok_lo h) hkk).1 k hkm
        have h2 := infos_lows h (d + 1) _ _ _ h1 y hy2
        unfold inLow at h2
        rw [Bool.and_eq_true] at h2
        have h3 := h2.1
        simp at h3
        have h4 := hkl k hkm
        rw [low_good ?_]; rfl
        by_cases e : lo = y.low
        · exact .inr ⟨e, hF y hy⟩
        · exact .inl (by show lo < y.low; grind)
      · rw [low_post hc hbl y hy]; rfl

/-! The place behind a node. -/
theorem infos_len : ∀ (h : Nat) (d : Int) (lo : ByteArray) (hi : Option ByteArray) (t : TrH h), okH h lo hi t → h < (infosH h d lo t).length
  | 0, _, _, _, _, _ => Nat.zero_lt_succ _
  | h + 1, d, lo, hi, t, hk => by
    obtain ⟨k, hkm⟩ := List.exists_mem_of_length_pos hk.2.2.2.2.1
    obtain ⟨b, h1, _⟩ := (okK_mem (ok_lo h) hk.2.2.2.2.2.2.2.1).1 k hkm
    have h2 := infos_len h (d + 1) _ _ _ h1
    obtain ⟨A, B, e⟩ := List.append_of_mem hkm
    show h + 1 < (_ :: (t.2.flatMap fun k => infosH h (d + 1) k.1 k.2)).length
    rw [e, List.flatMap_append, List.flatMap_cons]
    simp
    omega
theorem end_infos : ∀ (h : Nat) (d : Int) (lo : ByteArray) (hi : Option ByteArray) (t : TrH h), okH h lo hi t → ∀ (l pre post : List In) (f : Nat), l = pre ++ infosH h d lo t ++ post → h < f →
    endF l (d + h) f pre.length d = some (pre.length + (infosH h d lo t).length)
  | 0, d, lo, hi, t, hk, l, pre, post, f, e, hf => by
    obtain ⟨f, rfl⟩ : ∃ g, f = g + 1 := ⟨f - 1, by omega⟩
    have hx : l[pre.length]? = some ⟨d, 0, lo, [], t⟩ := by
      rw [e]
      show (pre ++ [_] ++ post)[pre.length]? = _
      rw [List.append_assoc, List.getElem?_append_right (Nat.le_refl _), Nat.sub_self]; rfl
    unfold endF
    rw [hx]
    have h4 := hk.2.1
    simp only [ne_eq, not_true_eq_false, if_false, if_true]
    rw [if_neg]
    · rfl
    · simp; exact h4
  | h + 1, d, lo, hi, t, hk, l, pre, post, f, e, hf => by
    obtain ⟨hwn, hn6, hbl, hnin, hk0, hk4, hkl, hkk, hbare⟩ := hk
    obtain ⟨f, rfl⟩ : ∃ g, f = g + 1 := ⟨f - 1, by omega⟩
    have hx : l[pre.length]? = some ⟨d, t.2.length, lo, t.1, []⟩ := by
      rw [e]
      show (pre ++ (_ :: _) ++ post)[pre.length]? = _
      rw [List.append_assoc, List.getElem?_append_right (Nat.le_refl _), Nat.sub_self]; rfl
    have hg : ∀ (ks : List (ByteArray × TrH h)), okK (okH h) hi ks → (∀ k ∈ ks, bareH h k.2 = true → t.2.length = 1) → ∀ (pre' post' : List In), l = pre' ++ (ks.flatMap fun k => infosH h (d + 1) k.1 k.2) ++ post' →
        kidsF (fun next => endF l (d + ((h + 1 : Nat) : Int)) f next (d + 1)) (badKid l t.2.length) ks.length pre'.length = some (pre'.length + (ks.flatMap fun k => infosH h (d + 1) k.1 k.2).length) := by
      intro ks
      induction ks with
      | nil => intro _ _ pre' post' _; rfl
      | cons k ks ih =>
        intro hks hb pre' post' e2
        rw [List.flatMap_cons] at e2 ⊢
        have e3 : l = pre' ++ infosH h (d + 1) k.1 k.2 ++ ((ks.flatMap fun k => infosH h (d + 1) k.1 k.2) ++ post') := by rw [e2]; simp
        have e4 : l = (pre' ++ infosH h (d + 1) k.1 k.2) ++ (ks.flatMap fun k => infosH h (d + 1) k.1 k.2) ++ post' := by rw [e2]; simp
        have h1 := end_infos h (d + 1) _ _ _ hks.1 l pre' _ f e3 (by omega)
        have h2 := ih hks.2 (fun x hx => hb x (List.mem_cons_of_mem _ hx)) _ post' e4
        have hde : d + 1 + (h : Int) = d + ((h + 1 : Nat) : Int) := by push_cast; omega
        rw [hde] at h1
        have hbad : badKid l t.2.length pre'.length = false := by
          unfold badKid
          cases h with
          | zero =>
            have hy : l[pre'.length]? = some ⟨d + 1, 0, k.1, [], k.2⟩ := by
              rw [e3]
              show (pre' ++ [_] ++ _)[pre'.length]? = _
              rw [List.append_assoc, List.getElem?_append_right (Nat.le_refl _), Nat.sub_self]; rfl
            rw [hy]
            simp only
            by_cases h0 : List.length (α := Pr) k.2 = 0
            · have h5 := hb k List.mem_cons_self (bare_nil h0)
              rw [h5]; simp
            · have : decide (List.length (α := Pr) k.2 = 0) = false := decide_eq_false h0
              rw [Bool.and_eq_false_iff, Bool.and_eq_false_iff]
              exact .inl (.inr this)
          | succ h =>
            have hy : l[pre'.length]? = some ⟨d + 1, k.2.2.length, k.1, k.2.1, []⟩ := by
              rw [e3]
              show (pre' ++ (_ :: _) ++ _)[pre'.length]? = _
              rw [List.append_assoc, List.getElem?_append_right (Nat.le_refl _), Nat.sub_self]; rfl
            have hpos : 0 < k.2.2.length := hks.1.2.2.2.2.1
            rw [hy]
            simp only
            rw [Bool.and_eq_false_iff, Bool.and_eq_false_iff]
            exact .inl (.inl (decide_eq_false (by omega)))
        show (if badKid l t.2.length pre'.length = true then none else (endF l _ f pre'.length (d + 1)).bind _) = _
        rw [hbad, if_neg (by simp), h1]
        show kidsF _ _ _ _ = _
        rw [List.length_append] at h2
        rw [h2, List.length_append]
        congr 1
        omega
    unfold endF
    rw [hx]
    simp only [ne_eq, not_true_eq_false, if_false]
    rw [if_neg (by omega), if_neg (by simp; omega)]
    have e2 : l = (pre ++ [⟨d, t.2.length, lo, t.1, []⟩]) ++ (t.2.flatMap fun k => infosH h (d + 1) k.1 k.2) ++ post := by
      rw [e]
      show pre ++ (_ :: _) ++ post = _
      simp
    have h1 := hg t.2 hkk hbare _ post e2
    rw [List.length_append] at h1
    simp only [List.length_singleton] at h1
    rw [Int.toNat_natCast, h1]
    show some _ = some (pre.length + (_ :: (t.2.flatMap fun k => infosH h (d + 1) k.1 k.2)).length)
    rw [List.length_cons]
    congr 1
    omega
/-- What is told of a tree's nodes stands well. -/
theorem well_infos {h : Nat} {t : TrH h} (hk : okH h noB none t) : wellI (infosH h 0 noB t) = true := by
  obtain ⟨x, r, e, _, hl, _⟩ := infos_first h 0 noB t
  unfold wellI
  rw [Bool.and_eq_true, Bool.and_eq_true]
  refine ⟨⟨?_, ?_⟩, allQ_nodes (infos_all h 0 noB none t hk [] ⟨rfl, fun y r e => (by cases e), fun y hy => (by cases hy)⟩)⟩
  · unfold firstI
    rw [e]
    exact decide_eq_true hl
  · rw [deep_infos hk]
    have h1 := infos_len h 0 noB none t hk
    have h2 := end_infos h 0 noB none t hk (infosH h 0 noB t) [] [] ((infosH h 0 noB t).length - 0 + 1) (by simp) (by omega)
    rw [Int.zero_add] at h2
    exact decide_eq_true (by simpa [endI] using h2)

end Go.Proofs.Yteddjmkoleclpaa

namespace Go.Proofs.Yteddjmkoleclpaa

/-- A tree that stands well between these, whose first kid begins where it begins, and whose leaves all have a pair. -/
def okN : (h : Nat) → ByteArray → Option ByteArray → TrH h → Prop
  | 0, lo, hi, ps => wellL ps = true ∧ 0 < List.length (α := Pr) ps ∧ List.length (α := Pr) ps ≤ 4 ∧ ∀ p ∈ (show List Pr from ps), inLow lo hi p.k = true
  | h + 1, lo, hi, t => wellN t.1 = true ∧ t.1.length ≤ 6 ∧ (∀ n ∈ t.1, inLow lo hi n.key = true) ∧ t.2.length ≤ 4 ∧ (∃ x r, t.2 = (lo, x) :: r) ∧ okK (okN h) hi t.2

theorem okK_imp {α : Type} {ok ok' : ByteArray → Option ByteArray → α → Prop} (h : ∀ lo hi t, ok lo hi t → ok' lo hi t) {hi : Option ByteArray} : ∀ {ks : List (ByteArray × α)}, okK ok hi ks → okK ok' hi ks
  | [], _ => trivial
  | _ :: _, hk => ⟨h _ _ _ hk.1, okK_imp h hk.2⟩
theorem below_of_le {hi : Option ByteArray} {a b : ByteArray} (h : belowH hi b = true) (hab : ¬ b < a) : belowH hi a = true := by
  cases hi with
  | none => rfl
  | some c =>
    simp only [belowH, decide_eq_true_eq] at h ⊢
    grind
theorem inLow_iff {lo : ByteArray} {hi : Option ByteArray} {k : ByteArray} : inLow lo hi k = true ↔ ¬ k < lo ∧ belowH hi k = true := by
  unfold inLow
  rw [Bool.and_eq_true]
  simp
theorem okN_okH : ∀ (h : Nat) (lo : ByteArray) (hi : Option ByteArray) (t : TrH h), okN h lo hi t → okH h lo hi t ∧ bareH h t = false
  | 0, lo, hi, ps, hk => by
    obtain ⟨h1, h2, h3, h4⟩ := hk
    obtain ⟨p, hp⟩ := List.exists_mem_of_length_pos h2
    have h5 := inLow_iff.1 (h4 p hp)
    refine ⟨⟨h1, h3, below_of_le h5.2 h5.1, h4⟩, ?_⟩
    show List.isEmpty (α := Pr) ps = false
    cases e : (show List Pr from ps) with
    | nil => rw [e] at hp; cases hp
    | cons x r => rfl
  | h + 1, lo, hi, t, hk => by
    obtain ⟨h1, h2, h3, h4, ⟨x, r, e⟩, h5⟩ := hk
    have h6 : okK (okH h) hi t.2 := okK_imp (fun lo hi t ht => (okN_okH h lo hi t ht).1) h5
    have h7 := okK_mem (ok_lo h) h6
    refine ⟨⟨h1, h2, ?_, h3, by rw [e]; simp, h4, fun k hkm => ?_, h6, fun k hkm hb => ?_⟩, rfl⟩
    · rw [e] at h6
      exact below_le (okK_mem (ok_lo h) h6.2).2.2 (ok_lo h _ _ _ h6.1)
    · rw [e] at hkm h7
      rcases List.mem_cons.1 hkm with rfl | hkm
      · show ¬ lo < lo; grind
      · have := (List.pairwise_cons.1 h7.2.1).1 k hkm
        have : lo < k.1 := this
        grind
    · obtain ⟨b, h8, _⟩ := (okK_mem (ok := okN h) (fun lo hi t ht => ok_lo h lo hi t (okN_okH h lo hi t ht).1) h5).1 k hkm
      rw [(okN_okH h _ _ _ h8).2] at hb
      cases hb
theorem okN_lo (h : Nat) (lo : ByteArray) (hi : Option ByteArray) (t : TrH h) (ht : okN h lo hi t) : belowH hi lo = true := ok_lo h lo hi t (okN_okH h lo hi t ht).1
theorem okNK {h : Nat} {hi : Option ByteArray} {ks : List (ByteArray × TrH h)} (hk : okK (okN h) hi ks) : okK (okH h) hi ks := okK_imp (fun lo hi t ht => (okN_okH h lo hi t ht).1) hk
theorem okNK_mem {h : Nat} {hi : Option ByteArray} {ks : List (ByteArray × TrH h)} (hk : okK (okN h) hi ks) : (∀ k ∈ ks, ∃ b, okN h k.1 b k.2 ∧ leO b hi) ∧ ks.Pairwise (fun a b => a.1 < b.1) ∧ leO (nextLo hi ks) hi := okK_mem (okN_lo h) hk

/-! Kids side by side. -/
theorem nextLo_append {α : Type} (hi : Option ByteArray) (a b : List (ByteArray × α)) : nextLo hi (a ++ b) = nextLo (nextLo hi b) a := by cases a <;> rfl
theorem okK_append {α : Type} {ok : ByteArray → Option ByteArray → α → Prop} {hi : Option ByteArray} : ∀ {a b : List (ByteArray × α)}, okK ok hi (a ++ b) ↔ okK ok (nextLo hi b) a ∧ okK ok hi b
  | [], b => by simp [okK]
  | k :: a, b => by
    show ok k.1 (nextLo hi (a ++ b)) k.2 ∧ okK ok hi (a ++ b) ↔ (ok k.1 (nextLo (nextLo hi b) a) k.2 ∧ okK ok (nextLo hi b) a) ∧ okK ok hi b
    rw [okK_append, nextLo_append, and_assoc]
theorem okK_ext {α : Type} {ok : ByteArray → Option ByteArray → α → Prop} (hx : ∀ lo a b t, ok lo a t → leO a b → ok lo b t) {hi hi' : Option ByteArray} (hh : leO hi hi') : ∀ {ks : List (ByteArray × α)}, okK ok hi ks → okK ok hi' ks
  | [], _ => trivial
  | k :: ks, h => by
    refine ⟨hx _ _ _ _ h.1 ?_, okK_ext hx hh h.2⟩
    cases ks with
    | nil => exact hh
    | cons y r => exact leO_rfl _
theorem okN_ext : ∀ (h : Nat) (lo : ByteArray) (a b : Option ByteArray) (t : TrH h), okN h lo a t → leO a b → okN h lo b t
  | 0, lo, a, b, t, hk, hh => ⟨hk.1, hk.2.1, hk.2.2.1, fun p hp => inLow_le hh (by grind) (hk.2.2.2 p hp)⟩
  | h + 1, lo, a, b, t, hk, hh => ⟨hk.1, hk.2.1, fun n hn => inLow_le hh (by grind) (hk.2.2.1 n hn), hk.2.2.2.1, hk.2.2.2.2.1, okK_ext (okN_ext h) hh hk.2.2.2.2.2⟩
theorem leO_trans {a b c : Option ByteArray} (h : leO a b) (g : leO b c) : leO a c := by
  cases c with
  | none => trivial
  | some c =>
    cases b with
    | none => exact g.elim
    | some b =>
      cases a with
      | none => exact h.elim
      | some a =>
        have h1 : a ≤ b := h
        have g1 : b ≤ c := g
        show a ≤ c
        grind
/-- Some of them in the place of one. -/
theorem okK_put {h : Nat} {hi : Option ByteArray} {A B ks : List (ByteArray × TrH h)} {k : ByteArray × TrH h} (hk : okK (okN h) hi (A ++ k :: B)) (hn : okK (okN h) (nextLo hi B) ks) (hf : ks = [] ∨ ∃ x r, ks = (k.1, x) :: r) : okK (okN h) hi (A ++ (ks ++ B)) := by
  obtain ⟨h1, h2⟩ := okK_append.1 hk
  refine okK_append.2 ⟨?_, okK_append.2 ⟨hn, h2.2⟩⟩
  rcases hf with rfl | ⟨x, r, rfl⟩
  · rw [List.nil_append]
    refine okK_ext (okN_ext h) ?_ h1
    have h3 := okN_lo h _ _ _ h2.1
    show leO (some k.1) (nextLo hi B)
    cases e : nextLo hi B with
    | none => trivial
    | some b =>
      rw [e] at h3
      simp only [belowH, decide_eq_true_eq] at h3
      show k.1 ≤ b
      grind
  · exact h1

/-! Where a node begins. -/
def lowN : (h : Nat) → ByteArray → TrH h → TrH h
  | 0, _, ps => ps
  | h + 1, lo, t => (t.1, match t.2 with
    | [] => []
    | k :: r => (lo, lowN h lo k.2) :: r)
def lowK (h : Nat) (lo : ByteArray) : List (ByteArray × TrH h) → List (ByteArray × TrH h)
  | [] => []
  | k :: r => (lo, lowN h lo k.2) :: r
theorem lowN_succ (h : Nat) (lo : ByteArray) (t : TrH (h + 1)) : lowN (h + 1) lo t = (t.1, lowK h lo t.2) := by
  show (_, _) = _
  cases t.2 <;> rfl
theorem lowN_self : ∀ (h : Nat) (lo : ByteArray) (hi : Option ByteArray) (t : TrH h), okN h lo hi t → lowN h lo t = t
  | 0, _, _, _, _ => rfl
  | h + 1, lo, hi, t, hk => by
    obtain ⟨h1, h2, h3, h4, ⟨x, r, e⟩, h5⟩ := hk
    rw [e] at h5
    have e2 : lowK h lo t.2 = t.2 := by
      rw [e]
      show (lo, lowN h lo x) :: r = _
      rw [lowN_self h lo _ x h5.1]
    rw [lowN_succ, e2]; rfl
theorem lowK_self {h : Nat} {hi : Option ByteArray} {lo : ByteArray} {x : TrH h} {r : List (ByteArray × TrH h)} (hk : okK (okN h) hi ((lo, x) :: r)) : lowK h lo ((lo, x) :: r) = (lo, x) :: r := by
  show (lo, lowN h lo x) :: r = _
  rw [lowN_self h lo _ x hk.1]
theorem inLow_lower {lo lo' : ByteArray} {hi : Option ByteArray} {k : ByteArray} (h : ¬ lo < lo') (hk : inLow lo hi k = true) : inLow lo' hi k = true := inLow_le (leO_rfl _) h hk
theorem okN_low : ∀ (h : Nat) (lo lo' : ByteArray) (hi : Option ByteArray) (t : TrH h), okN h lo hi t → ¬ lo < lo' → okN h lo' hi (lowN h lo' t)
  | 0, lo, lo', hi, t, hk, hl => ⟨hk.1, hk.2.1, hk.2.2.1, fun p hp => inLow_lower hl (hk.2.2.2 p hp)⟩
  | h + 1, lo, lo', hi, t, hk, hl => by
    obtain ⟨h1, h2, h3, h4, ⟨x, r, e⟩, h5⟩ := hk
    rw [lowN_succ]
    rw [e] at h4 h5 ⊢
    exact ⟨h1, h2, fun n hn => inLow_lower hl (h3 n hn), h4, ⟨_, _, rfl⟩, okN_low h lo lo' _ x h5.1 hl, h5.2⟩
theorem okK_low {h : Nat} {lo : ByteArray} {hi : Option ByteArray} {ks : List (ByteArray × TrH h)} (hk : okK (okN h) hi ks) (hl : ∀ k r, ks = k :: r → ¬ k.1 < lo) : okK (okN h) hi (lowK h lo ks) := by
  cases ks with
  | nil => trivial
  | cons k r => exact ⟨okN_low h _ lo _ _ hk.1 (hl k r rfl), hk.2⟩

/-! How much there is. -/
def szS {α : Type} (f : α → Nat) (ks : List (ByteArray × α)) : Nat := (ks.map fun k => f k.2).sum
def szH : (h : Nat) → TrH h → Nat
  | 0, ps => List.length (α := Pr) ps
  | h + 1, t => t.1.length + szS (szH h) t.2
abbrev szK (h : Nat) (ks : List (ByteArray × TrH h)) : Nat := szS (szH h) ks
theorem szS_append {α : Type} (f : α → Nat) (a b : List (ByteArray × α)) : szS f (a ++ b) = szS f a + szS f b := by unfold szS; simp
theorem szS_cons {α : Type} (f : α → Nat) (k : ByteArray × α) (b : List (ByteArray × α)) : szS f (k :: b) = f k.2 + szS f b := rfl
theorem szS_nil {α : Type} (f : α → Nat) : szS f ([] : List (ByteArray × α)) = 0 := rfl
theorem szH_low : ∀ (h : Nat) (lo : ByteArray) (t : TrH h), szH h (lowN h lo t) = szH h t
  | 0, _, _ => rfl
  | h + 1, lo, t => by
    rw [lowN_succ]
    show t.1.length + szS (szH h) (lowK h lo t.2) = t.1.length + szS (szH h) t.2
    cases t.2 with
    | nil => rfl
    | cons k r => show _ + (szH h (lowN h lo k.2) + _) = _; rw [szH_low h lo k.2]; rfl
theorem szK_low (h : Nat) (lo : ByteArray) (ks : List (ByteArray × TrH h)) : szK h (lowK h lo ks) = szK h ks := by
  cases ks with
  | nil => rfl
  | cons k r => show szH h (lowN h lo k.2) + _ = _; rw [szH_low]; rfl
theorem szH_pos : ∀ (h : Nat) (lo : ByteArray) (hi : Option ByteArray) (t : TrH h), okN h lo hi t → 0 < szH h t
  | 0, _, _, _, hk => hk.2.1
  | h + 1, lo, hi, t, hk => by
    obtain ⟨h1, h2, h3, h4, ⟨x, r, e⟩, h5⟩ := hk
    rw [e] at h5
    have := szH_pos h _ _ _ h5.1
    show 0 < t.1.length + szS (szH h) t.2
    rw [e, szS_cons]
    simp only
    have : szH h x > 0 := this
    omega
theorem len_szK {h : Nat} {hi : Option ByteArray} : ∀ {ks : List (ByteArray × TrH h)}, okK (okN h) hi ks → ks.length ≤ szK h ks
  | [], _ => Nat.le_refl _
  | k :: r, hk => by
    have h1 := szH_pos h _ _ _ hk.1
    have h2 := len_szK hk.2
    show (k :: r).length ≤ szH h k.2 + szK h r
    rw [List.length_cons]
    omega

/-! The pairs of nodes side by side. -/
abbrev kp (h : Nat) (ks : List (ByteArray × TrH h)) : List Pr := ks.flatMap fun k => pairsH h k.2
theorem pairs_in (h : Nat) (lo : ByteArray) (hi : Option ByteArray) (t : TrH h) (hk : okH h lo hi t) : ∀ p ∈ pairsH h t, inLow lo hi p.k = true := by
  intro p hp
  rw [pairs_fold h lo hi t hk] at hp
  rcases mem_keys hp (leaves_sorted h lo hi t hk) with ⟨q, hq, e⟩ | ⟨n, hn, e⟩
  · rw [← e]; exact leaves_in h lo hi t hk q hq
  · rw [← e]; exact post_in h lo hi t hk n hn
theorem pairs_sorted (h : Nat) (lo : ByteArray) (hi : Option ByteArray) (t : TrH h) (hk : okH h lo hi t) : Sorted (pairsH h t) := well_sorted (pairs_well hk)
theorem kp_sorted {h : Nat} {hi : Option ByteArray} {ks : List (ByteArray × TrH h)} (hk : okK (okH h) hi ks) : Sorted (kp h ks) :=
  kids_sorted (pairsH h) Pr.k (ok_lo h) (fun lo hi t ht => ⟨pairs_in h lo hi t ht, pairs_sorted h lo hi t ht⟩) hk
theorem kp_in {h : Nat} {lo : ByteArray} {hi : Option ByteArray} {ks : List (ByteArray × TrH h)} (hk : okK (okH h) hi ks) (hl : ∀ k ∈ ks, ¬ k.1 < lo) : ∀ p ∈ kp h ks, inLow lo hi p.k = true :=
  kids_in (pairsH h) Pr.k (ok_lo h) (pairs_in h) hk hl
theorem pairs_low : ∀ (h : Nat) (lo : ByteArray) (t : TrH h), pairsH h (lowN h lo t) = pairsH h t
  | 0, _, _ => rfl
  | h + 1, lo, t => by
    rw [lowN_succ]
    show foldOne (kp h (lowK h lo t.2)) t.1 = foldOne (kp h t.2) t.1
    congr 1
    cases t.2 with
    | nil => rfl
    | cons k r => show pairsH h (lowN h lo k.2) ++ _ = pairsH h k.2 ++ _; rw [pairs_low h lo k.2]
theorem kp_low (h : Nat) (lo : ByteArray) (ks : List (ByteArray × TrH h)) : kp h (lowK h lo ks) = kp h ks := by
  cases ks with
  | nil => rfl
  | cons k r => show pairsH h (lowN h lo k.2) ++ _ = pairsH h k.2 ++ _; rw [pairs_low]
theorem first_ge {h : Nat} {hi : Option ByteArray} {k : ByteArray × TrH h} {r : List (ByteArray × TrH h)} (hk : okK (okH h) hi (k :: r)) : ∀ x ∈ k :: r, ¬ x.1 < k.1 := by
  intro x hx
  rcases List.mem_cons.1 hx with rfl | hx
  · grind
  · have := (List.pairwise_cons.1 (okK_mem (ok_lo h) hk).2.1).1 x hx
    grind
theorem in_lt {a b x y : ByteArray} {hi hi' : Option ByteArray} (hx : inLow a hi x = true) (hy : inLow b hi' y = true) (hb : leO hi (some b)) : x < y := in_apart hx hy (fun _ => hb) hb
/-- Notes of one kid do what they do to it alone. -/
theorem kp_one {h : Nat} {hi : Option ByteArray} {A B : List (ByteArray × TrH h)} {k : ByteArray × TrH h} (hk : okK (okH h) hi (A ++ k :: B)) {P : List Nt} (hP : ∀ n ∈ P, inLow k.1 (nextLo hi B) n.key = true) :
    foldOne (kp h (A ++ k :: B)) P = kp h A ++ (foldOne (pairsH h k.2) P ++ kp h B) := by
  obtain ⟨h1, h2⟩ := okK_append.1 hk
  have e : kp h (A ++ k :: B) = kp h A ++ (pairsH h k.2 ++ kp h B) := by unfold kp; rw [List.flatMap_append, List.flatMap_cons]
  have hA : ∀ p ∈ kp h A, ∃ lo, inLow lo (some k.1) p.k = true := fun p hp => by
    obtain ⟨x, hx, hp⟩ := List.mem_flatMap.1 hp
    obtain ⟨b, h3, h4⟩ := (okK_mem (ok_lo h) h1).1 x hx
    exact ⟨x.1, inLow_le h4 (by grind) (pairs_in h _ _ _ h3 p hp)⟩
  rw [e, fold_left (fun n hn p hp => by
    obtain ⟨lo, h3⟩ := hA p hp
    exact in_lt h3 (hP n hn) (leO_rfl _))]
  congr 1
  have h5 := fold_join (A := pairsH h k.2) (B := kp h B) (a := P) (b := []) (pairs_sorted h _ _ _ h2.1) (kp_sorted h2.2) ?_ (fun p hp n hn => by cases hn) ?_ (fun n hn m hm => by cases hm)
  · rw [List.append_nil] at h5
    exact h5
  · intro p hp q hq
    obtain ⟨x, hx, hq⟩ := List.mem_flatMap.1 hq
    obtain ⟨b, h3, _⟩ := (okK_mem (ok_lo h) h2.2).1 x hx
    exact kid_less (ok_lo h) h2 hx (pairs_in h _ _ _ h2.1 p hp) (pairs_in h _ _ _ h3 q hq)
  · intro n hn q hq
    obtain ⟨x, hx, hq⟩ := List.mem_flatMap.1 hq
    obtain ⟨b, h3, _⟩ := (okK_mem (ok_lo h) h2.2).1 x hx
    exact kid_less (ok_lo h) h2 hx (hP n hn) (pairs_in h _ _ _ h3 q hq)
/-- Notes of each node, each between its Low and the next one's. -/
theorem kp_each {h : Nat} {hi : Option ByteArray} : ∀ {ns : List (ByteArray × TrH (h + 1))}, okK (okN (h + 1)) hi ns → kp (h + 1) ns = foldOne (kp h (ns.flatMap fun k => k.2.2)) (ns.flatMap fun k => k.2.1)
  | [], _ => rfl
  | k :: r, hk => by
    have h1 := okNK hk
    have hkk : okK (okH h) (nextLo hi r) k.2.2 := okNK hk.1.2.2.2.2.2
    have hkl : ∀ x ∈ k.2.2, ¬ x.1 < k.1 := h1.1.2.2.2.2.2.2.1
    have hr : ∀ q ∈ kp h (r.flatMap fun k => k.2.2), ∃ x ∈ r, ∃ b, inLow x.1 b q.k = true := fun q hq => by
      obtain ⟨y, hy, hq⟩ := List.mem_flatMap.1 hq
      obtain ⟨x, hx, hy⟩ := List.mem_flatMap.1 hy
      obtain ⟨b, h3, _⟩ := (okNK_mem hk.2).1 x hx
      have h4 := (okN_okH _ _ _ _ h3).1
      exact ⟨x, hx, b, kp_in (okNK h3.2.2.2.2.2) h4.2.2.2.2.2.2.1 q (List.mem_flatMap.2 ⟨y, hy, hq⟩)⟩
    have hs : ∀ (r : List (ByteArray × TrH (h + 1))), okK (okN (h + 1)) hi r → Sorted (kp h (r.flatMap fun k => k.2.2)) := fun r hr => by
      have h2 := kids_sorted (fun t : TrH (h + 1) => kp h t.2) Pr.k (okN_lo (h + 1)) (fun lo hi t ht => ⟨kp_in (okNK ht.2.2.2.2.2) (okN_okH _ _ _ _ ht).1.2.2.2.2.2.2.1, kp_sorted (okNK ht.2.2.2.2.2)⟩) hr
      unfold kp at h2 ⊢
      rw [List.flatMap_assoc]
      exact h2
    have hb : ∀ n ∈ r.flatMap (fun k => k.2.1), ∃ x ∈ r, ∃ b, inLow x.1 b n.key = true := fun n hn => by
      obtain ⟨x, hx, hn⟩ := List.mem_flatMap.1 hn
      obtain ⟨b, h3, _⟩ := (okNK_mem hk.2).1 x hx
      exact ⟨x, hx, b, h3.2.2.1 n hn⟩
    show foldOne (kp h k.2.2) k.2.1 ++ kp (h + 1) r = foldOne (kp h (k.2.2 ++ r.flatMap fun k => k.2.2)) (k.2.1 ++ r.flatMap fun k => k.2.1)
    rw [kp_each hk.2]
    have e : kp h (k.2.2 ++ r.flatMap fun k => k.2.2) = kp h k.2.2 ++ kp h (r.flatMap fun k => k.2.2) := List.flatMap_append
    rw [e]
    refine (fold_join (kp_sorted hkk) (hs r hk.2) (fun p hp q hq => ?_) (fun p hp n hn => ?_) (fun n hn q hq => ?_) (fun n hn m hm => ?_)).symm
    · obtain ⟨x, hx, b, h3⟩ := hr q hq
      exact kid_less (okN_lo (h + 1)) hk hx (kp_in hkk hkl p hp) h3
    · obtain ⟨x, hx, b, h3⟩ := hb n hn
      exact kid_less (okN_lo (h + 1)) hk hx (kp_in hkk hkl p hp) h3
    · obtain ⟨x, hx, b, h3⟩ := hr q hq
      exact kid_less (okN_lo (h + 1)) hk hx (hk.1.2.2.1 n hn) h3
    · obtain ⟨x, hx, b, h3⟩ := hb m hm
      exact kid_less (okN_lo (h + 1)) hk hx (hk.1.2.2.1 n hn) h3

end Go.Proofs.Yteddjmkoleclpaa

namespace Go.Proofs.Yteddjmkoleclpaa

theorem notes_apart {a b : List Nt} (h : SortedN (a ++ b)) : ∀ x ∈ a, ∀ y ∈ b, x.key ≠ y.key := fun x hx y hy e => by
  have := (List.pairwise_append.1 h).2.2 x hx y hy
  rw [e] at this
  grind
theorem wellN_sub {a b : List Nt} (h : wellN b = true) (hs : a.Sublist b) : wellN a = true := by
  refine wellN_of (List.Pairwise.sublist hs (wellN_sorted h)) (List.all_eq_true.2 fun n hn => ?_)
  exact List.all_eq_true.1 (wellN_right h) n (hs.subset hn)

/-! Where lows rise. -/
abbrev lowsOf {α : Type} (ks : List (ByteArray × α)) : List ByteArray := ks.map Prod.fst
theorem rises_of {l : List ByteArray} (h : l.Pairwise fun a b => a < b) : risesS l = true := by
  rw [risesS_iff]
  intro i hi h0
  exact (List.pairwise_iff_getElem.1 h) (i - 1) i (by omega) hi (by omega)
theorem lows_rise {h : Nat} {hi : Option ByteArray} {ks : List (ByteArray × TrH h)} (hk : okK (okN h) hi ks) : risesS (lowsOf ks) = true := rises_of (List.pairwise_map.2 (okNK_mem hk).2.1)
theorem getDS {lows : List ByteArray} {i : Nat} (h : i < lows.length) : lows.getD i noB = lows[i] := by rw [List.getD_eq_getElem?_getD, List.getElem?_eq_getElem h]; rfl

/-- Notes of the i-th part lie between the i-th low and the next one. -/
theorem part_in {W : List Nt} {lows : List ByteArray} {i : Nat} (hi : i < lows.length) (hf : ∀ n ∈ W, ¬ n.key < lows[0]'(by omega)) {n : Nt} (hn : n ∈ W.filter fun n => decide (partN' n.key lows = i)) :
    ¬ n.key < lows[i] ∧ ∀ hj : i + 1 < lows.length, n.key < lows[i + 1] := by
  obtain ⟨h1, h2⟩ := List.mem_filter.1 hn
  have h3 := part_at hi (of_decide_eq_true h2)
  refine ⟨?_, fun hj => ?_⟩
  · rcases h3.1 with rfl | h4
    · exact hf n h1
    · rw [getDS hi] at h4
      grind
  · have h5 := h3.2 (i + 1) (by omega) hj
    rw [getDS hj] at h5
    grind
theorem split_at {W : List Nt} {lows : List ByteArray} (hw : wellN W = true) (hr : risesS lows = true) : splitA W lows = splitL W lows := by unfold splitA; rw [hw, hr]; rfl
theorem splitL_get {W : List Nt} {lows : List ByteArray} {i : Nat} (hi : i < lows.length) : (splitL W lows)[i]? = some (W.filter fun n => decide (partN' n.key lows = i)) := by
  unfold splitL
  rw [List.getElem?_map, List.getElem?_range hi]; rfl

/-! What waits, and the kids, while it goes down. -/
def Lv (h : Nat) (lo : ByteArray) (hi : Option ByteArray) (ks : List (ByteArray × TrH h)) (W : List Nt) : Prop :=
  okK (okN h) hi ks ∧ wellN W = true ∧ (∀ n ∈ W, belowH hi n.key = true) ∧ (ks = [] → W = []) ∧ ∀ k r, ks = k :: r → ¬ k.1 < lo ∧ ∀ n ∈ W, ¬ n.key < k.1
/-- What a node becomes. -/
def TkR (h : Nat) (lo : ByteArray) (hi : Option ByteArray) (ks : List (ByteArray × TrH h)) (ps : List Pr) (m : Nat) : Prop :=
  okK (okN h) hi ks ∧ (ks = [] ∨ ∃ x r, ks = (lo, x) :: r) ∧ kp h ks = ps ∧ szK h ks ≤ m
def restW (W : List Nt) (lows : List ByteArray) (m : Nat) : List Nt := ((splitA W lows).set m []).flatten

theorem sink_plain {h : Nat} {lo : ByteArray} {hi : Option ByteArray} {ks : List (ByteArray × TrH h)} {W : List Nt} (hl : Lv h lo hi ks W) (h0 : 0 < W.length) {m : Nat} (hm : MostA W (lowsOf ks) m) :
    ∃ A k B P, ks = A ++ k :: B ∧ A.length = m ∧ (splitA W (lowsOf ks)).length = ks.length ∧ (splitA W (lowsOf ks))[m]? = some P ∧ wellN P = true ∧ (∀ n ∈ P, inLow k.1 (nextLo hi B) n.key = true) ∧ P.length ≤ W.length ∧
      ∀ ks2, TkR h k.1 (nextLo hi B) ks2 (foldOne (pairsH h k.2) P) (szH h k.2 + P.length) →
        Lv h lo hi (A ++ (ks2 ++ B)) (restW W (lowsOf ks) m) ∧ (restW W (lowsOf ks) m).length < W.length ∧ foldOne (kp h (A ++ (ks2 ++ B))) (restW W (lowsOf ks) m) = foldOne (kp h ks) W ∧ szK h (A ++ (ks2 ++ B)) + (restW W (lowsOf ks) m).length ≤ szK h ks + W.length := by
  obtain ⟨hk, hw, hin, hnil, hfst⟩ := hl
  have hne : ks ≠ [] := fun e => by rw [hnil e] at h0; simp at h0
  have hr := lows_rise hk
  have hkl : (lowsOf ks).length = ks.length := by simp
  have hsp := split_at hw hr
  have hlen : (splitL W (lowsOf ks)).length = ks.length := by rw [split_len, hkl]
  have hpos : 0 < ks.length := List.length_pos_iff.2 hne
  have hflat : (splitL W (lowsOf ks)).flatten = W := split_flat (wellN_sorted hw) (by rw [hkl]; exact hpos)
  unfold restW
  rw [hsp]
  have hmost : MostAt (splitL W (lowsOf ks)) m := by
    rcases hm with ⟨h1, _⟩ | h1
    · rw [hsp] at h1; rw [h1] at hlen; simp at hlen; omega
    · rwa [hsp] at h1
  obtain ⟨hml, hmax⟩ := hmost
  have hmk : m < ks.length := by omega
  obtain ⟨P, hP⟩ : ∃ P, P = (splitL W (lowsOf ks))[m] := ⟨_, rfl⟩
  have hPf : P = W.filter fun n => decide (partN' n.key (lowsOf ks) = m) := by
    have h1 := splitL_get (W := W) (lows := lowsOf ks) (i := m) (by omega)
    rw [List.getElem?_eq_getElem hml] at h1
    injection h1 with h1
    rw [hP, h1]
  have hf0 : ∀ n ∈ W, ¬ n.key < (lowsOf ks)[0]'(by omega) := fun n hn => by
    obtain ⟨k0, r0, e0⟩ : ∃ k r, ks = k :: r := by
      cases ks with
      | nil => exact absurd rfl hne
      | cons k r => exact ⟨k, r, rfl⟩
    subst e0
    exact (hfst k0 r0 rfl).2 n hn
  obtain ⟨k, hkk⟩ : ∃ k, k = ks[m] := ⟨_, rfl⟩
  have eks : ks = ks.take m ++ k :: ks.drop (m + 1) := by rw [hkk, ← List.drop_eq_getElem_cons hmk, List.take_append_drop]
  have hAl : (ks.take m).length = m := by simp; omega
  have hPin : ∀ n ∈ P, inLow k.1 (nextLo hi (ks.drop (m + 1))) n.key = true := fun n hn => by
    rw [hPf] at hn
    have h1 := part_in (by omega) hf0 hn
    refine inLow_iff.2 ⟨?_, ?_⟩
    · have h2 := h1.1
      simp only [List.getElem_map] at h2
      rw [hkk]; exact h2
    · by_cases hj : m + 1 < ks.length
      · rw [List.drop_eq_getElem_cons hj]
        have h2 := h1.2 (by omega)
        simp only [List.getElem_map] at h2
        exact decide_eq_true h2
      · rw [List.drop_of_length_le (by omega)]
        exact hin n (List.mem_filter.1 hn).1
  have hPw : wellN P = true := by rw [hPf]; exact wellN_sub hw List.filter_sublist
  have hPl : P.length ≤ W.length := by rw [hPf]; exact List.length_filter_le _ _
  have esp : splitL W (lowsOf ks) = (splitL W (lowsOf ks)).take m ++ P :: (splitL W (lowsOf ks)).drop (m + 1) := by rw [hP, ← List.drop_eq_getElem_cons hml, List.take_append_drop]
  obtain ⟨FA, hFA⟩ : ∃ FA, FA = ((splitL W (lowsOf ks)).take m).flatten := ⟨_, rfl⟩
  obtain ⟨FB, hFB⟩ : ∃ FB, FB = ((splitL W (lowsOf ks)).drop (m + 1)).flatten := ⟨_, rfl⟩
  have eW : W = FA ++ (P ++ FB) := by
    conv => lhs; rw [← hflat, esp, List.flatten_append, List.flatten_cons]
    rw [hFA, hFB]
  have eR : ((splitL W (lowsOf ks)).set m []).flatten = FA ++ FB := by
    rw [List.set_eq_take_append_cons_drop, if_pos hml, List.flatten_append, List.flatten_cons, List.nil_append, hFA, hFB]
  have hPpos : 0 < P.length := by
    rcases Nat.eq_zero_or_pos P.length with h1 | h1
    · have h2 : W = [] := by
        rw [← hflat]
        rw [List.flatten_eq_nil_iff]
        intro q hq
        obtain ⟨i, hi, rfl⟩ := List.getElem_of_mem hq
        have h3 := (hmax i hi).1
        rw [← hP, h1] at h3
        exact List.length_eq_zero_iff.1 (by omega)
      rw [h2] at h0; simp at h0
    · exact h1
  have hsW : SortedN (FA ++ (P ++ FB)) := by rw [← eW]; exact wellN_sorted hw
  refine ⟨ks.take m, k, ks.drop (m + 1), P, eks, hAl, hlen, by rw [hP]; exact List.getElem?_eq_getElem hml, hPw, hPin, hPl, fun ks2 ht => ?_⟩
  rw [eR]
  obtain ⟨ht1, ht2, ht3, ht4⟩ := ht
  have hsub : (FA ++ FB).Sublist W := by
    rw [eW]
    exact List.Sublist.append (List.Sublist.refl _) (List.sublist_append_right _ _)
  have hok2 : okK (okN h) hi (ks.take m ++ (ks2 ++ ks.drop (m + 1))) := okK_put (by rw [← eks]; exact hk) ht1 ht2
  have hlenR : (FA ++ FB).length + P.length = W.length := by
    have := congrArg List.length eW
    simp at this ⊢
    omega
  -- notes that are left, where the first kid took its own
  have hFBin : ∀ n ∈ FB, ∃ b r, ks.drop (m + 1) = b :: r ∧ ¬ n.key < b.1 := fun n hn => by
    rw [hFB] at hn
    obtain ⟨q, hq, hn⟩ := List.mem_flatten.1 hn
    obtain ⟨i, hi2, rfl⟩ := List.getElem_of_mem hq
    rw [List.getElem_drop] at hn
    have hi3 : m + 1 + i < ks.length := by simp at hi2; omega
    have h1 := splitL_get (W := W) (lows := lowsOf ks) (i := m + 1 + i) (by omega)
    rw [List.getElem?_eq_getElem (by omega)] at h1
    injection h1 with h1
    rw [h1] at hn
    have h2 := (part_in (by omega) hf0 hn).1
    simp only [List.getElem_map] at h2
    refine ⟨ks[m + 1]'(by omega), ks.drop (m + 1 + 1), List.drop_eq_getElem_cons (by omega), ?_⟩
    by_cases hi0 : i = 0
    · subst hi0; exact h2
    · have h4 := (List.pairwise_iff_getElem.1 (okNK_mem hk).2.1) (m + 1) (m + 1 + i) (by omega) hi3 (by omega)
      grind
  refine ⟨⟨hok2, wellN_sub hw hsub, fun n hn => hin n (hsub.subset hn), fun e => ?_, fun k1 r1 e => ?_⟩, by omega, ?_, ?_⟩
  · have e1 : ks.take m = [] := (List.append_eq_nil_iff.1 e).1
    have e2 := (List.append_eq_nil_iff.1 e).2
    have e3 : ks.drop (m + 1) = [] := (List.append_eq_nil_iff.1 e2).2
    have hm0 : m = 0 := by rw [e1] at hAl; simpa using hAl.symm
    have hFA0 : FA = [] := by rw [hFA, hm0]; rfl
    have hFB0 : FB = [] := by
      cases hF : FB with
      | nil => rfl
      | cons n r =>
        obtain ⟨b, r2, e4, _⟩ := hFBin n (by rw [hF]; exact List.mem_cons_self)
        rw [e3] at e4; cases e4
    rw [hFA0, hFB0]; rfl
  · by_cases hm0 : m = 0
    · have e1 : ks.take m = [] := by rw [hm0]; rfl
      have hFA0 : FA = [] := by rw [hFA, hm0]; rfl
      have ek0 : ks = k :: ks.drop (m + 1) := by rw [e1] at eks; exact eks
      have hk0 := hfst k _ ek0
      rw [e1, List.nil_append] at e
      rw [hFA0, List.nil_append]
      rcases ht2 with rfl | ⟨x, r, rfl⟩
      · rw [List.nil_append] at e
        have h6 : k.1 < k1.1 := by
          have h7 := (okNK_mem hk).2.1
          rw [ek0, e] at h7
          exact (List.pairwise_cons.1 h7).1 k1 List.mem_cons_self
        refine ⟨by grind, fun n hn => ?_⟩
        obtain ⟨b, r2, e4, h5⟩ := hFBin n hn
        rw [e] at e4
        injection e4 with e4
        rw [e4]; exact h5
      · rw [List.cons_append] at e
        injection e with e
        rw [← e]
        exact ⟨hk0.1, fun n hn => hk0.2 n (hsub.subset (List.mem_append_right _ hn))⟩
    · obtain ⟨a, ra, ea⟩ : ∃ a r, ks.take m = a :: r := by
        cases e2 : ks.take m with
        | nil => rw [e2] at hAl; simp at hAl; omega
        | cons a r => exact ⟨a, r, rfl⟩
      rw [ea, List.cons_append] at e
      injection e with e
      rw [← e]
      have ek0 : ks = a :: (ra ++ k :: ks.drop (m + 1)) := by rw [ea] at eks; exact eks
      have hk0 := hfst a _ ek0
      exact ⟨hk0.1, fun n hn => hk0.2 n (hsub.subset hn)⟩
  · have e1 : foldOne (kp h ks) W = foldOne (foldOne (kp h ks) P) (FA ++ FB) := by
      rw [← foldOne_append]
      conv => lhs; rw [eW]
      refine fold_steq (kp_sorted (okNK hk)) ?_
      rw [← List.append_assoc, ← List.append_assoc]
      refine StEq.app (StEq.swap fun x hx y hy => ?_) (StEq.rfl' _)
      rw [← List.append_assoc] at hsW
      exact notes_apart (List.pairwise_append.1 hsW).1 x hx y hy
    rw [e1]
    congr 1
    have h2 : okK (okH h) hi (ks.take m ++ k :: ks.drop (m + 1)) := by rw [← eks]; exact okNK hk
    have h3 := kp_one h2 hPin
    rw [← eks] at h3
    rw [h3, ← ht3]
    unfold kp
    rw [List.flatMap_append, List.flatMap_append]
  · have e1 : szK h ks = szK h (ks.take m) + (szH h k.2 + szK h (ks.drop (m + 1))) := by
      conv => lhs; rw [eks]
      rw [szK, szS_append, szS_cons]
    have e2 : szK h (ks.take m ++ (ks2 ++ ks.drop (m + 1))) = szK h (ks.take m) + (szK h ks2 + szK h (ks.drop (m + 1))) := by
      unfold szK; rw [szS_append, szS_append]
    omega

/-! Nodes over kids. -/
def lowHd {α : Type} : List (ByteArray × α) → ByteArray
  | [] => noB
  | k :: _ => k.1
def overN (h : Nat) (pss : List (List (ByteArray × TrH h))) (W : List Nt) : List (ByteArray × TrH (h + 1)) := List.zipWith (fun p w => (lowHd p, (w, p))) pss (splitA W (pss.map lowHd))
theorem okK_of {α : Type} {ok : ByteArray → Option ByteArray → α → Prop} {hi : Option ByteArray} : ∀ {ks : List (ByteArray × α)}, (∀ i (h : i < ks.length), ok ks[i].1 (nextLo hi (ks.drop (i + 1))) ks[i].2) → okK ok hi ks
  | [], _ => trivial
  | k :: r, h => ⟨h 0 (by simp), okK_of fun i hi => h (i + 1) (by rw [List.length_cons]; omega)⟩
theorem zip_flat {α β γ : Type} (f : α → List γ) (g : β → α) : ∀ (l : List β), (l.map g).flatMap f = l.flatMap fun x => f (g x)
  | [] => rfl
  | x :: r => by rw [List.map_cons, List.flatMap_cons, List.flatMap_cons, zip_flat f g r]
theorem zipW_l {α β γ δ : Type} (f : α → β → γ) (g : γ → List δ) (p : α → List δ) (hg : ∀ a b, g (f a b) = p a) : ∀ (xs : List α) (ys : List β), xs.length = ys.length → (List.zipWith f xs ys).flatMap g = xs.flatMap p
  | [], [], _ => rfl
  | a :: xs, b :: ys, h => by
    show g (f a b) ++ (List.zipWith f xs ys).flatMap g = p a ++ xs.flatMap p
    rw [hg, zipW_l f g p hg xs ys (by simpa using h)]
theorem zipW_r {α β γ δ : Type} (f : α → β → γ) (g : γ → List δ) (p : β → List δ) (hg : ∀ a b, g (f a b) = p b) : ∀ (xs : List α) (ys : List β), xs.length = ys.length → (List.zipWith f xs ys).flatMap g = ys.flatMap p
  | [], [], _ => rfl
  | a :: xs, b :: ys, h => by
    show g (f a b) ++ (List.zipWith f xs ys).flatMap g = p b ++ ys.flatMap p
    rw [hg, zipW_r f g p hg xs ys (by simpa using h)]
theorem szS_zip (h : Nat) : ∀ (pss : List (List (ByteArray × TrH h))) (ws : List (List Nt)), pss.length = ws.length → szK (h + 1) (List.zipWith (fun p w => ((lowHd p, (w, p)) : ByteArray × TrH (h + 1))) pss ws) = szK h pss.flatten + ws.flatten.length
  | [], [], _ => rfl
  | p :: pss, w :: ws, hl => by
    have h1 := szS_zip h pss ws (by simpa using hl)
    show (w.length + szK h p) + szK (h + 1) (List.zipWith _ pss ws) = szK h (p ++ pss.flatten) + (w ++ ws.flatten).length
    have h2 : szK h (p ++ pss.flatten) = szK h p + szK h pss.flatten := szS_append _ _ _
    rw [h1, h2, List.length_append]
    omega
def hdLo {α : Type} (hi : Option ByteArray) : List (List (ByteArray × α)) → Option ByteArray
  | [] => hi
  | p :: _ => some (lowHd p)
theorem head_flat {α : Type} {ks : List (ByteArray × α)} {pss : List (List (ByteArray × α))} (he : pss.flatten = ks) (hne : ∀ p ∈ pss, p ≠ []) (hi : Option ByteArray) : nextLo hi ks = hdLo hi pss := by
  subst he
  cases pss with
  | nil => rfl
  | cons p r =>
    have := hne p List.mem_cons_self
    cases p with
    | nil => exact absurd rfl this
    | cons k q => rfl
theorem over_plain {h : Nat} {lo : ByteArray} {hi : Option ByteArray} {ks : List (ByteArray × TrH h)} {W : List Nt} (hl : Lv h lo hi ks W) (h6 : W.length ≤ 6) {pss : List (List (ByteArray × TrH h))} (he : pss.flatten = ks) (hp : ∀ p ∈ pss, p ≠ [] ∧ p.length ≤ 4) :
    okK (okN (h + 1)) hi (overN h pss W) ∧ lowsOf (overN h pss W) = pss.map lowHd ∧ kp (h + 1) (overN h pss W) = foldOne (kp h ks) W ∧ szK (h + 1) (overN h pss W) = szK h ks + W.length ∧ risesS (pss.map lowHd) = true ∧ splitA W (pss.map lowHd) = splitL W (pss.map lowHd) := by
  obtain ⟨hk, hw, hin, hnil, hfst⟩ := hl
  have hpw : (pss.map lowHd).Pairwise fun a b => a < b := by
    have h1 := (okNK_mem hk).2.1
    rw [← he] at h1
    clear he hnil hfst
    induction pss with
    | nil => exact .nil
    | cons p r ih =>
      rw [List.flatten_cons, List.pairwise_append] at h1
      rw [List.map_cons, List.pairwise_cons]
      refine ⟨fun b hb => ?_, ih (fun q hq => hp q (List.mem_cons_of_mem _ hq)) h1.2.1⟩
      obtain ⟨q, hq, rfl⟩ := List.mem_map.1 hb
      have hp0 := (hp p List.mem_cons_self).1
      have hq0 := (hp q (List.mem_cons_of_mem _ hq)).1
      cases p with
      | nil => exact absurd rfl hp0
      | cons k p =>
        cases q with
        | nil => exact absurd rfl hq0
        | cons j q => exact h1.2.2 k List.mem_cons_self j (List.mem_flatten.2 ⟨_, hq, List.mem_cons_self⟩)
  have hr := rises_of hpw
  have hsp := split_at hw hr
  have hml : (pss.map lowHd).length = pss.length := by simp
  have hlen : (splitL W (pss.map lowHd)).length = pss.length := by rw [split_len, hml]
  have hzl : (overN h pss W).length = pss.length := by unfold overN; rw [hsp, List.length_zipWith, hlen, Nat.min_self]
  have hlows : lowsOf (overN h pss W) = pss.map lowHd := by
    unfold overN
    rw [hsp]
    refine List.ext_getElem (by simp [hlen]) fun i h1 h2 => ?_
    simp
  have hflat : (splitL W (pss.map lowHd)).flatten = W := by
    cases pss with
    | nil =>
      have e : ks = [] := he.symm
      rw [hnil e]; rfl
    | cons p r => exact split_flat (wellN_sorted hw) (by simp)
  have hget : ∀ i (h1 : i < (overN h pss W).length), ∃ (h2 : i < pss.length), (overN h pss W)[i] = (lowHd pss[i], (W.filter fun n => decide (partN' n.key (pss.map lowHd) = i), pss[i])) := fun i h1 => by
    have h2 : i < pss.length := by omega
    refine ⟨h2, ?_⟩
    have h3 := splitL_get (W := W) (lows := pss.map lowHd) (i := i) (by omega)
    rw [List.getElem?_eq_getElem (by omega)] at h3
    injection h3 with h3
    unfold overN
    simp only [hsp]
    rw [List.getElem_zipWith, h3]; rfl
  have hok : okK (okN (h + 1)) hi (overN h pss W) := by
    refine okK_of fun i h1 => ?_
    obtain ⟨h2, e⟩ := hget i h1
    have hnx : nextLo hi ((overN h pss W).drop (i + 1)) = nextLo hi (pss.drop (i + 1)).flatten := by
      have hd : ∀ p ∈ pss.drop (i + 1), p ≠ [] := fun p hp2 => (hp p (List.mem_of_mem_drop hp2)).1
      rw [head_flat rfl hd hi]
      by_cases hj : i + 1 < pss.length
      · rw [List.drop_eq_getElem_cons (show i + 1 < (overN h pss W).length by omega), List.drop_eq_getElem_cons hj]
        obtain ⟨h4, e4⟩ := hget (i + 1) (by omega)
        show some _ = some _
        rw [e4]
      · rw [List.drop_of_length_le (by omega), List.drop_of_length_le (by omega)]
        rfl
    rw [e, hnx]
    have eks : ks = (pss.take i).flatten ++ (pss[i] ++ (pss.drop (i + 1)).flatten) := by
      rw [← he, ← List.flatten_cons, ← List.drop_eq_getElem_cons h2, ← List.flatten_append, List.take_append_drop]
    have hk2 := hk
    rw [eks] at hk2
    have hk3 := (okK_append.1 (okK_append.1 hk2).2).1
    obtain ⟨hp0, hp4⟩ := hp pss[i] (List.getElem_mem h2)
    have hf0 : ∀ n ∈ W, ¬ n.key < (pss.map lowHd)[0]'(by omega) := fun n hn => by
      cases ks with
      | nil => rw [hnil rfl] at hn; cases hn
      | cons k r =>
        have h5 := head_flat he (fun p hp2 => (hp p hp2).1) hi
        cases pss with
        | nil => cases he
        | cons p q =>
          simp only [nextLo, hdLo] at h5
          injection h5 with h5
          simp only [List.map_cons, List.getElem_cons_zero]
          rw [← h5]
          exact (hfst k r rfl).2 n hn
    refine ⟨wellN_sub hw List.filter_sublist, Nat.le_trans (List.length_filter_le _ _) h6, fun n hn => ?_, hp4, ?_, hk3⟩
    · have h7 := part_in (by omega) hf0 hn
      refine inLow_iff.2 ⟨?_, ?_⟩
      · have h8 := h7.1
        simp only [List.getElem_map] at h8
        exact h8
      · have hd : ∀ p ∈ pss.drop (i + 1), p ≠ [] := fun p hp2 => (hp p (List.mem_of_mem_drop hp2)).1
        rw [head_flat rfl hd hi]
        by_cases hj : i + 1 < pss.length
        · rw [List.drop_eq_getElem_cons hj]
          have h8 := h7.2 (by omega)
          simp only [List.getElem_map] at h8
          exact decide_eq_true h8
        · rw [List.drop_of_length_le (by omega)]
          exact hin n (List.mem_filter.1 hn).1
    · cases e5 : pss[i] with
      | nil => exact absurd e5 hp0
      | cons k r => exact ⟨k.2, r, rfl⟩
  refine ⟨hok, hlows, ?_, ?_, hr, hsp⟩
  · rw [kp_each hok]
    have e1 : (overN h pss W).flatMap (fun k => k.2.2) = ks := by
      unfold overN
      rw [hsp, ← he]
      exact (zipW_l (fun (p : List (ByteArray × TrH h)) (w : List Nt) => ((lowHd p, (w, p)) : ByteArray × TrH (h + 1))) (fun k => k.2.2) id (fun a b => rfl) _ _ hlen.symm).trans List.flatMap_id
    have e2 : (overN h pss W).flatMap (fun k => k.2.1) = W := by
      unfold overN
      rw [hsp]
      exact (zipW_r (fun (p : List (ByteArray × TrH h)) (w : List Nt) => ((lowHd p, (w, p)) : ByteArray × TrH (h + 1))) (fun k => k.2.1) id (fun a b => rfl) _ _ hlen.symm).trans (List.flatMap_id.trans hflat)
    rw [e1, e2]
  · unfold overN
    rw [hsp, szS_zip h _ _ hlen.symm, he, hflat]

end Go.Proofs.Yteddjmkoleclpaa
