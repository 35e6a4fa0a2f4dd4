/- Disks as values: sectors and writes, what is right, what is there when writes were done, which are kept; plain facts. -/
import Derived.Test.YtdgjnjhmjgdhnaaDoorLies
import Derived.Test.YtdgjnjhmjgdhnaaDoorBox
import Derived.Lib.SmallJoins
namespace Go.Proofs.YtdgjnjhmjgdhnaaDoor
open Go.RowKit

/-- A write. -/
structure Wr where
  a : Int
  tx : ByteArray
deriving DecidableEq
def Wr.cells (x : Wr) : List Value := [.int .i64 x.a, .string x.tx]
theorem Wr.cells2 (x : Wr) : x.cells.length = 2 := rfl

/-- The slice value '.slice A l.length c' holds the writes l. -/
abbrev Wrs (w : World) (B : Nat) (A : Option Addr) (l : List Wr) : Prop := Lies Wr.cells 2 w B A l
theorem Lies.seeW {w : World} {B : Nat} {A : Option Addr} {l : List Wr} (h : Wrs w B A l) (hl : 0 < l.length) : ∃ ad, A = some ad ∧ ad.block < B ∧ ∀ (i : Nat) (h : i < l.length),
    w.cell? (ad.add (i * 2)) = some (.int .i64 l[i].a) ∧ w.cell? ⟨(ad.add (i * 2)).block, (ad.add (i * 2)).off + 1, none⟩ = some (.string l[i].tx) := by
  obtain ⟨ad, e, hB, hc⟩ := h hl
  refine ⟨ad, e, hB, fun i hi => ⟨?_, ?_⟩⟩
  · have := hc i hi 0 _ rfl; rwa [Addr.add_zero'] at this
  · have := hc i hi 1 _ rfl; rwa [Addr.add_succ'] at this

/-- The slice value '.slice A l.length c' holds the bools l. -/
def boolC (b : Bool) : List Value := [.bool b]
abbrev Bls (w : World) (B : Nat) (A : Option Addr) (l : List Bool) : Prop := Lies boolC 1 w B A l
theorem Lies.seeB {w : World} {B : Nat} {A : Option Addr} {l : List Bool} (h : Bls w B A l) (hl : 0 < l.length) : ∃ ad, A = some ad ∧ ad.block < B ∧ ∀ (i : Nat) (h : i < l.length), w.cell? (ad.add i) = some (.bool l[i]) := by
  obtain ⟨ad, e, hB, hc⟩ := h hl
  refine ⟨ad, e, hB, fun i hi => ?_⟩
  have := hc i hi 0 _ rfl
  rwa [Addr.add_zero', Nat.mul_one] at this

theorem Strs.on {w w' : World} {A : Option Addr} {l : List ByteArray} (h : Strs w w.heap.size A l) (hb : Below w.heap.size w w') : Strs w' w'.heap.size A l := (h.below hb).more hb.size

theorem strC_len (l : List ByteArray) : (l.map Value.string).length = l.length := by simp

/-- A row of strings of the call's own reads as a list. -/
theorem Strs.own {w : World} {base c : Nat} {e : TypeId} {A : Option Addr} {n : Nat} {l : List ByteArray} (h : w.ownsRow base e 1 (.slice A n c) l.length (l.map Value.string)) : Strs w w.heap.size A l := by
  intro hl
  rcases h.2 with ⟨_, h0⟩ | ⟨g, cap, cur, hv, hbg, hg, _⟩
  · omega
  · injection hv with hA
    subst hA
    refine ⟨_, rfl, (h.lt g rfl).2, fun i hi => ?_⟩
    exact h.cells (g := g) rfl i _ (by simp [hi])

/-! What is right. -/
def fillB (l : List ByteArray) : Bool := l.all fun x => x.size == 32
def wrB (n : Nat) (x : Wr) : Bool := x.tx.size == 32 && (decide (0 ≤ x.a) && decide (x.a < n))
def rightB (S : List ByteArray) (W : List Wr) : Bool := (decide (1 ≤ S.length) && decide (S.length ≤ 512)) && (fillB S && W.all (wrB S.length))
def hasB (n : Nat) (a k : Int) : Bool := decide (0 ≤ a ∧ a ≤ n ∧ 0 ≤ k ∧ k ≤ n - a)

theorem fill_take (l : List ByteArray) (k : Nat) (h : k < l.length) (hf : fillB (l.take k) = true) (hx : l[k].size = 32) : fillB (l.take (k + 1)) = true := by
  unfold fillB at *
  rw [List.take_succ_eq_append_getElem h, List.all_append, hf]
  simp [hx]
theorem fill_bad (l : List ByteArray) (k : Nat) (h : k < l.length) (hx : l[k].size ≠ 32) : fillB l = false := by
  unfold fillB
  rw [List.all_eq_false]
  exact ⟨l[k], List.getElem_mem h, by simpa using hx⟩
theorem fill_mem {l : List ByteArray} (h : fillB l = true) {x : ByteArray} (hx : x ∈ l) : x.size = 32 := by
  unfold fillB at h
  simpa using List.all_eq_true.1 h x hx

theorem right_parts {S : List ByteArray} {W : List Wr} (h : rightB S W = true) : 1 ≤ S.length ∧ S.length ≤ 512 ∧ fillB S = true ∧ ∀ x ∈ W, x.tx.size = 32 ∧ 0 ≤ x.a ∧ x.a < S.length := by
  unfold rightB at h
  simp only [Bool.and_eq_true, decide_eq_true_eq, List.all_eq_true] at h
  refine ⟨h.1.1, h.1.2, h.2.1, fun x hx => ?_⟩
  have := h.2.2 x hx
  unfold wrB at this
  simpa using this
theorem right_of {S : List ByteArray} {W : List Wr} (h1 : 1 ≤ S.length) (h2 : S.length ≤ 512) (h3 : fillB S = true) (h4 : ∀ x ∈ W, x.tx.size = 32 ∧ 0 ≤ x.a ∧ x.a < S.length) : rightB S W = true := by
  unfold rightB
  simp only [Bool.and_eq_true, decide_eq_true_eq, List.all_eq_true]
  refine ⟨⟨h1, h2⟩, h3, fun x hx => ?_⟩
  have := h4 x hx
  unfold wrB
  simpa using this

/-! What is there when writes were done. -/
def doneL (S : List ByteArray) (W : List Wr) : List ByteArray := W.foldl (fun s x => s.set x.a.toNat x.tx) S
theorem done_nil (S : List ByteArray) : doneL S [] = S := rfl
theorem done_len (S : List ByteArray) (W : List Wr) : (doneL S W).length = S.length := by
  unfold doneL
  induction W generalizing S with
  | nil => rfl
  | cons x W ih => rw [List.foldl_cons, ih, List.length_set]
theorem done_take (S : List ByteArray) (W : List Wr) (k : Nat) (h : k < W.length) : doneL S (W.take (k + 1)) = (doneL S (W.take k)).set W[k].a.toNat W[k].tx := by
  unfold doneL
  rw [List.take_succ_eq_append_getElem h, List.foldl_append]; rfl
theorem done_append (S : List ByteArray) (V W : List Wr) : doneL S (V ++ W) = doneL (doneL S V) W := by unfold doneL; rw [List.foldl_append]

/-- Each sector is what was there, or what one write has. -/
theorem done_one (S : List ByteArray) (W : List Wr) (i : Nat) (h : i < S.length) (hW : ∀ x ∈ W, 0 ≤ x.a) : (doneL S W)[i]'(by rw [done_len]; exact h) = S[i] ∨ ∃ x ∈ W, x.a = i ∧ x.tx = (doneL S W)[i]'(by rw [done_len]; exact h) := by
  induction W generalizing S with
  | nil => exact .inl rfl
  | cons x W ih =>
    have h1 := ih (S.set x.a.toNat x.tx) (by simpa using h) (fun y hy => hW y (List.mem_cons_of_mem _ hy))
    have e : doneL S (x :: W) = doneL (S.set x.a.toNat x.tx) W := rfl
    simp only [e]
    rcases h1 with h1 | ⟨y, hy, h1, h2⟩
    · rw [h1, List.getElem_set]
      by_cases hx : x.a.toNat = i
      · rw [if_pos hx]
        refine .inr ⟨x, List.mem_cons_self, ?_, rfl⟩
        have := hW x List.mem_cons_self
        omega
      · rw [if_neg hx]; exact .inl rfl
    · exact .inr ⟨y, List.mem_cons_of_mem _ hy, h1, h2⟩
theorem done_fill {S : List ByteArray} {W : List Wr} (hS : fillB S = true) (hW : ∀ x ∈ W, x.tx.size = 32 ∧ 0 ≤ x.a) : fillB (doneL S W) = true := by
  unfold fillB
  rw [List.all_eq_true]
  intro y hy
  obtain ⟨i, hi, rfl⟩ := List.getElem_of_mem hy
  have hi2 : i < S.length := by rwa [done_len] at hi
  rcases done_one S W i hi2 (fun x hx => (hW x hx).2) with h | ⟨x, hx, _, h⟩
  · rw [h]; simpa using fill_mem hS (List.getElem_mem hi2)
  · rw [← h]; simpa using (hW x hx).1
theorem done_right {S : List ByteArray} {W V : List Wr} (h : rightB S W = true) (hV : ∀ x ∈ V, x ∈ W) : rightB (doneL S V) [] = true := by
  obtain ⟨h1, h2, h3, h4⟩ := right_parts h
  refine right_of (by rw [done_len]; exact h1) (by rw [done_len]; exact h2) (done_fill h3 fun x hx => ?_) (by simp)
  have := h4 x (hV x hx)
  exact ⟨this.1, this.2.1⟩

/-! Texts, put from a place on. -/
def putL (a : Int) : List ByteArray → List Wr
  | [] => []
  | t :: l => ⟨a, t⟩ :: putL (a + 1) l
theorem put_len (a : Int) (l : List ByteArray) : (putL a l).length = l.length := by
  induction l generalizing a with
  | nil => rfl
  | cons t l ih => simp [putL, ih]
theorem put_append (a : Int) (l m : List ByteArray) : putL a (l ++ m) = putL a l ++ putL (a + l.length) m := by
  induction l generalizing a with
  | nil => simp [putL]
  | cons t l ih => simp only [List.cons_append, putL, ih, List.length_cons]; congr 3; omega
theorem put_take (a : Int) (l : List ByteArray) (k : Nat) (h : k < l.length) : putL a (l.take (k + 1)) = putL a (l.take k) ++ [⟨a + k, l[k]⟩] := by
  rw [List.take_succ_eq_append_getElem h, put_append]
  have e : (l.take k).length = k := by rw [List.length_take]; omega
  rw [e]; rfl
theorem put_mem {a : Int} {l : List ByteArray} {x : Wr} (h : x ∈ putL a l) : a ≤ x.a ∧ x.a < a + l.length ∧ x.tx ∈ l := by
  induction l generalizing a with
  | nil => simp [putL] at h
  | cons t l ih =>
    simp only [putL, List.mem_cons] at h
    rcases h with rfl | h
    · simp; omega
    · obtain ⟨h1, h2, h3⟩ := ih h
      simp only [List.length_cons, List.mem_cons]
      exact ⟨by omega, by omega, .inr h3⟩
theorem put_right {S : List ByteArray} {W : List Wr} {a : Int} {l : List ByteArray} (h : rightB S W = true) (hf : fillB l = true) (hh : hasB S.length a l.length = true) : rightB S (W ++ putL a l) = true := by
  obtain ⟨h1, h2, h3, h4⟩ := right_parts h
  unfold hasB at hh
  simp only [decide_eq_true_eq] at hh
  refine right_of h1 h2 h3 fun x hx => ?_
  rcases List.mem_append.1 hx with hx | hx
  · exact h4 x hx
  · obtain ⟨p1, p2, p3⟩ := put_mem hx
    exact ⟨fill_mem hf p3, by omega, by omega⟩
/-- What was put is there, other sectors stay. -/
theorem done_put (S : List ByteArray) (a : Nat) (l : List ByteArray) (hl : a + l.length ≤ S.length) (i : Nat) (h : i < S.length) :
    (doneL S (putL a l))[i]'(by rw [done_len]; exact h) = if h2 : a ≤ i ∧ i < a + l.length then l[i - a]'(by omega) else S[i] := by
  induction l generalizing S a with
  | nil => rw [dif_neg (by simp only [List.length_nil]; omega)]; rfl
  | cons t l ih =>
    have e : doneL S (putL a (t :: l)) = doneL (S.set a t) (putL ((a + 1 : Nat) : Int) l) := rfl
    simp only [e]
    simp only [List.length_cons] at hl
    rw [ih (S.set a t) (a + 1) (by simpa using (by omega : a + 1 + l.length ≤ S.length)) (by simpa using h)]
    by_cases h1 : a + 1 ≤ i ∧ i < a + 1 + l.length
    · rw [dif_pos h1, dif_pos (by simp only [List.length_cons]; omega)]
      have e2 : i - a = i - (a + 1) + 1 := by omega
      simp only [e2, List.getElem_cons_succ]
    · rw [dif_neg h1, List.getElem_set]
      by_cases h3 : a = i
      · rw [if_pos h3, dif_pos (by simp only [List.length_cons]; omega)]
        have e2 : i - a = 0 := by omega
        simp only [e2, List.getElem_cons_zero]
      · rw [if_neg h3, dif_neg (by simp only [List.length_cons]; omega)]

/-! Which are kept. -/
def keptL : List Bool → List Wr → List Wr
  | _, [] => []
  | [], _ => []
  | b :: ks, x :: W => if b then x :: keptL ks W else keptL ks W
theorem kept_none (W : List Wr) : keptL [] W = [] := by cases W <;> rfl
theorem kept_nil (ks : List Bool) : keptL ks [] = [] := by cases ks <;> rfl
theorem kept_mem {ks : List Bool} {W : List Wr} {x : Wr} (h : x ∈ keptL ks W) : x ∈ W := by
  induction W generalizing ks with
  | nil => rw [kept_nil] at h; exact h
  | cons y W ih =>
    cases ks with
    | nil => rw [kept_none] at h; cases h
    | cons b ks =>
      simp only [keptL] at h
      split at h
      · rcases List.mem_cons.1 h with rfl | h
        · exact List.mem_cons_self
        · exact List.mem_cons_of_mem _ (ih h)
      · exact List.mem_cons_of_mem _ (ih h)
theorem kept_all (W : List Wr) : keptL (List.replicate W.length true) W = W := by
  induction W with
  | nil => rfl
  | cons y W ih => simp [List.replicate_succ, keptL, ih]
theorem kept_len (ks : List Bool) (W : List Wr) : (keptL ks W).length ≤ W.length := by
  induction W generalizing ks with
  | nil => rw [kept_nil]; simp
  | cons y W ih =>
    cases ks with
    | nil => rw [kept_none]; simp
    | cons b ks =>
      have := ih ks
      simp only [keptL]
      split <;> simp only [List.length_cons] <;> omega
theorem kept_take (ks : List Bool) (W : List Wr) (k : Nat) (h : k < W.length) : keptL ks (W.take (k + 1)) = keptL ks (W.take k) ++ (if ks.getD k false then [W[k]] else []) := by
  induction W generalizing ks k with
  | nil => simp at h
  | cons y W ih =>
    cases ks with
    | nil => rw [kept_none, kept_none]; simp
    | cons b ks =>
      cases k with
      | zero => simp only [List.take_succ_cons, List.take_zero, kept_nil, keptL, List.getD_cons_zero, List.getElem_cons_zero, List.nil_append]
      | succ k =>
        simp only [List.take_succ_cons, keptL, List.getD_cons_succ, List.getElem_cons_succ]
        rw [ih ks k (by simpa using h)]
        cases b <;> simp

end Go.Proofs.YtdgjnjhmjgdhnaaDoor
