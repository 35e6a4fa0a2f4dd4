/- Items, and caches of them, plain: what is found, used, put, cleaned. Nothing of the program. -/
import Derived.WalkKit
set_option linter.unusedVariables false
set_option linter.unusedSimpArgs false
namespace Go.Proofs.Ythoffknkpogfhaa

structure It where
  a : Int
  t : ByteArray
  d : Bool
deriving DecidableEq

def zI : It := ⟨0, ⟨#[]⟩, false⟩
/-- Where the first item of a number stands, or how many there are. -/
def atL (l : List It) (a : Int) : Nat := l.findIdx fun x => x.a == a
def idxL (l : List It) (a : Int) : Int := if atL l a < l.length then (atL l a : Int) else -1
def rightL (m : Int) (l : List It) : Bool := decide (1 ≤ m ∧ m ≤ 100 ∧ (l.length : Int) ≤ m ∧ (l.map It.a).Nodup)
def without (l : List It) (a : Int) : List It := l.eraseIdx (atL l a)
def front (l : List It) (x : It) : List It := x :: without l x.a
def cutL (m : Int) (l : List It) : List It := if (l.length : Int) ≤ m then l else l.dropLast
def gone (m : Int) (l : List It) : Option It := if (l.length : Int) ≤ m then none else l.getLast?
def outD : Option It → List It
  | some y => if y.d then [y] else []
  | none => []
def useL (m : Int) (l : List It) (x : It) : List It := cutL m (front l x)
def goneL (m : Int) (l : List It) (x : It) : Option It := gone m (front l x)
def stepP (m : Int) (s : List It × List It) (x : It) : List It × List It := (useL m s.1 x, s.2 ++ outD (goneL m s.1 x))
def putL (m : Int) (l xs : List It) : List It × List It := xs.foldl (stepP m) (l, [])
def wash (x : It) : It := ⟨x.a, x.t, false⟩

theorem atL_le (l : List It) (a : Int) : atL l a ≤ l.length := List.findIdx_le_length
theorem atL_has {l : List It} {a : Int} (h : atL l a < l.length) : l[atL l a].a = a := by
  have h1 := List.findIdx_getElem (p := fun x : It => x.a == a) (xs := l) (w := h)
  exact eq_of_beq h1
theorem atL_first {l : List It} {a : Int} {i : Nat} (h : i < atL l a) (hi : i < l.length) : l[i].a ≠ a := by
  have := List.not_of_lt_findIdx (p := fun x : It => x.a == a) (xs := l) h
  simpa using this
theorem atL_lt {l : List It} {a : Int} : atL l a < l.length ↔ a ∈ l.map It.a := by
  unfold atL
  rw [List.findIdx_lt_length, List.mem_map]
  simp
theorem atL_at {l : List It} {a : Int} {k : Nat} (hk : k < l.length) (h : l[k].a = a) (hf : ∀ i (hi : i < k), l[i].a ≠ a) : atL l a = k := by
  rcases Nat.lt_trichotomy (atL l a) k with h1 | h1 | h1
  · exact absurd (atL_has (l := l) (a := a) (by omega)) (hf _ h1)
  · exact h1
  · exact absurd h (atL_first h1 hk)
theorem atL_none {l : List It} {a : Int} (hf : ∀ i (hi : i < l.length), l[i].a ≠ a) : atL l a = l.length := by
  rcases Nat.lt_or_ge (atL l a) l.length with h | h
  · exact absurd (atL_has h) (hf _ h)
  · have := atL_le l a; omega
theorem idxL_has {l : List It} {a : Int} {k : Nat} (hk : k < l.length) (h : l[k].a = a) (hf : ∀ i (hi : i < k), l[i].a ≠ a) : idxL l a = k := by
  unfold idxL
  rw [atL_at hk h hf, if_pos hk]
theorem idxL_none {l : List It} {a : Int} (hf : ∀ i (hi : i < l.length), l[i].a ≠ a) : idxL l a = -1 := by
  unfold idxL
  rw [atL_none hf, if_neg (by omega)]
theorem idxL_ge {l : List It} {a : Int} : 0 ≤ idxL l a ↔ a ∈ l.map It.a := by
  unfold idxL
  rw [← atL_lt]
  split <;> omega
theorem idxL_take {l : List It} {k : Nat} {a : Int} : decide (0 ≤ idxL (l.take k) a) = decide (a ∈ (l.take k).map It.a) := by
  rw [decide_eq_decide]; exact idxL_ge

theorem without_len (l : List It) (a : Int) : (without l a).length = if a ∈ l.map It.a then l.length - 1 else l.length := by
  unfold without
  rw [List.length_eraseIdx]
  simp only [atL_lt]
theorem without_none {l : List It} {a : Int} (h : a ∉ l.map It.a) : without l a = l := by
  unfold without
  exact List.eraseIdx_of_length_le (Nat.not_lt.1 fun h1 => h (atL_lt.1 h1))
theorem without_cons (x : It) (l : List It) (a : Int) : without (x :: l) a = if x.a = a then l else x :: without l a := by
  unfold without atL
  rw [List.findIdx_cons]
  by_cases h : x.a = a
  · simp [h]
  · have h1 : (x.a == a) = false := by simpa using h
    simp [h, h1]
/-- Of unlike numbers: without one is all others. -/
theorem without_filter {l : List It} (h : (l.map It.a).Nodup) (a : Int) : without l a = l.filter fun x => decide (x.a ≠ a) := by
  induction l with
  | nil => rfl
  | cons x l ih =>
    rw [List.map_cons, List.nodup_cons] at h
    rw [without_cons, List.filter_cons]
    by_cases e : x.a = a
    · rw [if_pos e, if_neg (by simp [e])]
      subst e
      rw [List.filter_eq_self.2]
      intro y hy
      simp only [decide_eq_true_eq]
      exact fun e => h.1 (List.mem_map.2 ⟨y, hy, e⟩)
    · rw [if_neg e, if_pos (by simp [e]), ih h.2]
theorem mem_without {l : List It} (h : (l.map It.a).Nodup) {a b : Int} : b ∈ (without l a).map It.a ↔ b ∈ l.map It.a ∧ b ≠ a := by
  rw [without_filter h, List.mem_map, List.mem_map]
  simp only [List.mem_filter, decide_eq_true_eq]
  constructor
  · rintro ⟨x, ⟨h1, h2⟩, rfl⟩; exact ⟨⟨x, h1, rfl⟩, h2⟩
  · rintro ⟨⟨x, h1, rfl⟩, h2⟩; exact ⟨x, ⟨h1, h2⟩, rfl⟩
theorem without_nodup {l : List It} (h : (l.map It.a).Nodup) (a : Int) : ((without l a).map It.a).Nodup := by
  unfold without
  exact h.sublist ((List.eraseIdx_sublist l _).map _)
theorem front_nodup {l : List It} (h : (l.map It.a).Nodup) (x : It) : ((front l x).map It.a).Nodup := by
  unfold front
  rw [List.map_cons, List.nodup_cons]
  exact ⟨fun h1 => (mem_without h |>.1 h1).2 rfl, without_nodup h _⟩
theorem front_len (l : List It) (x : It) : (front l x).length = if x.a ∈ l.map It.a then l.length - 1 + 1 else l.length + 1 := by
  unfold front
  rw [List.length_cons, without_len]
  split <;> rfl
theorem front_le (l : List It) (x : It) : (front l x).length ≤ l.length + 1 := by rw [front_len]; split <;> omega
theorem front_pos (l : List It) (x : It) : 0 < (front l x).length := by simp [front]
theorem cutL_take {m : Nat} {l : List It} (h : l.length ≤ m + 1) : cutL m l = l.take m := by
  unfold cutL
  by_cases h1 : l.length ≤ m
  · rw [if_pos (by omega), List.take_of_length_le h1]
  · rw [if_neg (by omega), List.dropLast_eq_take, show l.length - 1 = m by omega]
theorem cutL_len {m : Int} {l : List It} (h : (l.length : Int) ≤ m + 1) : ((cutL m l).length : Int) ≤ m ∨ l.length = 0 := by
  unfold cutL
  split
  · exact .inl (by omega)
  · rw [List.length_dropLast]
    omega
theorem right_iff {m : Int} {l : List It} : rightL m l = true ↔ 1 ≤ m ∧ m ≤ 100 ∧ (l.length : Int) ≤ m ∧ (l.map It.a).Nodup := by unfold rightL; rw [decide_eq_true_eq]
theorem use_right {m : Int} {l : List It} (h : rightL m l = true) (x : It) : rightL m (useL m l x) = true := by
  rw [right_iff] at *
  obtain ⟨h1, h2, h3, h4⟩ := h
  refine ⟨h1, h2, ?_, ?_⟩
  · have := front_le l x
    rcases cutL_len (m := m) (l := front l x) (by omega) with h | h
    · exact h
    · have := front_pos l x; omega
  · unfold useL cutL
    split
    · exact front_nodup h4 x
    · exact (front_nodup h4 x).sublist ((List.dropLast_sublist _).map _)
theorem putL_nil (m : Int) (l : List It) : putL m l [] = (l, []) := rfl
theorem putL_snoc (m : Int) (l xs : List It) (x : It) : putL m l (xs ++ [x]) = stepP m (putL m l xs) x := by
  unfold putL
  rw [List.foldl_append]
  rfl
theorem putL_take (m : Int) (l xs : List It) {k : Nat} (hk : k < xs.length) : putL m l (xs.take (k + 1)) = stepP m (putL m l (xs.take k)) xs[k] := by
  rw [List.take_succ_eq_append_getElem hk, putL_snoc]
theorem foldP (m : Int) (l o : List It) (xs : List It) : xs.foldl (stepP m) (l, o) = ((putL m l xs).1, o ++ (putL m l xs).2) := by
  unfold putL
  induction xs generalizing l o with
  | nil => simp
  | cons x xs ih =>
    have e : ∀ o' : List It, stepP m (l, o') x = (useL m l x, o' ++ outD (goneL m l x)) := fun _ => rfl
    rw [List.foldl_cons, List.foldl_cons, e, e, ih, ih (o := [] ++ _)]
    simp [List.append_assoc]
theorem putL_append (m : Int) (l xs ys : List It) : putL m l (xs ++ ys) = ((putL m (putL m l xs).1 ys).1, (putL m l xs).2 ++ (putL m (putL m l xs).1 ys).2) := by
  rw [putL, List.foldl_append]
  rw [← putL, ← foldP]
theorem put_right {m : Int} {l : List It} (h : rightL m l = true) (xs : List It) : rightL m (putL m l xs).1 = true := by
  unfold putL
  suffices H : ∀ s : List It × List It, rightL m s.1 = true → rightL m (xs.foldl (stepP m) s).1 = true from H (l, []) h
  induction xs with
  | nil => intro s hs; exact hs
  | cons x xs ih => intro s hs; rw [List.foldl_cons]; exact ih _ (use_right hs x)
theorem right_len {m : Int} {l : List It} (h : rightL m l = true) : l.length ≤ 100 := by rw [right_iff] at h; omega
theorem outD_len (o : Option It) : (outD o).length ≤ 1 := by
  unfold outD
  cases o with
  | none => simp
  | some y => by_cases h : y.d <;> simp [h]
theorem put_out_len (m : Int) (l xs : List It) : (putL m l xs).2.length ≤ xs.length := by
  suffices H : ∀ s : List It × List It, (xs.foldl (stepP m) s).2.length ≤ s.2.length + xs.length from by simpa [putL] using H (l, [])
  induction xs with
  | nil => intro s; simp
  | cons x xs ih =>
    intro s
    rw [List.foldl_cons]
    refine Nat.le_trans (ih _) ?_
    have := outD_len (goneL m s.1 x)
    simp [stepP]
    omega

end Go.Proofs.Ythoffknkpogfhaa
