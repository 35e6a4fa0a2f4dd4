/- Items that are all dirty, and of unlike numbers: each one is there, or went, just once; append of a slice of items onto a row of the call's own. -/
import Derived.Test.YthoffknkpogfhaaMst
import Derived.Test.YthoffknkpogfhaaOpenK
set_option linter.unusedVariables false
set_option linter.unusedSimpArgs false
namespace Go.Proofs.Ythoffknkpogfhaa
open Go.RowKit

def dirt (a : Int) : It := ⟨a, ⟨#[]⟩, true⟩
theorem keep_perm (n : Nat) (hn : 1 ≤ n) (h100 : n ≤ 100) (xs : List It) (h : (xs.map It.a).Nodup) (hd : ∀ x ∈ xs, x.d = true) : ((putL n [] xs).2 ++ (putL n [] xs).1).Perm xs := by
  generalize hr : xs.reverse = ys
  have e : xs = ys.reverse := by rw [← hr, List.reverse_reverse]
  subst e
  clear hr
  induction ys with
  | nil => simp [putL_nil]
  | cons y ys ih =>
    rw [List.reverse_cons] at h hd ⊢
    have h1 : (ys.reverse.map It.a).Nodup := h.sublist ((List.sublist_append_left _ _).map _)
    have h2 := ih h1 (fun x hx => hd x (List.mem_append_left _ hx))
    rw [putL_snoc]
    have hR := put_right (right_nil n hn h100) ys.reverse
    generalize putL (n : Int) [] ys.reverse = s at h2 hR
    obtain ⟨P, O⟩ := s
    simp only at h2 hR
    have hsub : ∀ x ∈ P, x ∈ ys.reverse := fun x hx => h2.subset (List.mem_append_right _ hx)
    have hy : y.a ∉ P.map It.a := by
      intro hm
      obtain ⟨x, hx, e⟩ := List.mem_map.1 hm
      have h3 := hsub x hx
      rw [List.map_append, List.nodup_append] at h
      exact h.2.2 x.a (List.mem_map.2 ⟨x, h3, rfl⟩) y.a (by simp) e
    rw [right_iff] at hR
    show (O ++ outD (goneL n P y) ++ useL n P y).Perm (ys.reverse ++ [y])
    unfold goneL useL front gone cutL
    rw [without_none hy]
    by_cases hle : ((y :: P).length : Int) ≤ n
    · rw [if_pos hle, if_pos hle]
      show (O ++ [] ++ y :: P).Perm _
      rw [List.append_nil]
      exact List.perm_middle.trans ((List.Perm.cons y h2).trans (List.perm_append_comm (l₁ := [y])))
    · rw [if_neg hle, if_neg hle]
      have hne : y :: P ≠ [] := by simp
      rw [List.getLast?_eq_some_getLast hne]
      have hP : P ≠ [] := by
        intro e
        rw [e] at hle
        simp at hle
        omega
      have hl : ((y :: P).getLast hne).d = true := by
        rw [List.getLast_cons hP]
        exact hd _ (List.mem_append_left _ (hsub _ (List.getLast_mem hP)))
      show (O ++ (if ((y :: P).getLast hne).d then [(y :: P).getLast hne] else []) ++ (y :: P).dropLast).Perm _
      rw [hl, if_pos rfl, List.append_assoc]
      have e2 : ([(y :: P).getLast hne] ++ (y :: P).dropLast).Perm (y :: P) := by
        have h5 := List.dropLast_concat_getLast hne
        exact (List.perm_append_comm).trans (by rw [h5])
      exact (List.Perm.append_left O e2).trans (List.perm_middle.trans ((List.Perm.cons y h2).trans (List.perm_append_comm (l₁ := [y]))))
theorem filter_all {l : List It} (h : ∀ x ∈ l, x.d = true) : l.filter It.d = l := List.filter_eq_self.2 h
theorem filter_wash (l : List It) : (l.map wash).filter It.d = [] := by
  rw [List.filter_eq_nil_iff]
  intro x hx
  obtain ⟨y, _, rfl⟩ := List.mem_map.1 hx
  simp [wash]
theorem right_wash {m : Int} {l : List It} (h : rightL m l = true) : rightL m (l.map wash) = true := by
  rw [right_iff] at *
  refine ⟨h.1, h.2.1, by rw [List.length_map]; exact h.2.2.1, ?_⟩
  have e : (l.map wash).map It.a = l.map It.a := by rw [List.map_map]; rfl
  rw [e]
  exact h.2.2.2

section
variable {T S : TypeId} (hinfo : (Try.prog.info? T).map (fun i => (i.zero, i.size, i.bytes)) = some (some (.agg #[.int .i64 0, .string ⟨#[]⟩, .bool false]), 3, 32)) (hund : Try.prog.underlying S = some (.slice T))
include hinfo hund
/-- 'append(v, u...)', v a row of the call's own, u a slice of items. -/
theorem run_app_iv (w : World) (base : Nat) (v : Value) (n : Nat) (xs : List Value) (hown : w.ownsRow base T 3 v n xs) {u : Value} {l : List It} (hv : IV w u l) (hn : n + l.length ≤ 100000) (hbase : base ≤ w.heap.size) :
    ∃ v' w', (∀ ty, (Builtin.append_ #[S, S] ty #[v, u]).run Try.prog w = .ok v' w') ∧ w'.ownsRow base T 3 v' (n + l.length) (xs ++ l.flatMap It.cells) ∧ w.grownBy w' v.ownBlock ∧ (v'.ownBlock = v.ownBlock ∨ v'.ownBlock = some w.heap.size) := by
  obtain ⟨i0, hi0, hz0, hz1, hz2⟩ := info_parts hinfo
  obtain ⟨A, c, rfl, hA, hc, h0⟩ := hv
  cases A with
  | none =>
    obtain rfl := its_none hA
    have : c = 0 := h0 rfl
    subst this
    exact ⟨v, w, fun ty => run_append_owned_none w base S ty T i0 3 hund hi0 v n xs hown, by simpa using hown, ⟨rfl, rfl, rfl, Nat.le_refl _, fun _ _ _ => rfl⟩, .inl rfl⟩
  | some ad =>
    obtain ⟨v', w', h1, h2, h3, _, h5⟩ := run_append_own_at (P := Try.prog) w base S 0 T i0 (.agg #[.int .i64 0, .string ⟨#[]⟩, .bool false]) 3 32 hund hi0 hz0 hz1 hz2 rfl (by decide) v n xs hown ad l.length c (l.flatMap It.cells) (its_len l)
      (its_cells hA) (its_plain l) (by unfold maxLen; omega) (by omega) hbase
    exact ⟨v', w', fun ty => h1, h2, h3, h5⟩
end
theorem NVi.shape {w : World} {v : Value} {l : List Int} {n : Nat} (h : NVi w v l) (hn : l.length = n) : ∃ A c, v = .slice A n c := by
  obtain ⟨A, c, rfl, _⟩ := h
  exact ⟨A, c, by rw [hn]⟩
theorem NVi.on {w w' : World} {v : Value} {l : List Int} (h : NVi w v l) (hb : Below w.heap.size w w') : NVi w' v l := by
  obtain ⟨A, c, e, hp, h2⟩ := h
  exact ⟨A, c, e, hp.on hb, h2⟩

end Go.Proofs.Ythoffknkpogfhaa
