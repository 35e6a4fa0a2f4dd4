/- 'append(append([]T{}, a...), b...)': of changes, of ints, of slices of notes. -/
import Derived.Test.YtnlmdgbkfoofoaaRB
import Derived.Test.YtnlmdgbkfoofoaaRSame
set_option linter.unusedVariables false
set_option linter.unusedSimpArgs false
namespace Go.Proofs.Ytnlmdgbkfoofoaa
open Go.RowKit

theorem own_lit0 (w : World) (e k : Nat) {base : Nat} (hb : base ≤ w.heap.size) : (w.alloc (.cells #[] e)).ownsRow base e k (.slice (some ⟨w.heap.size, 0, none⟩) 0 0) 0 [] :=
  ⟨by simp, .inr ⟨w.heap.size, 0, #[], rfl, hb, heap_alloc_new w _, Nat.le_refl _, by unfold maxLen; omega, by simp, by simp⟩⟩

/-- What an append comes to: a structure, so that it is compared by its parts alone. -/
structure AppR (t : TypeId) (w : World) (v u v' : Value) (w' : World) : Prop where
  run : ∀ ty, (Builtin.append_ #[t, t] ty #[v, u]).run Try.prog w = .ok v' w'
theorem wpList_app (w : World) {ops : Array Oper} {rest : List Oper} {o : Oper} {a : Act} {Q : Exit → Act → World → Prop} (hgd : o.guard = none) (s x : Operand) (t : TypeId)
    (ho : o.op = .call { callee := .builtin .append, args := #[s, x], argTypes := #[t, t] }) (vs vx : Value) (hs : a.eval s = vs) (hx : a.eval x = vx)
    (v' : Value) (w' : World) (hr : AppR t w vs vx v' w') (h : wpList Try.prog ops Q rest (a.put o.dst v') w') : wpList Try.prog ops Q (o :: rest) a w :=
  Lib.wpList_append_run w hgd s x t t ho vs vx hs hx v' w' (hr.run _) h
/-- .. of an operation that is guarded, and wanted. -/
theorem wpList_app_g (w : World) {ops : Array Oper} {rest : List Oper} {o : Oper} {a : Act} {Q : Exit → Act → World → Prop} (hw : Region.wanted o (yielded ops a.tmps) = true) (s x : Operand) (t : TypeId)
    (ho : o.op = .call { callee := .builtin .append, args := #[s, x], argTypes := #[t, t] }) (vs vx : Value) (hs : a.eval s = vs) (hx : a.eval x = vx)
    (v' : Value) (w' : World) (hr : AppR t w vs vx v' w') (h : wpList Try.prog ops Q rest (a.put o.dst v') w') : wpList Try.prog ops Q (o :: rest) a w :=
  wpList_step fun K hK => by
    rw [if_pos hw]
    exact Lib.wp_append_run w s x t t ho vs vx hs hx v' w' (hr.run _) (hK _ _ h)

theorem own_slice {w : World} {base e k n : Nat} {v : Value} {xs : List Value} (h : w.ownsRow base e k v n xs) : ∃ A n c, v = .slice A n c := by
  obtain ⟨A, c, e⟩ := own_shape h
  exact ⟨A, n, c, e⟩

theorem two_cv {w : World} {u v : Value} {l m : List Ch} (hu : CV w u l) (hv : CV w v m) (hn : l.length + m.length ≤ 100000) :
    ∃ v1 w1 v2 w2, AppR 27 (w.alloc (.cells #[] 49)) (.slice (some ⟨w.heap.size, 0, none⟩) 0 0) u v1 w1 ∧ AppR 27 w1 v1 v v2 w2 ∧ CV w2 v2 (l ++ m) ∧ Below w.heap.size w w2 ∧ ∃ A n c, v1 = .slice A n c := by
  have hb0 : Below w.heap.size w (w.alloc (.cells #[] 49)) := (Below.refl _ _).alloc (Nat.le_refl _) _
  obtain ⟨v1, w1, h1, h2, h3, _⟩ := run_app_cv _ w.heap.size _ 0 [] (own_lit0 w 49 6 (Nat.le_refl _)) (hu.on hb0) (by omega) hb0.size
  have hb1 : Below w.heap.size w w1 := hb0.grown h3 hb0.size (fun k hk => by simp [Value.ownBlock] at hk; omega)
  obtain ⟨v2, w2, h4, h5, h6, _⟩ := run_app_cv _ w.heap.size _ _ _ h2 (hv.on hb1) (by omega) hb1.size
  have hb2 : Below w.heap.size w w2 := hb1.grown h6 hb1.size (fun k hk => (own_lt h2 hk).1)
  refine ⟨v1, w1, v2, w2, ⟨h1⟩, ⟨h4⟩, CV.own (l := l ++ m) (base := w.heap.size) (n := 0 + l.length + m.length) ?_ (by simp), hb2, own_slice h2⟩
  rw [List.flatMap_append]
  simpa using h5
theorem two_is {w : World} {u v : Value} {l m : List Int} (hu : IS w u l) (hv : IS w v m) (hn : l.length + m.length ≤ 100000) :
    ∃ v1 w1 v2 w2, AppR 38 (w.alloc (.cells #[] 3)) (.slice (some ⟨w.heap.size, 0, none⟩) 0 0) u v1 w1 ∧ AppR 38 w1 v1 v v2 w2 ∧ IS w2 v2 (l ++ m) ∧ Below w.heap.size w w2 ∧ ∃ A n c, v1 = .slice A n c := by
  have hb0 : Below w.heap.size w (w.alloc (.cells #[] 3)) := (Below.refl _ _).alloc (Nat.le_refl _) _
  obtain ⟨v1, w1, h1, h2, h3, _⟩ := run_app_is _ w.heap.size _ 0 [] (own_lit0 w 3 1 (Nat.le_refl _)) (hu.on hb0) (by omega) hb0.size
  have hb1 : Below w.heap.size w w1 := hb0.grown h3 hb0.size (fun k hk => by simp [Value.ownBlock] at hk; omega)
  obtain ⟨v2, w2, h4, h5, h6, _⟩ := run_app_is _ w.heap.size _ _ _ h2 (hv.on hb1) (by omega) hb1.size
  have hb2 : Below w.heap.size w w2 := hb1.grown h6 hb1.size (fun k hk => (own_lt h2 hk).1)
  refine ⟨v1, w1, v2, w2, ⟨h1⟩, ⟨h4⟩, IS.own (l := l ++ m) (base := w.heap.size) (n := 0 + l.length + m.length) ?_ (by simp), hb2, own_slice h2⟩
  rw [List.flatMap_append]
  simpa using h5
theorem two_nvv {w : World} {u v : Value} {l m : List (List Nt)} (hu : NVV w u l) (hv : NVV w v m) (hn : l.length + m.length ≤ 100000) :
    ∃ v1 w1 v2 w2, AppR 37 (w.alloc (.cells #[] 23)) (.slice (some ⟨w.heap.size, 0, none⟩) 0 0) u v1 w1 ∧ AppR 37 w1 v1 v v2 w2 ∧ NVV w2 v2 (l ++ m) ∧ Below w.heap.size w w2 ∧ ∃ A n c, v1 = .slice A n c := by
  obtain ⟨A, c, us, rfl, a1, a2, a3⟩ := hu.vals
  obtain ⟨B, d, vs, rfl, b1, b2, b3⟩ := hv.vals
  have hul := a2.len
  have hvl := b2.len
  rw [← hul, ← hvl]
  have hb0 : Below w.heap.size w (w.alloc (.cells #[] 23)) := (Below.refl _ _).alloc (Nat.le_refl _) _
  obtain ⟨v1, w1, h1, h2, h3, _⟩ := run_app_nvv _ w.heap.size _ 0 [] (own_lit0 w 23 1 (Nat.le_refl _)) (a1.below hb0) a3 a2.plain (by omega) hb0.size
  have hb1 : Below w.heap.size w w1 := hb0.grown h3 hb0.size (fun k hk => by simp [Value.ownBlock] at hk; omega)
  obtain ⟨v2, w2, h4, h5, h6, _⟩ := run_app_nvv _ w.heap.size _ _ _ h2 (b1.below hb1) b3 b2.plain (by omega) hb1.size
  have hb2 : Below w.heap.size w w2 := hb1.grown h6 hb1.size (fun k hk => (own_lt h2 hk).1)
  refine ⟨v1, w1, v2, w2, ⟨h1⟩, ⟨h4⟩, NVB.own (base := w.heap.size) (B := w.heap.size) (vs := us ++ vs) ?_ ((a2.append b2).below hb2) hb2.size, hb2, own_slice h2⟩
  rw [List.length_append]
  simpa using h5

/-! Batches in two parts. -/
theorem allE_shift (p : List Pr) (C D : List Ch) (s : Int) (bs : List (List Nt)) : allE ⟨p, C, s⟩ bs = allE ⟨p, D, s⟩ bs := by
  induction bs generalizing p C D s with
  | nil => rfl
  | cons b bs ih =>
    show (if runE p s b = 0 then allE (runR ⟨p, C, s⟩ b) bs else runE p s b) = (if runE p s b = 0 then allE (runR ⟨p, D, s⟩ b) bs else runE p s b)
    rw [run_from p C, run_from p D]
    rw [ih _ _ (D ++ (runR (rs0 p s) b).C)]
theorem endsR_shift (p : List Pr) (C D : List Ch) (s : Int) (bs : List (List Nt)) : endsR ⟨p, C, s⟩ bs = endsR ⟨p, D, s⟩ bs := by
  induction bs generalizing p C D s with
  | nil => rfl
  | cons b bs ih =>
    show (runR ⟨p, C, s⟩ b).s :: endsR (runR ⟨p, C, s⟩ b) bs = (runR ⟨p, D, s⟩ b).s :: endsR (runR ⟨p, D, s⟩ b) bs
    rw [run_from p C, run_from p D]
    rw [ih _ _ (D ++ (runR (rs0 p s) b).C)]
theorem goR_shift (p : List Pr) (C D : List Ch) (s : Int) (bs : List (List Nt)) : goR ⟨p, C ++ D, s⟩ bs = ⟨(goR ⟨p, D, s⟩ bs).p, C ++ (goR ⟨p, D, s⟩ bs).C, (goR ⟨p, D, s⟩ bs).s⟩ := by
  induction bs generalizing p D s with
  | nil => rfl
  | cons b bs ih =>
    show goR (runR ⟨p, C ++ D, s⟩ b) bs = ⟨(goR (runR ⟨p, D, s⟩ b) bs).p, C ++ (goR (runR ⟨p, D, s⟩ b) bs).C, (goR (runR ⟨p, D, s⟩ b) bs).s⟩
    rw [run_shift p C D]
    exact ih _ _ _
theorem goR_from (p : List Pr) (C : List Ch) (s : Int) (bs : List (List Nt)) : goR ⟨p, C, s⟩ bs = ⟨(goR (rs0 p s) bs).p, C ++ (goR (rs0 p s) bs).C, (goR (rs0 p s) bs).s⟩ := by
  have := goR_shift p C [] s bs
  rwa [List.append_nil] at this
theorem parts_at {l : List Pr} {s : Int} {a : List (List Nt)} (h : outE l s a = 0) : goR (rs0 l s) a = ⟨outP l s a, outC l s a, s + (outC l s a).length⟩ := by
  obtain ⟨h1, h2, _⟩ := out_yes h
  have hs : (goR (rs0 l s) a).s = s + (outC l s a).length := by
    by_cases ha : a = []
    · subst ha; show s = s + ((0 : Nat) : Int); omega
    · have := (out_inv ha h).1.seq
      rw [h1]; exact this
  rw [← hs, h1, h2]
theorem parts_E {l : List Pr} {s : Int} {a b : List (List Nt)} (h : outE l s a = 0) : outE l s (a ++ b) = outE (outP l s a) (s + (outC l s a).length) b := by
  show allE (rs0 l s) (a ++ b) = allE (rs0 _ _) b
  have h' : allE (rs0 l s) a = 0 := h
  rw [allE_append, if_pos h', parts_at h]
  exact allE_shift _ _ _ _ _
theorem parts_no' {l : List Pr} {s : Int} {a b : List (List Nt)} (h : outE l s (a ++ b) ≠ 0) : outE l s a ≠ 0 ∨ outE (outP l s a) (s + (outC l s a).length) b ≠ 0 := by
  by_cases e : outE l s a = 0
  · right; rw [← parts_E e]; exact h
  · exact .inl e
theorem parts_yes' {l : List Pr} {s : Int} {a b : List (List Nt)} (h : outE l s (a ++ b) = 0) :
    outE l s a = 0 ∧ outE (outP l s a) (s + (outC l s a).length) b = 0 ∧ outC l s (a ++ b) = outC l s a ++ outC (outP l s a) (s + (outC l s a).length) b ∧ outP l s (a ++ b) = outP (outP l s a) (s + (outC l s a).length) b ∧
    outN l s (a ++ b) = outN l s a ++ outN (outP l s a) (s + (outC l s a).length) b := by
  have e : outE l s a = 0 := by
    have h' : allE (rs0 l s) (a ++ b) = 0 := h
    rw [allE_append] at h'
    by_cases e : allE (rs0 l s) a = 0
    · exact e
    · rw [if_neg e] at h'; exact absurd h' e
  have e2 := h
  rw [parts_E e] at e2
  have hg : goR (rs0 l s) (a ++ b) = goR ⟨outP l s a, outC l s a, s + (outC l s a).length⟩ b := by rw [goR_append, parts_at e]
  rw [goR_from (outP l s a) (outC l s a)] at hg
  obtain ⟨y1, y2, y3⟩ := out_yes h
  obtain ⟨z1, z2, z3⟩ := out_yes e2
  refine ⟨e, e2, ?_, ?_, ?_⟩
  · rw [y1, z1, hg]
  · rw [y2, z2, hg]
  · rw [y3, z3, (out_yes e).2.2, endsR_append, parts_at e]
    exact congrArg _ (endsR_shift _ _ _ _ _)
/-- The second call's Seq is a number. -/
theorem parts_seq {l : List Pr} {s : Int} {a : List (List Nt)} (hw : (Lit.int .i64 s).wf = true) (ha : a.length ≤ 100) : IntKind.i64.wrap (s + ((outC l s a).length : Int)) = s + (outC l s a).length := by
  have hs := (bounds_i64 hw)
  have hl := (out_len l s a).1
  by_cases h : outE l s a = 0
  · by_cases hb : a = []
    · subst hb
      have : (outC l s []).length = 0 := rfl
      rw [this]
      exact IntWalk.i64_in _ (by omega)
    · have h1 := (out_inv hb h).1.top
      have h2 := (out_inv hb h).1.seq
      have h3 := (out_inv hb h).1.low
      rw [← (out_yes h).1] at h2
      exact IntWalk.i64_in _ (by omega)
  · rw [(out_no h).1]
    exact IntWalk.i64_in _ (by simp; omega)

end Go.Proofs.Ytnlmdgbkfoofoaa
