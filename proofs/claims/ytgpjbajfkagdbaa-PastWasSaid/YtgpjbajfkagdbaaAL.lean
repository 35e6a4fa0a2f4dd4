/- Slices of ints, and of slices of notes: as values; append onto rows of the call's own. -/
import Derived.Test.YtgpjbajfkagdbaaWB
set_option linter.unusedVariables false
set_option linter.unusedSimpArgs false
namespace Go.Proofs.Ytgpjbajfkagdbaa
open Go.RowKit

def intC (x : Int) : List Value := [.int .i64 x]
theorem intC1 (x : Int) : (intC x).length = 1 := rfl
abbrev Ins (w : World) (B : Nat) (A : Option Addr) (l : List Int) : Prop := Lies intC 1 w B A l
theorem int_info : (Try.prog.info? 3).map (fun i => (i.zero, i.size, i.bytes)) = some (some (.int .i64 0), 1, 8) := by kernel_rfl
theorem Lies.seeI {w : World} {B : Nat} {A : Option Addr} {l : List Int} (h : Ins w B A l) (hl : 0 < l.length) : ∃ ad, A = some ad ∧ ad.block < B ∧ ∀ (i : Nat) (h : i < l.length), w.cell? (ad.add i) = some (.int .i64 l[i]) := by
  obtain ⟨ad, e, hB, hc⟩ := h hl
  refine ⟨ad, e, hB, fun i hi => ?_⟩
  have := hc i hi 0 _ rfl
  rwa [Addr.add_zero', Nat.mul_one] at this
theorem ints_len (l : List Int) : (l.flatMap intC).length = l.length := by
  induction l with
  | nil => rfl
  | cons x l ih => rw [List.flatMap_cons, List.length_append, ih, intC1, List.length_cons]; omega
theorem ints_get (l : List Int) (j : Nat) : (l.flatMap intC)[j]? = l[j]?.map (.int .i64 ·) := by
  induction l generalizing j with
  | nil => simp
  | cons x l ih => cases j with
    | zero => rfl
    | succ j => show (l.flatMap intC)[j]? = _; rw [ih]; rfl
theorem ints_cells {w : World} {B : Nat} {ad : Addr} {l : List Int} (h : Ins w B (some ad) l) : ∀ j u, (l.flatMap intC)[j]? = some u → w.cell? (ad.add j) = some u := by
  intro j u hu
  have hj : j < l.length := by rw [← ints_len]; exact (List.getElem?_eq_some_iff.1 hu).1
  obtain ⟨ad', e, _, hc⟩ := h.seeI (by omega)
  injection e with e
  subst e
  rw [ints_get, List.getElem?_eq_getElem hj] at hu
  rw [hc j hj]
  exact hu
theorem ints_plain (l : List Int) : ∀ u ∈ l.flatMap intC, u.oneCell' = true := by
  intro u hu
  obtain ⟨x, _, hx⟩ := List.mem_flatMap.1 hu
  rw [List.mem_singleton.1 hx]
  rfl
/-- A value that is a slice of these ints. -/
def IS (w : World) (v : Value) (l : List Int) : Prop := ∃ A c, v = .slice A l.length c ∧ Ins w w.heap.size A l ∧ l.length ≤ c ∧ (A = none → c = 0)
theorem IS.on {w w' : World} {v : Value} {l : List Int} (h : IS w v l) (hb : Below w.heap.size w w') : IS w' v l := by
  obtain ⟨A, c, e, hp, h2⟩ := h
  exact ⟨A, c, e, hp.on hb, h2⟩
theorem IS.nil (w : World) : IS w (.slice none 0 0) [] := ⟨none, 0, rfl, Lies.nil, Nat.le_refl _, fun _ => rfl⟩
theorem IS.own {w : World} {base n : Nat} {v : Value} {l : List Int} (h : w.ownsRow base 3 1 v n (l.flatMap intC)) (hn : n = l.length) : IS w v l := by
  subst hn
  obtain ⟨A, c, rfl⟩ := own_shape h
  have h1 := row_cap h
  exact ⟨A, c, rfl, Lies.own intC1 h, h1.1, h1.2⟩
theorem IS.lit {w : World} {C : Array Value} {l : List Int} {g n : Nat} (hg : g = w.heap.size) (h : C.toList = l.flatMap intC) (hn : n = l.length) : IS (w.alloc (.cells C 3)) (.slice (some ⟨g, 0, none⟩) n n) l := by
  subst hg hn
  exact ⟨_, _, rfl, (Lies.lit intC1 h).more (by simp), Nat.le_refl _, fun h => by cases h⟩
theorem IS.see {w : World} {v : Value} {l : List Int} (h : IS w v l) : ∃ A c, v = .slice A l.length c ∧ ∀ i (hi : i < l.length), ∃ ad, A = some ad ∧ ad.block < w.heap.size ∧ w.cell? (ad.add i) = some (.int .i64 l[i]) := by
  obtain ⟨A, c, e, hp, _⟩ := h
  refine ⟨A, c, e, fun i hi => ?_⟩
  obtain ⟨ad, e1, h1, h2⟩ := hp.seeI (by omega)
  exact ⟨ad, e1, h1, h2 i hi⟩
theorem append_int (w : World) {ops : Array Oper} {rest : List Oper} {o : Oper} {a : Act} {Q : Exit → Act → World → Prop} (hgd : o.guard = none) (s x : Operand)
    (ho : o.op = .call { callee := .builtin .append, args := #[s, x], argTypes := #[49, 49] })
    (base : Nat) (v : Value) (n : Nat) (xs : List Value) (hs : a.eval s = v) (hown : w.ownsRow base 3 1 v n xs)
    (B g : Nat) (y : Int) (hx : a.eval x = .slice (some ⟨g, 0, none⟩) 1 1) (hr : Ins w B (some ⟨g, 0, none⟩) [y]) (hn : n ≤ 100000) (hbase : base ≤ w.heap.size)
    (h : ∀ v' w', w'.ownsRow base 3 1 v' (n + 1) (xs ++ intC y) → w.grownBy w' v.ownBlock → (v'.ownBlock = v.ownBlock ∨ v'.ownBlock = some w.heap.size) → wpList Try.prog ops Q rest (a.put o.dst v') w') : wpList Try.prog ops Q (o :: rest) a w := by
  obtain ⟨i0, hi0, hz0, hz1, hz2⟩ := info_parts int_info
  exact wpList_append_own_at w hgd s x 49 ho base 3 i0 (.int .i64 0) 1 8 Try.underlying49 hi0 hz0 hz1 hz2 rfl (by decide) v n xs hs hown ⟨g, 0, none⟩ 1 1 (intC y) hx rfl
    (fun j u hu => ints_cells hr j u (by simpa using hu)) (fun u hu => ints_plain [y] u (by simpa using hu)) (by unfold maxLen; omega) (by omega) hbase (fun v' w' h1 h2 _ h4 => h v' w' h1 h2 h4)
theorem run_app_is (w : World) (base : Nat) (v : Value) (n : Nat) (xs : List Value) (hown : w.ownsRow base 3 1 v n xs) {u : Value} {l : List Int} (hv : IS w u l) (hn : n + l.length ≤ 100000) (hbase : base ≤ w.heap.size) :
    ∃ v' w', (∀ ty, (Builtin.append_ #[49, 49] ty #[v, u]).run Try.prog w = .ok v' w') ∧ w'.ownsRow base 3 1 v' (n + l.length) (xs ++ l.flatMap intC) ∧ w.grownBy w' v.ownBlock ∧ (v'.ownBlock = v.ownBlock ∨ v'.ownBlock = some w.heap.size) := by
  obtain ⟨i0, hi0, hz0, hz1, hz2⟩ := info_parts int_info
  obtain ⟨A, c, rfl, hA, hc, h0⟩ := hv
  cases A with
  | none =>
    have hl : l = [] := by
      cases l with
      | nil => rfl
      | cons x l => obtain ⟨ad, e, _⟩ := hA (by simp); cases e
    subst hl
    have : c = 0 := h0 rfl
    subst this
    exact ⟨v, w, fun ty => run_append_owned_none w base 49 ty 3 i0 1 Try.underlying49 hi0 v n xs hown, by simpa using hown, ⟨rfl, rfl, rfl, Nat.le_refl _, fun _ _ _ => rfl⟩, .inl rfl⟩
  | some ad =>
    obtain ⟨v', w', h1, h2, h3, _, h5⟩ := run_append_own_at (P := Try.prog) w base 49 0 3 i0 (.int .i64 0) 1 8 Try.underlying49 hi0 hz0 hz1 hz2 rfl (by decide) v n xs hown ad l.length c (l.flatMap intC) (by rw [ints_len]; omega)
      (ints_cells hA) (ints_plain l) (by unfold maxLen; omega) (by omega) hbase
    exact ⟨v', w', fun ty => h1, h2, h3, h5⟩

/-- A value that is a slice of these slices of notes, all of it below B. -/
def NVB (B : Nat) (w : World) (v : Value) (ps : List (List Nt)) : Prop :=
  ∃ (A : Option Addr) (c : Nat) (vs : List Value), v = .slice A ps.length c ∧ vs.length = ps.length ∧ Lies (fun u : Value => [u]) 1 w B A vs ∧ (∀ i (h : i < ps.length), ∃ u, vs[i]? = some u ∧ NB B w u ps[i]) ∧ ps.length ≤ c ∧ (A = none → c = 0)
abbrev NVV (w : World) (v : Value) (ps : List (List Nt)) : Prop := NVB w.heap.size w v ps
theorem NB.more {B B' : Nat} {w : World} {v : Value} {l : List Nt} (h : NB B w v l) (hB : B ≤ B') : NB B' w v l := by
  obtain ⟨A, c, e, h1, h2⟩ := h
  exact ⟨A, c, e, h1.more hB, h2⟩
theorem NVB.below {B : Nat} {w w' : World} {v : Value} {l : List (List Nt)} (h : NVB B w v l) (hb : Below B w w') : NVB B w' v l := by
  obtain ⟨A, c, vs, e, hl, hp, h2, h3⟩ := h
  exact ⟨A, c, vs, e, hl, hp.below hb, fun i hi => let ⟨u, h3, h4⟩ := h2 i hi; ⟨u, h3, h4.below hb⟩, h3⟩
theorem NVB.more {B B' : Nat} {w : World} {v : Value} {l : List (List Nt)} (h : NVB B w v l) (hB : B ≤ B') : NVB B' w v l := by
  obtain ⟨A, c, vs, e, hl, hp, h2, h3⟩ := h
  exact ⟨A, c, vs, e, hl, hp.more hB, fun i hi => let ⟨u, h3, h4⟩ := h2 i hi; ⟨u, h3, h4.more hB⟩, h3⟩
theorem NVB.on {w w' : World} {v : Value} {l : List (List Nt)} (h : NVV w v l) (hb : Below w.heap.size w w') : NVV w' v l := (NVB.below h hb).more hb.size
theorem NVB.part {B : Nat} {w : World} {v : Value} {ps : List (List Nt)} (h : NVB B w v ps) : ∃ (A : Option Addr) (c : Nat), v = .slice A ps.length c ∧ ∀ (i : Nat) (hi : i < ps.length), ∃ (ad : Addr) (u : Value), A = some ad ∧ ad.block < B ∧ w.cell? (ad.add i) = some u ∧ NB B w u ps[i] := by
  obtain ⟨A, c, vs, e, hl, hp, h2, _⟩ := h
  refine ⟨A, c, e, fun i hi => ?_⟩
  obtain ⟨u, h3, h4⟩ := h2 i hi
  obtain ⟨ad, e1, hB, hc⟩ := hp (by rw [hl]; omega)
  obtain ⟨hi2, h5⟩ := List.getElem?_eq_some_iff.1 h3
  have h6 := hc i hi2 0 u (by rw [h5]; rfl)
  rw [Addr.add_zero', Nat.mul_one] at h6
  exact ⟨ad, u, e1, hB, h6, h4⟩
theorem NB.shape {B : Nat} {w : World} {u : Value} {p : List Nt} (h : NB B w u p) : ∃ A d, u = .slice A p.length d := let ⟨A, d, e, _⟩ := h; ⟨A, d, e⟩
theorem NVB.shape {B : Nat} {w : World} {u : Value} {p : List (List Nt)} (h : NVB B w u p) : ∃ A d, u = .slice A p.length d := let ⟨A, d, _, e, _⟩ := h; ⟨A, d, e⟩
theorem NVB.nil (w : World) : NVV w (.slice none 0 0) [] := ⟨none, 0, [], rfl, rfl, Lies.nil, fun i h => absurd h (by simp), Nat.le_refl _, fun _ => rfl⟩
/-- A literal of one. -/
theorem NVB.box {w : World} {h : Nat} {u : Value} {p : List Nt} (hb : Box w h 45 #[u]) (hu : NV w u p) : NVV w (.slice (some ⟨h, 0, none⟩) 1 1) [p] := by
  refine ⟨some ⟨h, 0, none⟩, 1, [u], rfl, rfl, fun _ => ⟨_, rfl, hb.lt, fun i hi j v hv => ?_⟩, fun i hi => ?_, Nat.le_refl _, fun h => by cases h⟩
  · have hi0 : i = 0 := by simpa using hi
    subst hi0
    cases j with
    | zero =>
      have := hb.cell 0 rfl
      simp at hv
      subst hv
      simpa [Addr.add_zero'] using this
    | succ j => simp at hv
  · have hi0 : i = 0 := by simpa using hi
    subst hi0
    exact ⟨u, rfl, hu⟩

end Go.Proofs.Ytgpjbajfkagdbaa

namespace Go.Proofs.Ytgpjbajfkagdbaa
open Go.RowKit Go.Maps

def MaxI : Int := 2147483647
theorem badArg_iff {l : List Pr} {s : Int} : (wellL l && decide (0 ≤ s) && decide (s ≤ 2147483647)) = true ↔ wellL l = true ∧ 0 ≤ s ∧ s ≤ 2147483647 := by simp [and_assoc]
/-- Is the first thing refused? -/
def badArg (l : List Pr) (s : Int) (bs : List (List Nt)) : Bool := decide (0 < bs.length) && !(wellL l && decide (0 ≤ s) && decide (s ≤ 2147483647))
theorem bad_out {l : List Pr} {s : Int} {bs : List (List Nt)} (h : badArg l s bs = true) : outE l s bs = 1 := by
  unfold badArg at h
  rw [Bool.and_eq_true, decide_eq_true_eq] at h
  cases bs with
  | nil => exact absurd h.1 (by simp)
  | cons b bs =>
    have h2 : (wellL l && decide (0 ≤ s) && decide (s ≤ 2147483647)) = false := by
      have := h.2
      rwa [Bool.not_eq_true'] at this
    show (if runE l s b = 0 then _ else runE l s b) = 1
    rw [runE_arg h2, if_neg (by decide)]
theorem good_start {l : List Pr} {s : Int} {bs : List (List Nt)} (h : badArg l s bs = false) : bs = [] ∨ RInv l s (rs0 l s) := by
  unfold badArg at h
  cases bs with
  | nil => exact .inl rfl
  | cons b bs =>
    right
    have h2 : (wellL l && decide (0 ≤ s) && decide (s ≤ 2147483647)) = true := by
      have h : (decide (0 < (b :: bs).length) && !(wellL l && decide (0 ≤ s) && decide (s ≤ 2147483647))) = false := h
      rw [decide_eq_true (by simp), Bool.true_and, Bool.not_eq_false'] at h
      exact h
    obtain ⟨h3, h4, h5⟩ := badArg_iff.1 h2
    exact RInv.start h3 h4 h5

theorem RunS.start {w w1 : World} {lv : Value} {l : List Pr} (hl : PV w lv l) (hb : Below w.heap.size w w1) (s : Int) :
    RunS w.heap.size (w1.heap.size + 1) w1.heap.size lv l (rs0 l s) ((w1.alloc (.map #[] 0)).alloc (.cells #[lv, .map (some w1.heap.size), .slice none 0 0, .int .i64 s] 70)) := by
  have hs := hb.size
  have h1 : (w1.alloc (.map #[] 0)).heap.size = w1.heap.size + 1 := by simp
  have hb2 : Below w1.heap.size w1 (w1.alloc (.map #[] 0)) := (Below.refl _ _).alloc (Nat.le_refl _) _
  have hb3 : Below (w1.alloc (.map #[] 0)).heap.size (w1.alloc (.map #[] 0)) ((w1.alloc (.map #[] 0)).alloc (.cells #[lv, .map (some w1.heap.size), .slice none 0 0, .int .i64 s] 70)) := (Below.refl _ _).alloc (Nat.le_refl _) _
  obtain ⟨A, c, e, h7, h8⟩ := hl
  refine ⟨by simp; omega, by omega, by omega, ⟨_, Box.at_ _ _ _ h1.symm, World.ownsRow_nil _ _ _ _⟩, (MapP.made _ _ _).on hb3 (by rw [h1]; omega), A, c, e, ?_, h8⟩
  exact ((h7.below hb).below (hb2.mono hs)).below (hb3.mono (by rw [h1]; omega))
/-- A run stays while a row of another kind grows. -/
theorem RunS.grown {B g m : Nat} {lv : Value} {l : List Pr} {r : Rs} {w w' : World} (h : RunS B g m lv l r w) {base e k n : Nat} {v : Value} {xs : List Value} (hg : w.grownBy w' v.ownBlock) (ho : w.ownsRow base e k v n xs) (h1 : e ≠ 70) (h2 : e ≠ 55) (h3 : e ≠ 41) (hbase : B ≤ base) : RunS B g m lv l r w' := by
  obtain ⟨k1, k2, k3, ⟨cv, k4, k5⟩, k6, A, c, e0, k7, k8⟩ := h
  have hne : ∀ {q : Nat} {T : TypeId} {C : Array Value}, Box w q T C → T ≠ e → some q ≠ v.ownBlock := fun {q T C} hb hT e1 => by
    obtain ⟨cs1, s1, h1⟩ := own_row_at ho e1.symm
    have h2 : w.heap[q]? = some (.cells C T (0, 0)) := hb
    rw [h1] at h2
    injection h2 with h2
    injection h2 with _ h2
    exact hT h2.symm
  have hmb : some m ≠ v.ownBlock := fun e1 => by
    obtain ⟨cs1, s1, h1⟩ := own_row_at ho e1.symm
    exact k6.not_cells _ _ _ h1
  have hbel : Below B w w' := (Below.refl B w).grown hg k1 (fun q hq => Nat.le_trans hbase (own_lt ho hq).1)
  refine ⟨Nat.le_trans k1 hg.size, k2, k3, ⟨cv, k4.grown hg (hne k4 (fun e => h1 e.symm)), own_grown k5 hg (own_unlike ho k5 h2)⟩, ?_, A, c, e0, k7.below hbel, k8⟩
  obtain ⟨D, ⟨es, ck, hh, rr⟩, j2⟩ := k6
  refine ⟨D, ⟨es, ck, (hg.block m (Array.getElem?_eq_some_iff.1 hh).1 hmb).trans hh, rr⟩, fun x => ⟨(j2 x).1, fun ht => ?_⟩⟩
  obtain ⟨u, j3, j4⟩ := (j2 x).2 ht
  refine ⟨u, j3, ⟨Nat.le_trans j4.le hg.size, ?_⟩⟩
  rcases j4.lies with ⟨A', c', e', p1, p2⟩ | p1
  · exact .inl ⟨A', c', e', p1.below hbel, p2⟩
  · exact .inr (own_grown p1 hg (own_unlike ho p1 h3))

set_option maxHeartbeats 4000000 in
set_option maxRecDepth 100000 in
theorem all_any {lv u : Value} {l : List Pr} (s : Int) {bs : List (List Nt)} {w : World} (hl : PV w lv l) (hu : NVV w u bs) (hn : l.length ≤ 20000) (hb : bs.length ≤ 1000) (hm : ∀ b ∈ bs, b.length ≤ maxLen) :
    Calls Try.prog 17 #[lv, .int .i64 s, u] w fun e w' => ∃ cv pv nv, e = .returned (.tuple #[cv, pv, nv, .int .i64 (outE l s bs)]) ∧ CV w' cv (outC l s bs) ∧ PV w' pv (outP l s bs) ∧ IS w' nv (outN l s bs) ∧ Below w.heap.size w w' := by
  obtain ⟨q, hq⟩ : ∃ q, badArg l s bs = q := ⟨_, rfl⟩
  have HBAD := Lib.hid (fun h => bad_out (l := l) (s := s) (bs := bs) h)
  have HGOOD := Lib.hid (fun h => good_start (l := l) (s := s) (bs := bs) h)
  rw [hq] at HBAD HGOOD
  have hrw := right_v hl (by unfold maxLen; omega)
  obtain ⟨W, hW⟩ : ∃ W, wellL l = W := ⟨_, rfl⟩
  rw [hW] at hrw
  have HQ := Lib.hid (show q = (decide (0 < bs.length) && !(W && decide (0 ≤ s) && decide (s ≤ 2147483647))) from by rw [← hq, ← hW]; rfl)
  have hcl := fun (w' : World) (hb : Below w.heap.size w w') => clone_v (hl.on hb) (by omega)
  have HCL := Lib.hid hcl
  have HLV := Lib.hid hl
  have HU := Lib.hid hu
  have HN := Lib.hid hn
  have HBS := Lib.hid hb
  have HM := Lib.hid hm
  have HRW := Lib.hid hrw
  obtain ⟨LA, ln, lc, rfl⟩ : ∃ A n c, lv = .slice A n c := by obtain ⟨A, c, e, _⟩ := hl; exact ⟨A, _, c, e⟩
  obtain ⟨A, c, rfl, hel⟩ := hu.part
  have HEL := Lib.hid hel
  obtain ⟨n, hbl⟩ : ∃ n, bs.length = n := ⟨_, rfl⟩
  rw [hbl] at HQ hb ⊢
  have HBL := Lib.hid hbl
  clear hl hu hn hm hcl hrw hq hW hel hbl
  go_enter Try.func17, Try.ntmps17
  go_upto_region 1 with fail
  go_cut [32] (fun v wx => v = .bool q ∧ Below w.heap.size w wx)
  case first =>
    by_cases h0 : 0 < n
    case neg =>
      have hd : decide (0 < n) = false := decide_eq_false h0
      have HE := Lib.hid (show q = false from by rw [HQ.out, hd]; rfl)
      go_wp2
      go_meet
      case rel => exact ⟨by rw [HE.out], Below.refl _ _⟩
    have hd : decide (0 < n) = true := decide_eq_true h0
    go_wp2_with fail
    refine HRW.out.mono ?_
    rintro e w1 ⟨rfl, hb1⟩
    have HB1 := Lib.hid hb1
    clear hb1
    cases W with
    | false =>
      have HE := Lib.hid (show q = true from by rw [HQ.out, hd]; rfl)
      go_wp2
      go_meet
      case rel => exact ⟨by rw [HE.out], HB1.out⟩
    | true =>
      by_cases hs0 : s < 0
      · have hd1 : decide (s < 0) = true := decide_eq_true hs0
        have HE := Lib.hid (show q = true from by rw [HQ.out, hd, decide_eq_false (show ¬ 0 ≤ s by omega)]; rfl)
        go_wp2
        go_meet
        case rel => exact ⟨by rw [HE.out], HB1.out⟩
      · have hd1 : decide (s < 0) = false := decide_eq_false hs0
        have HE := Lib.hid (show q = decide (2147483647 < s) from by
          rw [HQ.out, hd, decide_eq_true (show 0 ≤ s by omega)]
          by_cases h5 : s ≤ 2147483647
          · rw [decide_eq_true h5, decide_eq_false (by omega)]; rfl
          · rw [decide_eq_false h5, decide_eq_true (by omega)]; rfl)
        go_wp2
        go_meet
        case rel => exact ⟨by rw [HE.out], HB1.out⟩
  case rest =>
    obtain ⟨rfl, hbc⟩ := hcut
    have HBC := Lib.hid hbc
    clear hbc
    cases q with
    | true =>
      have hcl := HCL.out wc HBC.out
      have HE := Lib.hid (HBAD.out rfl)
      have HO := Lib.hid (out_no (l := l) (s := s) (bs := bs) (by rw [HE.out]; decide))
      go_wp2_with fail
      refine hcl.mono ?_
      rintro e w1 ⟨pv, rfl, hp, hb1⟩
      have HP := Lib.hid hp
      have HB1 := Lib.hid (HBC.out.trans (hb1.mono HBC.out.size))
      clear hp hb1 hcl
      go_wp2
      refine bodyPost_ret (v := .tuple #[.slice none 0 0, pv, .slice none 0 0, .int .i64 1]) (by simp [results, Try.results17, go_sem]) rfl ?_
      rw [HE.out, HO.out.1, HO.out.2.1, HO.out.2.2]
      exact ⟨_, _, _, rfl, CV.nil _, HP.out, IS.nil _, HB1.out⟩
    | false =>
      have hmm := @run_makeMap Try.prog
      go_upto_region 4 with fail
      obtain ⟨gm, hgm⟩ : ∃ q, q = wc.heap.size := ⟨_, rfl⟩
      obtain ⟨w2, hw2⟩ : ∃ q, q = (wc.alloc (.map #[] 0)).alloc (.cells #[.slice LA ln lc, .map (some gm), .slice none 0 0, .int .i64 s] 70) := ⟨_, rfl⟩
      have hb2 : Below wc.heap.size wc w2 := by rw [hw2]; exact ((Below.refl _ _).alloc (Nat.le_refl _) _).alloc (by simp) _
      have HR2 := Lib.hid (show RunS w.heap.size (gm + 1) gm (.slice LA ln lc) l (goR (rs0 l s) (bs.take 0)) w2 from by
        rw [hw2, hgm]; exact RunS.start HLV.out HBC.out s)
      have HB2 := Lib.hid (HBC.out.trans (hb2.mono HBC.out.size))
      have HS2 := Lib.hid (show w.heap.size ≤ w2.heap.size from HB2.out.size)
      rw [← hgm, ← hw2]
      clear hb2 hgm hw2
      go_wp2
      go_loopw [11, 41] (fun ev i wr => ∃ (k : Nat), i = .int .i64 k ∧ k ≤ n ∧ Hid (allE (rs0 l s) (bs.take k) = 0) ∧ Hid (RunS w.heap.size (gm + 1) gm (.slice LA ln lc) l (goR (rs0 l s) (bs.take k)) wr) ∧ Hid (wr.ownsRow w.heap.size 3 1 ev k ((endsR (rs0 l s) (bs.take k)).flatMap intC)) ∧ Below w.heap.size w wr) (fun _ i _ => (n - intOf i).toNat)
      case atStart => exact ⟨0, rfl, by omega, (show allE (rs0 l s) [] = 0 from rfl), HR2, (show World.ownsRow _ _ _ _ _ _ _ from World.ownsRow_nil _ _ _ _), HB2.out⟩
      case round =>
        obtain ⟨k, rfl, hk, HK, HG, HO, hbr⟩ := hrel
        obtain ⟨EA, ec, rfl⟩ := own_shape HO.out
        have hbs := hbr.size
        by_cases hlt : k < n
        · have hkl : k < bs.length := by rw [HBL.out]; exact hlt
          obtain ⟨ad, bv, rfl, hab, hcell, hnb⟩ := HEL.out k hkl
          have hcell := (hbr.cell (p := ad.add k) (by rw [block_of_add]; exact hab)).trans hcell
          have hnb := hnb.below hbr
          obtain ⟨BA, bd, rfl⟩ := hnb.shape
          have hst : RInv l s (rs0 l s) := (HGOOD.out (by first | rfl | trivial)).resolve_left (fun h => by rw [h] at hkl; exact absurd hkl (by simp))
          obtain ⟨g1, _, _, g4⟩ := all_inv hst HK.out
          have h4 : (goR (rs0 l s) (bs.take k)).C.length ≤ 0 + 8 * (bs.take k).length := g4
          rw [List.length_take] at h4
          have hb9 := HBS.out
          have hba := batch_any HG.out g1 bs[k] hnb (by have := HN.out; omega) (by omega) (HM.out _ (List.getElem_mem _))
          have hat := allE_at hkl HK.out
          obtain ⟨RE, hRE⟩ : ∃ q, runE (goR (rs0 l s) (bs.take k)).p (goR (rs0 l s) (bs.take k)).s bs[k] = q := ⟨_, rfl⟩
          rw [hRE] at hba hat
          have hst2 : goR (rs0 l s) (bs.take (k + 1)) = runR (goR (rs0 l s) (bs.take k)) bs[k] := by rw [takeS hkl, goR_snoc]
          have hen : endsR (rs0 l s) (bs.take (k + 1)) = endsR (rs0 l s) (bs.take k) ++ [(goR (rs0 l s) (bs.take (k + 1))).s] := by rw [takeS hkl, endsR_snoc]
          rw [← hst2] at hba
          have HBA := Lib.hid hba
          have HAT := Lib.hid hat
          have HEN := Lib.hid hen
          obtain ⟨pn, hpn⟩ : ∃ q, (bs[k]'hkl).length = q := ⟨_, rfl⟩
          rw [hpn] at HBA hcell
          clear hnb hst g1 g4 h4 hb9 hba hat hRE hst2 hen hpn
          go_wp2_with fail
          refine HBA.out.mono ?_
          rintro e w3 ⟨rfl, hr3, hk3⟩
          have hb3 := hbr.trans hk3.below
          have HB3 := Lib.hid hb3
          by_cases hre : RE = 0
          · rw [if_pos hre] at hr3
            have ho3 := hk3.own HO.out (by decide) (by decide)
            obtain ⟨cv, hbx, _⟩ := hr3.box
            have s0 := hbx.cell 3 rfl
            obtain ⟨s3, hs3⟩ : ∃ q, (goR (rs0 l s) (bs.take (k + 1))).s = q := ⟨_, rfl⟩
            rw [hs3] at s0
            have HK3 := Lib.hid (show allE (rs0 l s) (bs.take (k + 1)) = 0 from by rw [HAT.out, hre])
            have HR3 := Lib.hid hr3
            have HEN3 := Lib.hid (show (endsR (rs0 l s) (bs.take (k + 1))).flatMap intC = (endsR (rs0 l s) (bs.take k)).flatMap intC ++ intC s3 from by rw [HEN.out, hs3, List.flatMap_append]; simp)
            subst hre
            have HSZ := Lib.hid hb3.size
            clear hr3 hk3 hb3 hbx hs3 hcell hbr
            go_wp2_with (at_builtin; refine append_int _ rfl _ _ rfl w.heap.size _ k ((endsR (rs0 l s) (bs.take k)).flatMap intC) rfl (ho3.alloc _) (w3.heap.size + 1) w3.heap.size s3 rfl ?a1 ?a2 ?a3 ?_)
            case a1 => exact Lies.lit intC1 rfl
            case a2 => have := HBS.out; omega
            case a3 => have := HSZ.out; simp; omega
            intro ev w5 hown5 hg5 hat
            have hk5 : ∀ k, Value.ownBlock _ = some k → w.heap.size ≤ k := fun k hk => (own_lt ho3 hk).1
            have hba3 : Below w3.heap.size w3 (w3.alloc (.cells #[.int .i64 s3] 3)) := (Below.refl _ _).alloc (Nat.le_refl _) _
            have hb5 : Below w.heap.size w w5 := (HB3.out.trans (hba3.mono HSZ.out)).grown hg5 (by have := HSZ.out; simp; omega) (fun k hk => hk5 k hk)
            have HR5 := Lib.hid ((HR3.out.on hba3).grown hg5 (ho3.alloc _) (by decide) (by decide) (by decide) (Nat.le_refl _))
            have HO5 := Lib.hid (show w5.ownsRow w.heap.size 3 1 ev (k + 1) ((endsR (rs0 l s) (bs.take (k + 1))).flatMap intC) from by rw [HEN3.out]; exact hown5)
            clear hown5 hg5 hat hk5 hba3 ho3 s0
            go_wp2
            go_roundw
            case rel => exact ⟨k + 1, by go_num, by omega, HK3, HR5, HO5, hb5⟩
            case measure => simp [intOf]; omega
          · have HO3 := Lib.hid (show outE l s bs = RE from by
              unfold outE
              rw [allE_take (k := k + 1) (by rw [HAT.out]; exact hre), HAT.out])
            have HNO := Lib.hid (out_no (l := l) (s := s) (bs := bs) (by rw [HO3.out]; exact hre))
            have hcl := HCL.out w3 HB3.out
            clear hr3 hk3 hb3 hcell hbr
            go_wp2_with fail
            refine hcl.mono ?_
            rintro e w4 ⟨pv, rfl, hp, hb4⟩
            have HP := Lib.hid hp
            have HB4 := Lib.hid (HB3.out.trans (hb4.mono HB3.out.size))
            clear hp hb4 hcl
            go_wp2
            refine bodyPost_ret (v := .tuple #[.slice none 0 0, pv, .slice none 0 0, .int .i64 RE]) (by simp [results, Try.results17, go_sem]) rfl ?_
            rw [HO3.out, HNO.out.1, HNO.out.2.1, HNO.out.2.2]
            exact ⟨_, _, _, rfl, CV.nil _, HP.out, IS.nil _, HB4.out⟩
        · have hkn : k = n := by omega
          have htk : bs.take k = bs := List.take_of_length_le (by rw [HBL.out]; omega)
          rw [htk] at HK HG HO
          obtain ⟨cv, hbx, hown⟩ := HG.out.box
          have HE := Lib.hid (show outE l s bs = 0 from HK.out)
          have HYES := Lib.hid (out_yes HE.out)
          have hcv : CV wr cv (goR (rs0 l s) bs).C := CV.own hown rfl
          have hlen : (goR (rs0 l s) bs).C.length ≤ 10000 := by
            have := (out_len l s bs).1
            rw [HYES.out.1] at this
            have := HBS.out
            omega
          have hks : ∀ c ∈ (goR (rs0 l s) bs).C, c.key.size ≤ maxLen := fun c hc => by
            rw [← HYES.out.1] at hc
            have := out_keys c hc
            unfold maxLen; omega
          have hdo := do_v (HG.out.pv) hcv (by have := HN.out; omega) (by omega) hks
          have hwa : walkA l (goR (rs0 l s) bs).C = (goR (rs0 l s) bs).p := by
            rcases HGOOD.out (by first | rfl | trivial) with h | h
            · rw [h]
              show walkA l [] = l
              unfold walkA
              split <;> rfl
            · exact (walk_yes h.well (all_inv h HK.out).1.does).2
          rw [hwa, ← HYES.out.2.1] at hdo
          have g2 := hbx.cell 2 rfl
          have HBX := Lib.hid hbx
          have HCV := Lib.hid (show CV wr cv (outC l s bs) from by rw [HYES.out.1]; exact hcv)
          have HIS := Lib.hid (show IS wr (.slice EA n ec) (outN l s bs) from by rw [← hkn, HYES.out.2.2]; exact IS.own HO.out (by rw [endsR_len, HBL.out]; omega))
          have HBR := Lib.hid hbr
          have HDO := Lib.hid hdo
          clear hcv hlen hks hdo hwa hbx hown HG HO HYES htk hbr
          go_wp2_with fail
          refine HDO.out.mono ?_
          rintro e w4 ⟨pv, rfl, hp, hb4⟩
          have g2 := (HBX.out.on hb4).cell 2 rfl
          have HP := Lib.hid hp
          have HB4 := Lib.hid hb4
          clear hp hb4
          go_wp2
          refine bodyPost_ret (v := .tuple #[cv, pv, .slice EA n ec, .int .i64 0]) (by simp [results, Try.results17, go_sem]) rfl ?_
          rw [HE.out]
          exact ⟨_, _, _, rfl, HCV.out.on HB4.out, HP.out, HIS.out.on HB4.out, HBR.out.trans (HB4.out.mono HBR.out.size)⟩

end Go.Proofs.Ytgpjbajfkagdbaa
