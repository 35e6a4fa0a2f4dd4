/- A run in memory: its block, its map from keys to their pairs, its row of changes; what stays while these are written. -/
import Derived.Test.YtgpjbajfkagdbaaAp
import Derived.Test.YtgpjbajfkagdbaaNW
import Derived.Test.YtgpjbajfkagdbaaBT
import Derived.Test.YtgpjbajfkagdbaaSch
import Derived.Maps.Own
import Derived.Maps.OwnIn
set_option linter.unusedVariables false
set_option linter.unusedSimpArgs false
namespace Go.Proofs.Ytgpjbajfkagdbaa
open Go.RowKit Go.Maps

/-- All blocks below B stay, and all rows but those of changes, and of runs. -/
structure Kp (B : Nat) (w w' : World) : Prop where
  below : Below B w w'
  rows : ∀ (k : Nat) cs T s, T ≠ 70 → T ≠ 55 → w.heap[k]? = some (.cells cs T s) → w'.heap[k]? = w.heap[k]?
theorem Kp.of {B : Nat} {w w' : World} (h : Below w.heap.size w w') (hB : B ≤ w.heap.size) : Kp B w w' :=
  ⟨h.mono hB, fun k _ _ _ _ _ hk => h.block k (Array.getElem?_eq_some_iff.1 hk).1⟩
theorem Kp.refl (B : Nat) (w : World) : Kp B w w := ⟨Below.refl _ _, fun _ _ _ _ _ _ _ => rfl⟩
theorem Kp.trans {B : Nat} {a b c : World} (h : Kp B a b) (k : Kp B b c) : Kp B a c :=
  ⟨h.below.trans k.below, fun i cs T s h1 h2 hi => (k.rows i cs T s h1 h2 ((h.rows i cs T s h1 h2 hi).trans hi)).trans (h.rows i cs T s h1 h2 hi)⟩
/-- What lies there is no row but of a run, or of changes. -/
def NoRow (w : World) (q : Nat) : Prop := ∀ cs T s, T ≠ 70 → T ≠ 55 → w.heap[q]? ≠ some (.cells cs T s)
theorem Kp.grown {B : Nat} {w w' : World} {r : Option Nat} (hg : w.grownBy w' r) (hB : B ≤ w.heap.size) (hr : ∀ q, r = some q → B ≤ q ∧ NoRow w q) : Kp B w w' :=
  ⟨(Below.refl B w).grown hg hB (fun q e => (hr q e).1), fun k cs T s h1 h2 hk => hg.block k (Array.getElem?_eq_some_iff.1 hk).1 (fun e => (hr k e.symm).2 cs T s h1 h2 hk)⟩
theorem Kp.own {B : Nat} {w w' : World} (k : Kp B w w') {base e m n : Nat} {v : Value} {xs : List Value} (h : w.ownsRow base e m v n xs) (h1 : e ≠ 70) (h2 : e ≠ 55) : w'.ownsRow base e m v n xs := by
  refine ⟨h.1, ?_⟩
  rcases h.2 with hn | ⟨g, cap, cur, e1, hb, hgg, rest⟩
  · exact .inl hn
  · exact .inr ⟨g, cap, cur, e1, hb, (k.rows g cur _ _ h1 h2 hgg).trans hgg, rest⟩
theorem PX.kp {B : Nat} {w w' : World} {v : Value} {P : List Pr} (h : PX B w v P) (k : Kp B w w') : PX B w' v P := by
  refine ⟨Nat.le_trans h.le k.below.size, ?_⟩
  rcases h.lies with ⟨A, c, e, h1, h2⟩ | h1
  · exact .inl ⟨A, c, e, h1.below k.below, h2⟩
  · exact .inr (k.own h1 (by decide) (by decide))
theorem box_not {w : World} {g : Nat} {T : TypeId} {C : Array Value} (h : Box w g T C) (hT : T = 70 ∨ T = 55) : NoRow w g := by
  intro cs U s g1 g2 e
  have h1 : w.heap[g]? = some (.cells C T (0, 0)) := h
  rw [h1] at e
  injection e with e
  injection e with _ e
  subst e
  rcases hT with h | h
  · exact g1 h
  · exact g2 h
theorem own_not {w : World} {base e k n : Nat} {v : Value} {xs : List Value} (h : w.ownsRow base e k v n xs) (he : e = 70 ∨ e = 55) {q : Nat} (hq : v.ownBlock = some q) : NoRow w q := by
  intro cs U s g1 g2 e2
  obtain ⟨cs1, s1, h1⟩ := own_row_at h hq
  rw [h1] at e2
  injection e2 with e2
  injection e2 with _ e3
  subst e3
  rcases he with h | h
  · exact g1 h
  · exact g2 h

/-- How a slice reads in a run's map: as itself. -/
def heldR (v : Value) : Option (DataW Value × List MemPlace) := some (.held v, [])
theorem held_zero (w : World) : (zeroValue 22).run Try.prog w = .ok (.slice none 0 0) w := by kernel_rfl

/-- The map of a run: of each key that was touched, a value that holds its pairs as they are. -/
def MapP (B : Nat) (w : World) (b : Nat) (C : List Ch) (p : List Pr) : Prop :=
  ∃ D : DataW Value, w.ownsMap Try.prog 9 heldR b C.length D ∧ ∀ k : ByteArray, Maps.has D (litK k) = touched C k ∧ (touched C k = true → ∃ v, (∀ z, D.atKey (litK k) z = .held v) ∧ PX B w v (ofK p k))
theorem MapP.lt {B : Nat} {w : World} {b : Nat} {C : List Ch} {p : List Pr} (h : MapP B w b C p) : b < w.heap.size := let ⟨_, h1, _⟩ := h; h1.lt
theorem MapP.kp {B : Nat} {w w' : World} {b : Nat} {C : List Ch} {p : List Pr} (h : MapP B w b C p) (k : Kp B w w') (hb : w'.heap[b]? = w.heap[b]?) : MapP B w' b C p := by
  obtain ⟨D, ⟨es, ck, hh, r⟩, h2⟩ := h
  refine ⟨D, ⟨es, ck, hb.trans hh, r⟩, fun x => ⟨(h2 x).1, fun ht => ?_⟩⟩
  obtain ⟨v, h3, h4⟩ := (h2 x).2 ht
  exact ⟨v, h3, h4.kp k⟩
theorem MapP.on {B : Nat} {w w' : World} {b : Nat} {C : List Ch} {p : List Pr} (h : MapP B w b C p) (hb : Below w.heap.size w w') (hB : B ≤ w.heap.size) : MapP B w' b C p :=
  h.kp (Kp.of hb hB) (hb.block b h.lt)
theorem MapP.made (B : Nat) (w : World) (p : List Pr) : MapP B (w.alloc (.map #[] 0)) w.heap.size [] p :=
  ⟨.map [], World.ownsMap_made w _ _ _, fun k => ⟨rfl, fun h => by cases h⟩⟩
theorem MapP.not_cells {B : Nat} {w : World} {b : Nat} {C : List Ch} {p : List Pr} (h : MapP B w b C p) : ∀ cs T s, w.heap[b]? ≠ some (.cells cs T s) := by
  obtain ⟨D, ⟨es, ck, hh, _⟩, _⟩ := h
  intro cs T s e
  rw [hh] at e
  cases e

/-- 'l, ok := r.now[k]'. -/
theorem MapP.look {B : Nat} {w : World} {b : Nat} {C : List Ch} {p : List Pr} (h : MapP B w b C p) {k : ByteArray} (hk : k.size ≤ maxLen) :
    ∃ v, (∀ w' : World, w'.heap[b]? = w.heap[b]? → (Instr.lookup 68 (.map (some b)) (.string k) true).run Try.prog w' = .ok (.tuple #[v, .bool (touched C k)]) w') ∧ (touched C k = true → PX B w v (ofK p k)) := by
  obtain ⟨D, hown, hD⟩ := h
  obtain ⟨h1, h2⟩ := hD k
  have key : ∀ w' : World, w'.heap[b]? = w.heap[b]? → ∃ v, (Instr.lookup 68 (.map (some b)) (.string k) true).run Try.prog w' = .ok (.tuple #[v, .bool (touched C k)]) w' ∧ DataW.held v = D.atKey (litK k) (.held (.slice none 0 0)) := by
    intro w' hb
    have hown' : w'.ownsMap Try.prog 9 heldR b C.length D := by
      obtain ⟨es, ck, hh, r⟩ := hown
      exact ⟨es, ck, hb.trans hh, r⟩
    obtain ⟨v, ps, hr, hv⟩ := hown'.look_ok (t := 68) key_law Try.underlying68 (held_zero w') (zd := .held (.slice none 0 0)) (zp := []) rfl (key_of hk)
    rw [h1] at hr
    refine ⟨v, hr, ?_⟩
    exact congrArg Prod.fst (Option.some.inj (show some (DataW.held v, ([] : List MemPlace)) = _ from hv))
  obtain ⟨v, hr, hv⟩ := key w rfl
  refine ⟨v, fun w' hb => ?_, fun ht => ?_⟩
  · obtain ⟨v', hr', hv'⟩ := key w' hb
    have e := DataW.held.inj (hv'.trans hv.symm)
    rw [e] at hr'; exact hr'
  · obtain ⟨u, h3, h4⟩ := h2 ht
    have e := DataW.held.inj (hv.trans (h3 _))
    rw [e]; exact h4
/-- 'r.now[k] = v'. -/
theorem MapP.store {B : Nat} {w : World} {b : Nat} {C : List Ch} {p p' : List Pr} (h : MapP B w b C p) (hBw : B ≤ w.heap.size) (hBb : B ≤ b) {c : Ch} (hk : c.key.size ≤ maxLen) (hn : C.length < maxLen) {v : Value} (hv : PX B w v (ofK p' c.key)) (hp : ∀ k, k ≠ c.key → ofK p' k = ofK p k) :
    ∃ w', (Instr.mapUpdate 68 (.map (some b)) (.string c.key) v).run Try.prog w = .ok () w' ∧ MapP B w' b (C ++ [c]) p' ∧ w.grownBy w' (some b) ∧ Kp B w w' := by
  have hnc := h.not_cells
  obtain ⟨D, hown, hD⟩ := h
  obtain ⟨w', hrun, h1, h2⟩ := hown.update (t := 68) key_law Try.underlying68 hn (key_of hk) (val := v) (d := .held v) (ps := []) rfl
  have hkp : Kp B w w' := Kp.grown h2 hBw (fun q e => by cases e; exact ⟨hBb, fun cs T s _ _ => hnc cs T s⟩)
  refine ⟨w', hrun, ⟨D.put (litK c.key) (.held v), ?_, fun k => ?_⟩, h2, hkp⟩
  · rw [List.length_append]; exact h1
  · obtain ⟨h3, h4⟩ := hD k
    rw [touched_snoc]
    by_cases e : c.key = k
    · subst e
      rw [decide_eq_true rfl, Bool.or_true]
      exact ⟨has_put_same hown.isMap (key_is _) _, fun _ => ⟨v, fun z => atKey_put_same hown.isMap (key_is _) _ z, hv.kp hkp⟩⟩
    · have hne : litK k ≠ litK c.key := fun h => e (litK_inj h).symm
      rw [decide_eq_false e, Bool.or_false]
      refine ⟨by rw [has_put_other hne, h3], fun ht => ?_⟩
      obtain ⟨u, h5, h6⟩ := h4 ht
      exact ⟨u, fun z => by rw [atKey_put_other hne, h5 z], by rw [hp k (fun h => e h.symm)]; exact h6.kp hkp⟩

/-- A run in memory. -/
structure RunS (B g m : Nat) (lv : Value) (l : List Pr) (r : Rs) (w : World) : Prop where
  hB : B ≤ w.heap.size
  hg : B ≤ g
  hm : B ≤ m
  box : ∃ cv, Box w g 70 #[lv, .map (some m), cv, .int .i64 r.s] ∧ w.ownsRow B 55 6 cv r.C.length (r.C.flatMap Ch.cells)
  map : MapP B w m r.C r.p
  lies : ∃ A c, lv = .slice A l.length c ∧ Prs w B A l ∧ l.length ≤ c ∧ (A = none → c = 0)
theorem RunS.on {B g m : Nat} {lv : Value} {l : List Pr} {r : Rs} {w w' : World} (h : RunS B g m lv l r w) (hb : Below w.heap.size w w') : RunS B g m lv l r w' := by
  obtain ⟨h1, h2, h3, ⟨cv, h4, h5⟩, h6, A, c, e, h7, h8⟩ := h
  exact ⟨Nat.le_trans h1 hb.size, h2, h3, ⟨cv, h4.on hb, own_on h5 hb⟩, h6.on hb h1, A, c, e, h7.below (hb.mono h1), h8⟩
theorem RunS.pv {B g m : Nat} {lv : Value} {l : List Pr} {r : Rs} {w : World} (h : RunS B g m lv l r w) : PV w lv l := by
  obtain ⟨A, c, e, h7, h8⟩ := h.lies
  exact ⟨A, c, e, h7.more h.hB, h8⟩
theorem RunS.glt {B g m : Nat} {lv : Value} {l : List Pr} {r : Rs} {w : World} (h : RunS B g m lv l r w) : g < w.heap.size := by
  obtain ⟨cv, h4, _⟩ := h.box
  exact h4.lt

end Go.Proofs.Ytgpjbajfkagdbaa
