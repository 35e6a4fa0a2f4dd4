/- Nodes as they lie; trees in memory; append, and Clone, of nodes. -/
import Derived.Test.YteddjmkoleclpaaNBS
import Derived.Test.YteddjmkoleclpaaTT
set_option linter.unusedVariables false
set_option linter.unusedSimpArgs false
namespace Go.Proofs.Yteddjmkoleclpaa
open Go.RowKit

/-! Two lists, thing by thing. -/
def AllN {α β : Type} (R : α → β → Prop) : List α → List β → Prop
  | [], [] => True
  | a :: l, b :: m => R a b ∧ AllN R l m
  | _, _ => False
section
variable {α β : Type} {R S : α → β → Prop}
theorem AllN.len : ∀ {l : List α} {m : List β}, AllN R l m → l.length = m.length
  | [], [], _ => rfl
  | _ :: _, _ :: _, h => by rw [List.length_cons, List.length_cons, h.2.len]
theorem AllN.imp (hRS : ∀ a b, R a b → S a b) : ∀ {l : List α} {m : List β}, AllN R l m → AllN S l m
  | [], [], _ => trivial
  | _ :: _, _ :: _, h => ⟨hRS _ _ h.1, h.2.imp hRS⟩
theorem AllN.get : ∀ {l : List α} {m : List β}, AllN R l m → ∀ i (h1 : i < l.length) (h2 : i < m.length), R l[i] m[i]
  | _ :: _, _ :: _, h, 0, _, _ => h.1
  | _ :: _, _ :: _, h, i + 1, h1, h2 => h.2.get i (by simpa using h1) (by simpa using h2)
theorem AllN.app : ∀ {l l' : List α} {m m' : List β}, AllN R l m → AllN R l' m' → AllN R (l ++ l') (m ++ m')
  | [], _, [], _, _, g => g
  | _ :: _, _, _ :: _, _, h, g => ⟨h.1, h.2.app g⟩
theorem AllN.take : ∀ {l : List α} {m : List β}, AllN R l m → ∀ n, AllN R (l.take n) (m.take n)
  | [], [], _, n => by simp [AllN]
  | _ :: _, _ :: _, _, 0 => trivial
  | _ :: _, _ :: _, h, n + 1 => ⟨h.1, h.2.take n⟩
theorem AllN.drop : ∀ {l : List α} {m : List β}, AllN R l m → ∀ n, AllN R (l.drop n) (m.drop n)
  | [], [], _, n => by simp [AllN]
  | _ :: _, _ :: _, h, 0 => h
  | _ :: _, _ :: _, h, n + 1 => h.2.drop n
theorem AllN.of : ∀ {l : List α} {m : List β}, l.length = m.length → (∀ i (h1 : i < l.length) (h2 : i < m.length), R l[i] m[i]) → AllN R l m
  | [], [], _, _ => trivial
  | _ :: _, _ :: _, hl, h => ⟨h 0 (by simp) (by simp), AllN.of (by simpa using hl) fun i h1 h2 => h (i + 1) (by rw [List.length_cons]; omega) (by rw [List.length_cons]; omega)⟩
end

/-! A slice, and a node, as they lie. -/
structure Sl where
  a : Option Addr
  n : Nat
  c : Nat
def Sl.v (s : Sl) : Value := .slice s.a s.n s.c
def nilS : Sl := ⟨none, 0, 0⟩
structure Nr where
  low : ByteArray
  k : Sl
  n : Sl
  p : Sl
def Nr.cells (r : Nr) : List Value := [.string r.low, .slice r.k.a r.k.n r.k.c, .slice r.n.a r.n.n r.n.c, .slice r.p.a r.p.n r.p.c]
def Nr.v (r : Nr) : Value := .agg #[.string r.low, .slice r.k.a r.k.n r.k.c, .slice r.n.a r.n.n r.n.c, .slice r.p.a r.p.n r.p.c]
theorem Nr.cells4 (r : Nr) : r.cells.length = 4 := rfl
/-- A slice that holds these, in a block of those that S tells. -/
def LiesS {α : Type} (cs : α → List Value) (k : Nat) (w : World) (S : Nat → Prop) (A : Option Addr) (l : List α) : Prop :=
  0 < l.length → ∃ ad, A = some ad ∧ S ad.block ∧ ∀ (i : Nat) (h : i < l.length) (j : Nat) (v : Value), (cs l[i])[j]? = some v → w.cell? ((ad.add (i * k)).add j) = some v
def SlB {α : Type} (cs : α → List Value) (k : Nat) (w : World) (S : Nat → Prop) (s : Sl) (l : List α) : Prop := s.n = l.length ∧ LiesS cs k w S s.a l ∧ l.length ≤ s.c ∧ (s.a = none → s.c = 0)
/-- What there was, and what came. -/
def Gr (S : Nat → Prop) (w w' : World) (b : Nat) : Prop := S b ∨ w.heap.size ≤ b ∧ b < w'.heap.size
abbrev Und (w : World) (S : Nat → Prop) : Prop := ∀ b, S b → b < w.heap.size
abbrev All (w : World) (b : Nat) : Prop := b < w.heap.size
section
variable {α : Type} {cs : α → List Value} {k : Nat} {w w' w'' : World} {S S' : Nat → Prop} {s : Sl} {l : List α} {A : Option Addr}
theorem Und.gr (h : Und w S) (hb : w.heap.size ≤ w'.heap.size) : Und w' (Gr S w w') := fun b hg => by
  rcases hg with hg | hg
  · have := h b hg; omega
  · exact hg.2
theorem Und.on (h : Und w S) (hb : Below w.heap.size w w') : Und w' S := fun b hg => by have := h b hg; have := hb.size; omega
theorem gr_in (b : Nat) (h : S b) : Gr S w w' b := .inl h
theorem gr_mono (h1 : w'.heap.size ≤ w''.heap.size) (b : Nat) (h : Gr S w w' b) : Gr S w w'' b := by
  rcases h with h | h
  · exact .inl h
  · exact .inr ⟨h.1, by omega⟩
theorem gr_trans (h0 : w.heap.size ≤ w'.heap.size) (b : Nat) (h : Gr (Gr S w w') w' w'' b) (h1 : w'.heap.size ≤ w''.heap.size) : Gr S w w'' b := by
  rcases h with h | h
  · exact gr_mono h1 b h
  · exact .inr ⟨by omega, h.2⟩
theorem gr_late (h0 : w.heap.size ≤ w'.heap.size) (b : Nat) (h : Gr S w' w'' b) : Gr S w w'' b := by
  rcases h with h | h
  · exact .inl h
  · exact .inr ⟨by omega, h.2⟩
theorem LiesS.lies {B : Nat} (h : LiesS cs k w S A l) (hS : ∀ b, S b → b < B) : Lies cs k w B A l := fun hl => let ⟨ad, e, hB, hc⟩ := h hl; ⟨ad, e, hS _ hB, hc⟩
theorem Lies.ls {B : Nat} (h : Lies cs k w B A l) (hS : ∀ b, b < B → S b) : LiesS cs k w S A l := fun hl => let ⟨ad, e, hB, hc⟩ := h hl; ⟨ad, e, hS _ hB, hc⟩
theorem LiesS.nil : LiesS cs k w S A [] := fun h => absurd h (by simp)
theorem LiesS.keep (h : LiesS cs k w S A l) (hk : ∀ p : Addr, S p.block → w'.cell? p = w.cell? p) : LiesS cs k w' S A l := fun hl => by
  obtain ⟨ad, e, hB, hc⟩ := h hl
  exact ⟨ad, e, hB, fun i hi j v hv => (hk _ (by rw [block_of_add, block_of_add]; exact hB)).trans (hc i hi j v hv)⟩
theorem LiesS.mono (h : LiesS cs k w S A l) (hS : ∀ b, S b → S' b) : LiesS cs k w S' A l := fun hl => by
  obtain ⟨ad, e, hb, hc⟩ := h hl
  exact ⟨ad, e, hS _ hb, hc⟩
theorem LiesS.take (h : LiesS cs k w S A l) (n : Nat) : LiesS cs k w S A (l.take n) := fun hl => by
  obtain ⟨ad, e, hB, hc⟩ := h (by simp at hl; omega)
  refine ⟨ad, e, hB, fun i hi j v hv => ?_⟩
  simp at hi
  rw [List.getElem_take] at hv
  exact hc i (by omega) j v hv
theorem SlB.take (h : SlB cs k w S s l) {m : Nat} (hm : m ≤ l.length) : SlB cs k w S ⟨s.a, m, s.c⟩ (l.take m) := ⟨by simp; omega, h.2.1.take m, by simp; have := h.2.2.1; omega, h.2.2.2⟩
theorem SlB.nil : SlB cs k w S nilS [] := ⟨rfl, LiesS.nil, Nat.le_refl _, fun _ => rfl⟩
theorem SlB.keep (h : SlB cs k w S s l) (hk : ∀ p : Addr, S p.block → w'.cell? p = w.cell? p) : SlB cs k w' S s l := ⟨h.1, h.2.1.keep hk, h.2.2⟩
theorem SlB.mono (h : SlB cs k w S s l) (hS : ∀ b, S b → S' b) : SlB cs k w S' s l := ⟨h.1, h.2.1.mono hS, h.2.2⟩
theorem SlB.on (h : SlB cs k w S s l) (hS : Und w S) (hb : Below w.heap.size w w') : SlB cs k w' S s l := h.keep fun _ hp => hb.cell (hS _ hp)
/-- A row of the call's own, where it came. -/
theorem lies_own {e : TypeId} {n c base : Nat} (hk : ∀ x, (cs x).length = k) (h : w.ownsRow base e k (.slice A n c) l.length (l.flatMap cs)) : LiesS cs k w (fun b => base ≤ b ∧ b < w.heap.size) A l := fun hl => by
  have h1 := Lies.own hk h hl
  obtain ⟨ad, e1, hB, hc⟩ := h1
  refine ⟨ad, e1, ⟨?_, hB⟩, hc⟩
  rcases h.2 with ⟨_, h0⟩ | ⟨g, cap, cur, hv, hbg, hg, _⟩
  · omega
  · injection hv with hA
    rw [e1] at hA
    injection hA with hA
    subst hA
    exact hbg
end
theorem SlB.nv {w : World} {S : Nat → Prop} {s : Sl} {l : List Nt} (h : SlB Nt.cells 4 w S s l) (hS : Und w S) : NV w (.slice s.a s.n s.c) l := ⟨s.a, s.c, by rw [h.1], h.2.1.lies hS, h.2.2⟩
theorem SlB.pv {w : World} {S : Nat → Prop} {s : Sl} {l : List Pr} (h : SlB Pr.cells 2 w S s l) (hS : Und w S) : PV w (.slice s.a s.n s.c) l := ⟨s.a, s.c, by rw [h.1], h.2.1.lies hS, h.2.2⟩
theorem NV.sl {w : World} {v : Value} {l : List Nt} (h : NV w v l) : ∃ s : Sl, v = .slice s.a s.n s.c ∧ SlB Nt.cells 4 w (All w) s l := let ⟨A, c, e, h1, h2⟩ := h; ⟨⟨A, l.length, c⟩, e, rfl, h1, h2⟩
theorem PV.sl {w : World} {v : Value} {l : List Pr} (h : PV w v l) : ∃ s : Sl, v = .slice s.a s.n s.c ∧ SlB Pr.cells 2 w (All w) s l := let ⟨A, c, e, h1, h2⟩ := h; ⟨⟨A, l.length, c⟩, e, rfl, h1, h2⟩
/-- A slice of the call's own. -/
theorem sl_own {w : World} {base n k : Nat} {e : TypeId} {v : Value} {α : Type} {cs : α → List Value} {l : List α} (hk : ∀ x, (cs x).length = k) (h : w.ownsRow base e k v n (l.flatMap cs)) (hn : n = l.length) :
    ∃ s : Sl, v = .slice s.a s.n s.c ∧ SlB cs k w (fun b => base ≤ b ∧ b < w.heap.size) s l := by
  subst hn
  obtain ⟨A, c, rfl⟩ := own_shape h
  have h1 := row_cap h
  exact ⟨⟨A, l.length, c⟩, rfl, rfl, lies_own hk h, h1.1, h1.2⟩
abbrev Nrs (w : World) (B : Nat) (A : Option Addr) (l : List Nr) : Prop := Lies Nr.cells 4 w B A l
/-- A value that is a slice of these nodes. -/
def RV (w : World) (v : Value) (l : List Nr) : Prop := ∃ A c, v = .slice A l.length c ∧ Nrs w w.heap.size A l ∧ l.length ≤ c ∧ (A = none → c = 0)
theorem RV.on {w w' : World} {v : Value} {l : List Nr} (h : RV w v l) (hb : Below w.heap.size w w') : RV w' v l := by
  obtain ⟨A, c, e, hp, h2⟩ := h
  exact ⟨A, c, e, hp.on hb, h2⟩
theorem SlB.rv {w : World} {S : Nat → Prop} {s : Sl} {l : List Nr} (h : SlB Nr.cells 4 w S s l) (hS : Und w S) : RV w (.slice s.a s.n s.c) l := ⟨s.a, s.c, by rw [h.1], h.2.1.lies hS, h.2.2⟩
theorem RV.sl {w : World} {v : Value} {l : List Nr} (h : RV w v l) : ∃ s : Sl, v = .slice s.a s.n s.c ∧ SlB Nr.cells 4 w (All w) s l := let ⟨A, c, e, h1, h2⟩ := h; ⟨⟨A, l.length, c⟩, e, rfl, h1, h2⟩
theorem RV.own {w : World} {base n : Nat} {v : Value} {l : List Nr} (h : w.ownsRow base 30 4 v n (l.flatMap Nr.cells)) (hn : n = l.length) : RV w v l := by
  subst hn
  obtain ⟨A, c, rfl⟩ := own_shape h
  have h1 := row_cap h
  exact ⟨A, c, rfl, Lies.own Nr.cells4 h, h1.1, h1.2⟩
theorem RV.nil (w : World) : RV w (.slice none 0 0) [] := ⟨none, 0, rfl, Lies.nil, Nat.le_refl _, fun _ => rfl⟩
/-- A value that is a slice of these slices of nodes. -/
def RVV (w : World) (v : Value) (ps : List (List Nr)) : Prop :=
  ∃ (A : Option Addr) (c : Nat) (vs : List Value), v = .slice A ps.length c ∧ vs.length = ps.length ∧ Lies (fun u : Value => [u]) 1 w w.heap.size A vs ∧ ∀ i (h : i < ps.length), ∃ u, vs[i]? = some u ∧ RV w u ps[i]
theorem RVV.on {w w' : World} {v : Value} {l : List (List Nr)} (h : RVV w v l) (hb : Below w.heap.size w w') : RVV w' v l := by
  obtain ⟨A, c, vs, e, hl, hp, h2⟩ := h
  exact ⟨A, c, vs, e, hl, hp.on hb, fun i hi => let ⟨u, h3, h4⟩ := h2 i hi; ⟨u, h3, h4.on hb⟩⟩
theorem RVV.nil (w : World) : RVV w (.slice none 0 0) [] := ⟨none, 0, [], rfl, rfl, Lies.nil, fun i h => absurd h (by simp)⟩
theorem RVV.part {w : World} {v : Value} {ps : List (List Nr)} (h : RVV w v ps) : ∃ (A : Option Addr) (c : Nat), v = .slice A ps.length c ∧ ∀ (i : Nat) (hi : i < ps.length), ∃ (ad : Addr) (u : Value), A = some ad ∧ ad.block < w.heap.size ∧ w.cell? (ad.add i) = some u ∧ RV w u ps[i] := by
  obtain ⟨A, c, vs, e, hl, hp, h2⟩ := h
  refine ⟨A, c, e, fun i hi => ?_⟩
  obtain ⟨u, h3, h4⟩ := h2 i hi
  obtain ⟨ad, e1, hB, hc⟩ := hp (by rw [hl]; omega)
  obtain ⟨hi2, h5⟩ := List.getElem?_eq_some_iff.1 h3
  have h6 := hc i hi2 0 u (by rw [h5]; rfl)
  rw [Addr.add_zero', Nat.mul_one] at h6
  exact ⟨ad, u, e1, hB, h6, h4⟩
theorem RV.shape {w : World} {u : Value} {p : List Nr} (h : RV w u p) : ∃ B d, u = .slice B p.length d := let ⟨B, d, e, _⟩ := h; ⟨B, d, e⟩
theorem RVV.shape {w : World} {u : Value} {p : List (List Nr)} (h : RVV w u p) : ∃ B d, u = .slice B p.length d := let ⟨B, d, _, e, _⟩ := h; ⟨B, d, e⟩
/-- A node's cells. -/
theorem Lies.seeK {w : World} {B : Nat} {A : Option Addr} {l : List Nr} (h : Nrs w B A l) (hl : 0 < l.length) : ∃ ad, A = some ad ∧ ad.block < B ∧ ∀ (i : Nat) (h : i < l.length),
    w.cell? (ad.add (i * 4)) = some (.string l[i].low) ∧ w.cell? ⟨(ad.add (i * 4)).block, (ad.add (i * 4)).off + 1, none⟩ = some (.slice l[i].k.a l[i].k.n l[i].k.c) ∧ w.cell? ⟨(ad.add (i * 4)).block, (ad.add (i * 4)).off + 2, none⟩ = some (.slice l[i].n.a l[i].n.n l[i].n.c) ∧ w.cell? ⟨(ad.add (i * 4)).block, (ad.add (i * 4)).off + 3, none⟩ = some (.slice l[i].p.a l[i].p.n l[i].p.c) := by
  obtain ⟨ad, e, hB, hc⟩ := h hl
  refine ⟨ad, e, hB, fun i hi => ⟨?_, ?_, ?_, ?_⟩⟩
  · have := hc i hi 0 _ rfl; rwa [Addr.add_zero'] at this
  · have := hc i hi 1 _ rfl; rwa [Addr.add_succ'] at this
  · have := hc i hi 2 _ rfl; rwa [Addr.add_succ'] at this
  · have := hc i hi 3 _ rfl; rwa [Addr.add_succ'] at this

/-! Trees in memory. -/
/-- A node that holds this tree, in blocks of those that S tells. -/
def NodeB : (h : Nat) → World → (Nat → Prop) → Nr → ByteArray → TrH h → Prop
  | 0, w, S, r, lo, ps => r.low = lo ∧ r.k = nilS ∧ r.n = nilS ∧ SlB Pr.cells 2 w S r.p (show List Pr from ps)
  | h + 1, w, S, r, lo, t => r.low = lo ∧ SlB Nt.cells 4 w S r.n t.1 ∧ r.p = nilS ∧ ∃ rs, SlB Nr.cells 4 w S r.k rs ∧ AllN (fun (x : Nr) (k : ByteArray × TrH h) => NodeB h w S x k.1 k.2) rs t.2
abbrev NodesR (h : Nat) (w : World) (S : Nat → Prop) (rs : List Nr) (ks : List (ByteArray × TrH h)) : Prop := AllN (fun (x : Nr) (k : ByteArray × TrH h) => NodeB h w S x k.1 k.2) rs ks
theorem NodeB.keep {w w' : World} {S S' : Nat → Prop} (hk : ∀ p : Addr, S p.block → w'.cell? p = w.cell? p) (hS : ∀ b, S b → S' b) : ∀ (h : Nat) (r : Nr) (lo : ByteArray) (t : TrH h), NodeB h w S r lo t → NodeB h w' S' r lo t
  | 0, _, _, _, hn => ⟨hn.1, hn.2.1, hn.2.2.1, (hn.2.2.2.keep hk).mono hS⟩
  | h + 1, _, _, _, hn => by
    obtain ⟨h1, h2, h3, rs, h4, h5⟩ := hn
    exact ⟨h1, (h2.keep hk).mono hS, h3, rs, (h4.keep hk).mono hS, h5.imp fun x k hx => NodeB.keep hk hS h x k.1 k.2 hx⟩
theorem NodeB.on {h : Nat} {w w' : World} {S : Nat → Prop} {r : Nr} {lo : ByteArray} {t : TrH h} (hn : NodeB h w S r lo t) (hS : Und w S) (hb : Below w.heap.size w w') : NodeB h w' S r lo t := NodeB.keep (fun _ hp => hb.cell (hS _ hp)) (fun _ h => h) h r lo t hn
theorem NodeB.mono {h : Nat} {w : World} {S S' : Nat → Prop} {r : Nr} {lo : ByteArray} {t : TrH h} (hn : NodeB h w S r lo t) (hS : ∀ b, S b → S' b) : NodeB h w S' r lo t := NodeB.keep (fun _ _ => rfl) hS h r lo t hn
theorem NodesR.on {h : Nat} {w w' : World} {S : Nat → Prop} {rs : List Nr} {ks : List (ByteArray × TrH h)} (hn : NodesR h w S rs ks) (hS : Und w S) (hb : Below w.heap.size w w') : NodesR h w' S rs ks := hn.imp fun _ _ hx => NodeB.on hx hS hb
theorem NodesR.mono {h : Nat} {w : World} {S S' : Nat → Prop} {rs : List Nr} {ks : List (ByteArray × TrH h)} (hn : NodesR h w S rs ks) (hS : ∀ b, S b → S' b) : NodesR h w S' rs ks := hn.imp fun _ _ hx => NodeB.mono hx hS
theorem NodesR.keep {h : Nat} {w w' : World} {S : Nat → Prop} {rs : List Nr} {ks : List (ByteArray × TrH h)} (hn : NodesR h w S rs ks) (hk : ∀ p : Addr, S p.block → w'.cell? p = w.cell? p) : NodesR h w' S rs ks := hn.imp fun _ _ hx => NodeB.keep hk (fun _ h => h) _ _ _ _ hx
/-- A value that is a slice of nodes, which hold these trees. -/
def TsV (h : Nat) (w : World) (S : Nat → Prop) (v : Value) (ks : List (ByteArray × TrH h)) : Prop := ∃ (s : Sl) (rs : List Nr), v = .slice s.a s.n s.c ∧ SlB Nr.cells 4 w S s rs ∧ NodesR h w S rs ks
theorem TsV.on {h : Nat} {w w' : World} {S : Nat → Prop} {v : Value} {ks : List (ByteArray × TrH h)} (hn : TsV h w S v ks) (hS : Und w S) (hb : Below w.heap.size w w') : TsV h w' S v ks := let ⟨s, rs, e, h1, h2⟩ := hn; ⟨s, rs, e, h1.on hS hb, NodesR.on h2 hS hb⟩
theorem TsV.mono {h : Nat} {w : World} {S S' : Nat → Prop} {v : Value} {ks : List (ByteArray × TrH h)} (hn : TsV h w S v ks) (hS : ∀ b, S b → S' b) : TsV h w S' v ks := let ⟨s, rs, e, h1, h2⟩ := hn; ⟨s, rs, e, h1.mono hS, NodesR.mono h2 hS⟩
theorem NodeB.low : ∀ {h : Nat} {w : World} {S : Nat → Prop} {r : Nr} {lo : ByteArray} {t : TrH h}, NodeB h w S r lo t → r.low = lo
  | 0, _, _, _, _, _, hn => hn.1
  | _ + 1, _, _, _, _, _, hn => hn.1
theorem NodesR.lows {h : Nat} {w : World} {S : Nat → Prop} : ∀ {rs : List Nr} {ks : List (ByteArray × TrH h)}, NodesR h w S rs ks → rs.map Nr.low = lowsOf ks
  | [], [], _ => rfl
  | r :: rs, k :: ks, hn => by
    show r.low :: rs.map Nr.low = k.1 :: lowsOf ks
    rw [NodeB.low hn.1, NodesR.lows hn.2]
/-- What a node's kids slice is: nothing of a leaf. -/
theorem NodeB.kids_zero {h : Nat} {w : World} {S : Nat → Prop} {r : Nr} {lo : ByteArray} {t : TrH h} (hn : NodeB h w S r lo t) : h = 0 → r.k = nilS := fun e => by subst e; exact hn.2.1

/-! append of nodes; Clone. -/
theorem node_info : (Try.prog.info? 30).map (fun i => (i.zero, i.size, i.bytes)) = some (some (.agg #[.string ⟨#[]⟩, .slice none 0 0, .slice none 0 0, .slice none 0 0]), 4, 88) := by kernel_rfl
theorem nrs_len (l : List Nr) : (l.flatMap Nr.cells).length = l.length * 4 := by
  induction l with
  | nil => rfl
  | cons x l ih => rw [List.flatMap_cons, List.length_append, ih, Nr.cells4, List.length_cons]; omega
theorem nrs_cells {w : World} {B : Nat} {ad : Addr} {l : List Nr} (h : Nrs w B (some ad) l) : ∀ j u, (l.flatMap Nr.cells)[j]? = some u → w.cell? (ad.add j) = some u := by
  intro j u hu
  have hj : j < l.length * 4 := by rw [← nrs_len]; exact (List.getElem?_eq_some_iff.1 hu).1
  obtain ⟨ad', e, _, hc⟩ := h (by omega)
  injection e with e
  subst e
  have h1 := flat_get Nr.cells4 l (j / 4) (by omega) (j % 4) (by omega)
  rw [show j / 4 * 4 + j % 4 = j by omega, hu] at h1
  have h2 := hc (j / 4) (by omega) (j % 4) u h1.symm
  rwa [Go.Addr.add_add, show j / 4 * 4 + j % 4 = j by omega] at h2
theorem nrs_plain (l : List Nr) : ∀ u ∈ l.flatMap Nr.cells, u.oneCell' = true := by
  intro u hu
  obtain ⟨x, _, hx⟩ := List.mem_flatMap.1 hu
  unfold Nr.cells at hx
  simp at hx
  rcases hx with rfl | rfl | rfl | rfl <;> rfl
theorem nrs_none {w : World} {B : Nat} {l : List Nr} (h : Nrs w B none l) : l = [] := by
  rcases l with _ | ⟨t, l⟩
  · rfl
  · obtain ⟨_, e, _⟩ := h (by simp)
    cases e
theorem append_nds (w : World) {ops : Array Oper} {rest : List Oper} {o : Oper} {a : Act} {Q : Exit → Act → World → Prop} (hgd : o.guard = none) (s x : Operand)
    (ho : o.op = .call { callee := .builtin .append, args := #[s, x], argTypes := #[26, 26] })
    (base : Nat) (v : Value) (n : Nat) (xs : List Value) (hs : a.eval s = v) (hown : w.ownsRow base 30 4 v n xs)
    (B : Nat) (A : Option Addr) (m c : Nat) (l : List Nr) (hx : a.eval x = .slice A m c) (hm : l.length = m) (hr : Nrs w B A l) (hA : A = none → c = 0) (hn : n + m ≤ 1000000) (hbase : base ≤ w.heap.size)
    (h : ∀ v' w', w'.ownsRow base 30 4 v' (n + m) (xs ++ l.flatMap Nr.cells) → w.grownBy w' v.ownBlock → wpList Try.prog ops Q rest (a.put o.dst v') w') : wpList Try.prog ops Q (o :: rest) a w := by
  obtain ⟨i0, hi0, hz0, hz1, hz2⟩ := info_parts node_info
  rcases A with _ | ad
  · obtain rfl := hA rfl
    obtain rfl := nrs_none hr
    obtain rfl : m = 0 := hm.symm
    exact wpList_append_own_none hgd s x 26 ho base 30 i0 4 Try.underlying26 hi0 v n xs hs hown hx (h v w (by simpa using hown) (World.grownBy.refl w _))
  · exact wpList_append_own w hgd s x 26 ho base 30 i0 (.agg #[.string ⟨#[]⟩, .slice none 0 0, .slice none 0 0, .slice none 0 0]) 4 88 Try.underlying26 hi0 hz0 hz1 hz2 rfl (by decide) v n xs hs hown ad m c (l.flatMap Nr.cells) hx (by rw [nrs_len, hm]) (nrs_cells hr) (nrs_plain l) (by unfold maxLen; omega) (by omega) hbase (fun v' w' h1 h2 _ => h v' w' h1 h2)

set_option maxHeartbeats 1000000 in
set_option maxRecDepth 100000 in
theorem clone_nd (A : Option Addr) (c : Nat) (W : List Nr) (w : World) (hA : Nrs w w.heap.size A W) (hn : W.length ≤ 1000000) :
    Calls Try.prog 73 #[.slice A W.length c] w fun e w' => ∃ v', e = .returned v' ∧ w'.ownsRow w.heap.size 30 4 v' W.length (W.flatMap Nr.cells) ∧ Below w.heap.size w w' := by
  have q : ∀ (w : World) (a : Option Addr) (n c n' c' : Nat), (binOp .eql 26 (.slice a n c) (.slice none n' c')).run Try.prog w = .ok (.bool a.isNone) w := fun w a n c n' c' => Lib.run_eql_slice_nil w _ _ a n c n' c' Try.underlying26
  rcases A with _ | ad
  · obtain rfl := nrs_none hA
    clear hA
    go_enter Try.func73, Try.ntmps73
    go_wp2
    go_ret
    exact ⟨_, rfl, World.ownsRow_nil _ _ _ _, Below.refl _ _⟩
  · obtain ⟨i0, hi0, hz0, hz1, hz2⟩ := info_parts node_info
    have HC := Lib.hid (nrs_cells hA)
    generalize hs : W.length = n at *
    have HS := Lib.hid hs
    clear hs hA
    go_enter Try.func73, Try.ntmps73
    go_wp2_with (at_builtin; refine wpList_append_own _ rfl _ _ 26 rfl w.heap.size 30 i0 (.agg #[.string ⟨#[]⟩, .slice none 0 0, .slice none 0 0, .slice none 0 0]) 4 88 Try.underlying26 hi0 hz0 hz1 hz2 rfl (by decide) _ _ _ rfl (World.ownsRow_made w #[] 0 (Nat.le_refl _) (Nat.zero_le _) rfl) ad n c (W.flatMap Nr.cells) rfl (by rw [nrs_len, HS.out]) ?c1 (nrs_plain W) ?c3 ?c4 ?c5 ?_)
    case c1 =>
      intro j u hu
      have h1 := HC.out j u hu
      exact ((Below.refl _ w).alloc (Nat.le_refl _) _).cell (lt_of_cell h1) |>.trans h1
    case c3 => unfold maxLen; omega
    case c4 => omega
    case c5 => simp
    intro v' w1 hown hgrow _
    go_wp2
    go_ret
    exact ⟨v', rfl, by simpa using hown, ((Below.refl _ w).alloc (Nat.le_refl _) _).grown hgrow (by simp) (by intro k hk; simp [Value.ownBlock] at hk; omega)⟩

end Go.Proofs.Yteddjmkoleclpaa

namespace Go.Proofs.Yteddjmkoleclpaa
open Go.RowKit

/-- A node in a block of its own. -/
abbrev NdB (w : World) (g : Nat) (r : Nr) : Prop := Box w g 30 #[.string r.low, .slice r.k.a r.k.n r.k.c, .slice r.n.a r.n.n r.n.c, .slice r.p.a r.p.n r.p.c]
theorem NdB.cells {w : World} {g : Nat} {r : Nr} (h : NdB w g r) : w.cell? ⟨g, 0, none⟩ = some (.string r.low) ∧ w.cell? ⟨g, 1, none⟩ = some (.slice r.k.a r.k.n r.k.c) ∧ w.cell? ⟨g, 2, none⟩ = some (.slice r.n.a r.n.n r.n.c) ∧ w.cell? ⟨g, 3, none⟩ = some (.slice r.p.a r.p.n r.p.c) :=
  ⟨Box.cell h 0 rfl, Box.cell h 1 rfl, Box.cell h 2 rfl, Box.cell h 3 rfl⟩
theorem NdB.fresh (w : World) (r : Nr) {g : Nat} (hg : g = w.heap.size) : NdB (w.alloc (.cells #[.string r.low, .slice r.k.a r.k.n r.k.c, .slice r.n.a r.n.n r.n.c, .slice r.p.a r.p.n r.p.c] 30)) g r := by subst hg; exact Box.fresh w _ _

set_option maxHeartbeats 1000000 in
set_option maxRecDepth 100000 in
theorem isleaf_any (r : Nr) (w : World) :
    Calls Try.prog 43 #[r.v] w fun e w' => e = .returned (.bool (decide (r.k.n = 0))) ∧ Below w.heap.size w w' := by
  obtain ⟨lo, ⟨ka, kn, kc⟩, ⟨na, nn, nc⟩, ⟨pa, pn, pc⟩⟩ := r
  show Calls Try.prog 43 #[.agg #[.string lo, .slice ka kn kc, .slice na nn nc, .slice pa pn pc]] w fun e w' => e = .returned (.bool (decide (kn = 0))) ∧ Below w.heap.size w w'
  have hd : ((kn : Int) == 0) = decide (kn = 0) := by
    rw [Bool.eq_iff_iff]; simp
  go_enter Try.func43, Try.ntmps43
  go_wp2
  go_ret
  exact ⟨by simp, (Below.refl _ _).alloc (Nat.le_refl _) _⟩

theorem string_info : (Try.prog.info? 9).map (fun i => (i.zero, i.size, i.bytes)) = some (some (.string ⟨#[]⟩), 1, 16) := by kernel_rfl
theorem ssv_own {w : World} {base n : Nat} {v : Value} {l : List ByteArray} (h : w.ownsRow base 9 1 v n (l.map Value.string)) (hn : n = l.length) : SSV w v l := by
  subst hn
  obtain ⟨A, c, rfl⟩ := own_shape h
  refine ⟨A, c, rfl, fun hl => ?_⟩
  have e : l.map Value.string = l.flatMap (fun x : ByteArray => [Value.string x]) := by
    clear h hl
    induction l with
    | nil => rfl
    | cons x l ih => rw [List.map_cons, ih]; rfl
  rw [e] at h
  obtain ⟨ad, e1, hB, hc⟩ := Lies.own (cs := fun x : ByteArray => [Value.string x]) (fun _ => rfl) h hl
  refine ⟨ad, e1, hB, fun i hi => ?_⟩
  have h6 := hc i hi 0 _ rfl
  rwa [Addr.add_zero', Nat.mul_one] at h6

set_option maxHeartbeats 1000000 in
set_option maxRecDepth 100000 in
theorem lows_cap (A : Option Addr) (c : Nat) (rs : List Nr) (w : World) (hA : Nrs w w.heap.size A rs) (hn : rs.length ≤ 100000) :
    Calls Try.prog 58 #[.slice A rs.length c] w fun e w' => ∃ A' c', e = .returned (.slice A' rs.length c') ∧ Strs w' w'.heap.size A' (rs.map Nr.low) ∧ rs.length ≤ c' ∧ (A' = none → c' = 0) ∧ Below w.heap.size w w' := by
  obtain ⟨i0, hi0, hz0, hz1, hz2⟩ := info_parts string_info
  obtain ⟨n, hl⟩ : ∃ n, rs.length = n := ⟨_, rfl⟩
  rw [hl] at hn ⊢
  have HL := Lib.hid hl
  have HA := Lib.hid hA
  clear hl hA
  go_enter Try.func58, Try.ntmps58
  go_wp2
  go_loopw [3, 8] (fun av iv wr => ∃ (k : Nat), iv = .int .i64 k ∧ k ≤ n ∧ Hid (wr.ownsRow w.heap.size 9 1 av k ((rs.take k).map fun r => Value.string r.low)) ∧ Below w.heap.size w wr) (fun _ iv _ => (n - intOf iv).toNat)
  case atStart => exact ⟨0, rfl, by omega, by show World.ownsRow _ _ _ _ _ _ _; exact World.ownsRow_nil _ _ _ _, Below.refl _ _⟩
  case round =>
    obtain ⟨k, rfl, hk, HO, hbr⟩ := hrel
    have hbs := hbr.size
    by_cases hlt : k < n
    · have hkl : k < rs.length := by rw [HL.out]; exact hlt
      obtain ⟨adr, rfl, hab, hca⟩ := (HA.out.below hbr).seeK (by rw [HL.out]; omega)
      obtain ⟨c1, c2, c3, c4⟩ := hca k hkl
      obtain ⟨x, hx⟩ : ∃ x, x = rs[k]'hkl := ⟨_, rfl⟩
      rw [← hx] at c1 c2 c3 c4
      have HX := Lib.hid (show rs.take (k + 1) = rs.take k ++ [x] from by rw [hx, List.take_succ_eq_append_getElem hkl])
      clear hx hca
      obtain ⟨lo, ⟨ka, kn, kc⟩, ⟨na, nn, nc⟩, ⟨pa, pn, pc⟩⟩ := x
      simp only at c1 c2 c3 c4
      have hown := HO.out
      go_wp2_with (at_builtin; refine wpList_append_own _ rfl _ _ 54 rfl w.heap.size 9 i0 (.string ⟨#[]⟩) 1 16 Try.underlying54 hi0 hz0 hz1 hz2 rfl (by decide) _ _ _ rfl ((hown.alloc _).alloc _) ⟨wr.heap.size + 1, 0, none⟩ 1 1 [.string lo] rfl rfl ?a1 ?a2 ?a3 ?a4 ?a5 ?_)
      case a1 =>
        intro j x hj
        match j, hj with
        | 0, hj => simp at hj; subst hj; simp [Addr.add]
      case a2 => intro x hx; simp at hx; subst hx; rfl
      case a3 => unfold maxLen; omega
      case a4 => omega
      case a5 => simp; omega
      intro v' w5 hown5 hg5 _
      have hb5 : Below w.heap.size w w5 := ((hbr.alloc hbs _).alloc (by simp; omega) _).grown hg5 (by simp; omega) (fun k hk => (hown.lt k hk).1)
      have HO5 := Lib.hid (show w5.ownsRow w.heap.size 9 1 v' (k + 1) ((rs.take (k + 1)).map fun r => Value.string r.low) from by rw [HX.out, List.map_append, List.map_take]; exact hown5)
      clear hown hown5 hg5 HX c1 c2 c3 c4
      go_wp2
      go_roundw
      case rel => exact ⟨k + 1, by first | rfl | go_num, by omega, HO5, hb5⟩
      case measure => simp [intOf]; omega
    · have hkn : k = n := by omega
      have HK := Lib.hid hkn
      clear hkn
      go_wp2
      go_ret
      have h1 := HO.out
      rw [HK.out, List.take_of_length_le (by rw [HL.out]; omega)] at h1
      obtain ⟨A', c', e'⟩ := own_shape h1
      rw [e'] at h1 ⊢
      have h2 := row_cap h1
      have h3 : SSV wr (.slice A' n c') (rs.map Nr.low) := ssv_own (base := w.heap.size) (n := n) (l := rs.map Nr.low) (by rw [List.map_map]; exact h1) (by rw [List.length_map, HL.out])
      obtain ⟨A3, c3, e3, h4⟩ := h3
      injection e3 with e4 _ e5
      subst e4 e5
      exact ⟨A', c', rfl, h4, h2.1, h2.2, hbr⟩
theorem lows_any (A : Option Addr) (c : Nat) (rs : List Nr) (w : World) (hA : Nrs w w.heap.size A rs) (hn : rs.length ≤ 100000) :
    Calls Try.prog 58 #[.slice A rs.length c] w fun e w' => ∃ v', e = .returned v' ∧ SSV w' v' (rs.map Nr.low) ∧ Below w.heap.size w w' := by
  refine (lows_cap A c rs w hA hn).mono ?_
  rintro e w' ⟨A', c', rfl, h1, _, _, hb⟩
  exact ⟨_, rfl, ⟨A', c', by rw [List.length_map], h1⟩, hb⟩
theorem lows_v {v : Value} {rs : List Nr} {w : World} (h : RV w v rs) (hn : rs.length ≤ 100000) :
    Calls Try.prog 58 #[v] w fun e w' => ∃ v', e = .returned v' ∧ SSV w' v' (rs.map Nr.low) ∧ Below w.heap.size w w' := by
  obtain ⟨A, c, rfl, h1, h2, h3⟩ := h
  exact lows_any A c rs w h1 hn

end Go.Proofs.Yteddjmkoleclpaa

namespace Go.Proofs.Yteddjmkoleclpaa
open Go.RowKit

set_option maxHeartbeats 1000000 in
set_option maxRecDepth 100000 in
theorem begun_nil (A : Option Addr) (c : Nat) (lo : ByteArray) (w : World) :
    Calls Try.prog 46 #[.slice A 0 c, .string lo] w fun e w' => e = .returned (.slice A 0 c) ∧ Below w.heap.size w w' := by
  go_enter Try.func46, Try.ntmps46
  go_wp2
  go_ret
  exact ⟨rfl, Below.refl _ _⟩

/-- Two cells of a row of the call's own that are written over. -/
theorem stored2 {w : World} {base e g cap n : Nat} {Q : List Value} {a b : Value} (h : w.ownsRow base e 4 (.slice (some ⟨g, 0, none⟩) n cap) n (a :: b :: Q)) (a' b' : Value) :
    ((w.setCell ⟨g, 0, none⟩ a').setCell ⟨g, 1, none⟩ b').ownsRow base e 4 (.slice (some ⟨g, 0, none⟩) n cap) n (a' :: b' :: Q) := by
  have h1 := (h.stored 0 a').1
  have h2 := (h1.stored 1 b').1
  simpa using h2

set_option maxHeartbeats 1000000 in
set_option maxRecDepth 100000 in
theorem begun_one (h : Nat) (lo : ByteArray) (hi : Option ByteArray) (s : Sl) (r : Nr) (rs : List Nr) (k : ByteArray × TrH h) (ks : List (ByteArray × TrH h)) (w : World) (S : Nat → Prop) (hS : Und w S) (hV : SlB Nr.cells 4 w S s (r :: rs)) (hN : NodesR h w S (r :: rs) (k :: ks)) (hok : okK (okN h) hi (k :: ks)) (hmax : ks.length < 100000)
    (hrec : ∀ wx, Und wx S → NodeB h wx S r k.1 k.2 → Calls Try.prog 46 #[.slice r.k.a r.k.n r.k.c, .string lo] wx fun e w' => ∃ s : Sl, e = .returned (.slice s.a s.n s.c) ∧ NodeB h w' (Gr S wx w') ⟨lo, s, r.n, r.p⟩ lo (lowN h lo k.2) ∧ Below wx.heap.size wx w') :
    Calls Try.prog 46 #[.slice s.a s.n s.c, .string lo] w fun e w' => ∃ v', e = .returned v' ∧ TsV h w' (Gr S w w') v' (lowK h lo (k :: ks)) ∧ Below w.heap.size w w' := by
  have hlen : rs.length = ks.length := by have := AllN.len hN; simpa using this
  obtain ⟨klo, kt⟩ := k
  have hrl : r.low = klo := NodeB.low hN.1
  have hV0 := hV
  obtain ⟨sa0, sn0, sc0⟩ := s
  obtain ⟨hn1, hA0, hc, hz⟩ := hV
  simp only at hn1 hA0 hc hz
  obtain ⟨n, hn⟩ : ∃ n, n = rs.length + 1 := ⟨_, rfl⟩
  have hl : (r :: rs).length = n := by rw [hn]; rfl
  have hn0 : 0 < n := by omega
  have hnm : n ≤ 100000 := by omega
  have hz0 : ((n : Int) == 0) = false := by simp; omega
  have hA : Nrs w w.heap.size sa0 (r :: rs) := hA0.lies hS
  obtain ⟨ad, rfl, hab, hca⟩ := hA.seeK (by simp)
  obtain ⟨c1, c2, c3, c4⟩ := hca 0 (by simp)
  have hcl := clone_nd (some ad) sc0 (r :: rs) w hA (by simp; omega)
  have HN := Lib.hid hN
  have HL := Lib.hid hl
  have HU := Lib.hid hS
  rw [hl] at hcl hn1
  subst hn1
  simp only [List.getElem_cons_zero] at c1
  rw [hrl, show ad.add (0 * 4) = ad from by rw [Nat.zero_mul, Addr.add_zero']] at c1
  show Calls Try.prog 46 #[.slice (some ad) sn0 sc0, .string lo] w fun e w' => ∃ v', e = .returned v' ∧ TsV h w' (Gr S w w') v' (lowK h lo ((klo, kt) :: ks)) ∧ Below w.heap.size w w'
  by_cases he : klo = lo
  · subst he
    have HR := Lib.hid (show TsV h w (Gr S w w) (.slice (some ad) sn0 sc0) (lowK h klo ((klo, kt) :: ks)) from (show TsV h w S (.slice (some ad) sn0 sc0) (lowK h klo ((klo, kt) :: ks)) from ⟨⟨some ad, sn0, sc0⟩, r :: rs, rfl, hV0, by rw [lowK_self hok]; exact hN⟩).mono gr_in)
    have hz := str_eq (rfl : klo = klo)
    clear hca c2 c3 c4 hcl hN hA hA0 hV0 hrec hok hl hn hlen hrl hc hmax hS
    go_enter Try.func46, Try.ntmps46
    go_wp2
    go_ret
    exact ⟨_, rfl, HR.out, Below.refl _ _⟩
  · have hz2 := str_ne he
    have HREC := Lib.hid hrec
    clear hca c2 c3 c4 hN hA hA0 hV0 hrec hok hn hlen hc hmax hl hz hS
    go_enter Try.func46, Try.ntmps46
    go_wp2_with fail
    refine hcl.mono ?_
    clear hcl c1
    rintro e w1 ⟨v1, rfl, hown, hb1⟩
    have HN1 := Lib.hid (NodesR.on HN.out HU.out hb1)
    have HU1 := Lib.hid (HU.out.on hb1)
    have HB1 := Lib.hid hb1
    have HO1 := Lib.hid hown
    obtain ⟨g, cap, cur, hv, hbg, hg, hnc, _, hcs, hcur⟩ : ∃ g cap cur, v1 = .slice (some ⟨g, 0, none⟩) sn0 cap ∧ w.heap.size ≤ g ∧ w1.heap[g]? = some (.cells cur 30 (0, 0)) ∧ sn0 ≤ cap ∧ cap ≤ maxLen ∧ cur.size = cap * 4 ∧ cur.toList.take (sn0 * 4) = (r :: rs).flatMap Nr.cells := by
      rcases hown.2 with ⟨_, h0⟩ | h1
      · omega
      · exact h1
    subst hv
    have HG1 := Lib.hid (show g < w1.heap.size from (Array.getElem?_eq_some_iff.1 hg).1)
    have hc1 : w1.cell? ⟨g, 1, none⟩ = some (.slice r.k.a r.k.n r.k.c) := by
      have h1 := hown.cells (g := g) rfl 1 (.slice r.k.a r.k.n r.k.c) rfl
      simpa [Addr.add] using h1
    have hrc := HREC.out w1 HU1.out (HN1.out.1)
    clear hown hb1 hg hcs hcur hnc
    go_wp2_with fail
    refine hrc.mono ?_
    clear hrc hc1
    rintro e w2 ⟨⟨sa, sn, sc⟩, rfl, hnd, hb2⟩
    have HND := Lib.hid hnd
    have HN2 := Lib.hid (NodesR.on HN1.out HU1.out hb2)
    have HO2 := Lib.hid (own_below HO1.out hb2)
    have HB2 := Lib.hid (HB1.out.trans (hb2.mono HB1.out.size))
    have HS2 := Lib.hid hb2.size
    clear hnd hb2
    obtain ⟨cur2, hbx⟩ : ∃ cur2, Box w2 g 30 cur2 ∧ cur2[0]? = some (.string klo) ∧ cur2[1]? = some (.slice r.k.a r.k.n r.k.c) := by
      rcases HO2.out.2 with ⟨h1, _⟩ | ⟨g2, cap2, cur2, hv2, _, hg2, _, _, _, hcur2⟩
      · cases h1
      · injection hv2 with e1
        injection e1 with e1
        injection e1 with e1
        subst e1
        have h3 : ∀ j u, ((r :: rs).flatMap Nr.cells)[j]? = some u → cur2[j]? = some u := fun j u hj => by
          rw [← hcur2, List.getElem?_take] at hj
          split at hj
          · simpa using hj
          · cases hj
        refine ⟨cur2, hg2, h3 0 _ ?_, h3 1 _ rfl⟩
        show some (Value.string r.low) = _
        rw [hrl]
    obtain ⟨hbx, hcu0, hcu1⟩ := hbx
    have k0 := Box.cell hbx 0 hcu0
    have k1 := Box.cell hbx 1 hcu1
    have f0 := Box.free hbx 0
    have f1 := Box.free hbx 1
    have k1' : (w2.setCell ⟨g, 0, none⟩ (.string lo)).cell? ⟨g, 1, none⟩ = some (.slice r.k.a r.k.n r.k.c) := Box.cell (Box.set hbx 0 (.string lo)) 1 (by rw [Array.getElem?_setIfInBounds]; simp; exact hcu1)
    have f1' := Box.free (Box.set hbx 0 (.string lo)) 1
    have HG := Lib.hid hbg
    have HST := Lib.hid (stored2 (a := .string r.low) (b := .slice r.k.a r.k.n r.k.c) (Q := .slice r.n.a r.n.n r.n.c :: .slice r.p.a r.p.n r.p.c :: rs.flatMap Nr.cells) HO2.out (.string lo) (.slice sa sn sc))
    clear hbx hcu0 hcu1 hbg
    go_wp2
    go_ret
    refine ⟨_, rfl, ?_, (HB2.out.setCell HG.out _).setCell HG.out _⟩
    have hkeep : ∀ p : Addr, Gr S w1 w2 p.block → ((w2.setCell ⟨g, 0, none⟩ (.string lo)).setCell ⟨g, 1, none⟩ (.slice sa sn sc)).cell? p = w2.cell? p := fun p hp => by
      have hne : p.block ≠ g := fun e => by
        rw [e] at hp
        rcases hp with hp | hp
        · have := HU.out g hp; have := HG.out; omega
        · have := HG1.out; omega
      simp only [World.cell?]
      rw [Below.heap_setCell _ _ _ _ (show p.block ≠ (⟨g, 1, none⟩ : Addr).block from hne), Below.heap_setCell _ _ _ _ (show p.block ≠ (⟨g, 0, none⟩ : Addr).block from hne)]
    have hsz : ((w2.setCell ⟨g, 0, none⟩ (.string lo)).setCell ⟨g, 1, none⟩ (.slice sa sn sc)).heap.size = w2.heap.size := by simp
    have hin : ∀ b, Gr S w1 w2 b → Gr S w ((w2.setCell ⟨g, 0, none⟩ (.string lo)).setCell ⟨g, 1, none⟩ (.slice sa sn sc)) b := fun b hb => by
      rcases hb with hb | hb
      · exact .inl hb
      · exact .inr ⟨by have := HB1.out.size; omega, by rw [hsz]; exact hb.2⟩
    obtain ⟨s', e', hs'⟩ := sl_own (l := (⟨lo, ⟨sa, sn, sc⟩, r.n, r.p⟩ : Nr) :: rs) Nr.cells4 HST.out (by rw [← HL.out]; rfl)
    refine ⟨s', _, e', hs'.mono fun b hb => .inr hb, ⟨NodeB.keep hkeep hin _ _ _ _ HND.out, ?_⟩⟩
    exact AllN.imp (fun x y hx => NodeB.keep (S := S) (fun p hp => hkeep p (.inl hp)) (fun b hb => .inl hb) _ _ _ _ hx) HN2.out.2

theorem begun_v : ∀ (h : Nat) {v : Value} {ks : List (ByteArray × TrH h)} {w : World} {S : Nat → Prop} (lo : ByteArray) {hi : Option ByteArray}, Und w S → TsV h w S v ks → okK (okN h) hi ks → ks.length ≤ 100000 →
    Calls Try.prog 46 #[v, .string lo] w fun e w' => ∃ v', e = .returned v' ∧ TsV h w' (Gr S w w') v' (lowK h lo ks) ∧ Below w.heap.size w w' := by
  intro h v ks w S lo hi hS hV hok hmax
  obtain ⟨s, rs, rfl, hR, hN⟩ := hV
  cases ks with
  | nil =>
    cases rs with
    | cons r rs => exact hN.elim
    | nil =>
      have e0 : s.n = 0 := hR.1
      rw [e0]
      refine (begun_nil s.a s.c lo w).mono ?_
      rintro e w' ⟨rfl, hb⟩
      exact ⟨_, rfl, ⟨s, [], by rw [e0], (hR.on hS hb).mono gr_in, trivial⟩, hb⟩
  | cons k ks =>
    cases rs with
    | nil => exact hN.elim
    | cons r rs =>
      refine begun_one h lo hi s r rs k ks w S hS hR hN hok (by simp at hmax; omega) ?_
      intro wx hu hx
      cases h with
      | zero =>
        obtain ⟨h1, h2, h3, h4⟩ := hx
        rw [h2]
        refine (begun_nil none 0 lo wx).mono ?_
        rintro e w' ⟨rfl, hb⟩
        exact ⟨nilS, rfl, ⟨rfl, rfl, h3, (h4.on hu hb).mono gr_in⟩, hb⟩
      | succ h =>
        obtain ⟨h1, h2, h3, rs2, h4, h5⟩ := hx
        refine (begun_v h (v := .slice r.k.a r.k.n r.k.c) (ks := k.2.2) lo hu ⟨r.k, rs2, rfl, h4, h5⟩ hok.1.2.2.2.2.2 ?_).mono ?_
        · have := hok.1.2.2.2.1; omega
        · rintro e w' ⟨v', rfl, ⟨s3, rs3, rfl, hs, hn3⟩, hb⟩
          refine ⟨s3, rfl, ?_, hb⟩
          rw [lowN_succ]
          exact ⟨rfl, (h2.on hu hb).mono gr_in, h3, rs3, hs, hn3⟩

end Go.Proofs.Yteddjmkoleclpaa
