/- The walk of Apply; values that are slices of pairs, and of notes: layer 10's without Next. -/
import Derived.Test.YteddjmkoleclpaaMrg
import Derived.OwnWalk
set_option linter.unusedVariables false
set_option linter.unusedSimpArgs false
namespace Go.Proofs.Yteddjmkoleclpaa
open Go.RowKit

/-- What Apply answers. -/
def applyL (l : List Pr) (ns : List Nt) : List Pr := if wellL l && ns.all rightN then foldOne l ns else l
def applyE (l : List Pr) (ns : List Nt) : Int := if wellL l && ns.all rightN then 0 else 1

/-- A value that is a slice of these pairs, or notes. -/
def PV (w : World) (v : Value) (l : List Pr) : Prop := ∃ A c, v = .slice A l.length c ∧ Prs w w.heap.size A l ∧ l.length ≤ c ∧ (A = none → c = 0)
def NV (w : World) (v : Value) (l : List Nt) : Prop := ∃ A c, v = .slice A l.length c ∧ Nts w w.heap.size A l ∧ l.length ≤ c ∧ (A = none → c = 0)
theorem PV.on {w w' : World} {v : Value} {l : List Pr} (h : PV w v l) (hb : Below w.heap.size w w') : PV w' v l := by
  obtain ⟨A, c, e, hp, h2⟩ := h
  exact ⟨A, c, e, hp.on hb, h2⟩
theorem NV.on {w w' : World} {v : Value} {l : List Nt} (h : NV w v l) (hb : Below w.heap.size w w') : NV w' v l := by
  obtain ⟨A, c, e, hp, h2⟩ := h
  exact ⟨A, c, e, hp.on hb, h2⟩
theorem PV.push {w : World} {v : Value} {l : List Pr} (h : PV w v l) (o : Obj) : PV (w.alloc o) v l := h.on ((Below.refl _ w).alloc (Nat.le_refl _) o)
theorem NV.push {w : World} {v : Value} {l : List Nt} (h : NV w v l) (o : Obj) : NV (w.alloc o) v l := h.on ((Below.refl _ w).alloc (Nat.le_refl _) o)
theorem PV.nil (w : World) : PV w (.slice none 0 0) [] := ⟨none, 0, rfl, Lies.nil, Nat.le_refl _, fun _ => rfl⟩
theorem NV.nil (w : World) : NV w (.slice none 0 0) [] := ⟨none, 0, rfl, Lies.nil, Nat.le_refl _, fun _ => rfl⟩
theorem PV.own {w : World} {base n : Nat} {v : Value} {l : List Pr} (h : w.ownsRow base 44 2 v n (l.flatMap Pr.cells)) (hn : n = l.length) : PV w v l := by
  subst hn
  obtain ⟨A, c, rfl⟩ := own_shape h
  have h1 := row_cap h
  exact ⟨A, c, rfl, Lies.own Pr.cells2 h, h1.1, h1.2⟩
theorem NV.own {w : World} {base n : Nat} {v : Value} {l : List Nt} (h : w.ownsRow base 52 4 v n (l.flatMap Nt.cells)) (hn : n = l.length) : NV w v l := by
  subst hn
  obtain ⟨A, c, rfl⟩ := own_shape h
  have h1 := row_cap h
  exact ⟨A, c, rfl, Lies.own Nt.cells4 h, h1.1, h1.2⟩
theorem PV.lit {w : World} {C : Array Value} {l : List Pr} {g n : Nat} (hg : g = w.heap.size) (h : C.toList = l.flatMap Pr.cells) (hn : n = l.length) : PV (w.alloc (.cells C 44)) (.slice (some ⟨g, 0, none⟩) n n) l := by
  subst hg hn
  exact ⟨_, _, rfl, (Lies.lit Pr.cells2 h).more (by simp), Nat.le_refl _, fun h => by cases h⟩
theorem NV.lit {w : World} {C : Array Value} {l : List Nt} {g n : Nat} (hg : g = w.heap.size) (h : C.toList = l.flatMap Nt.cells) (hn : n = l.length) : NV (w.alloc (.cells C 52)) (.slice (some ⟨g, 0, none⟩) n n) l := by
  subst hg hn
  exact ⟨_, _, rfl, (Lies.lit Nt.cells4 h).more (by simp), Nat.le_refl _, fun h => by cases h⟩

set_option maxHeartbeats 2000000 in
set_option maxRecDepth 100000 in
theorem apply_any (A : Option Addr) (c : Nat) (l : List Pr) (B : Option Addr) (d : Nat) (ns : List Nt) (w : World) (hA : Prs w w.heap.size A l) (hB : Nts w w.heap.size B ns) (hc : l.length ≤ c) (hz : A = none → c = 0) (hmax : l.length + ns.length ≤ 1000000) :
    Calls Try.prog 56 #[.slice A l.length c, .slice B ns.length d] w fun e w' => ∃ v, e = .returned (.tuple #[v, .int .i64 (applyE l ns)]) ∧ PV w' v (applyL l ns) ∧ Below w.heap.size w w' := by
  have hr := right_pr A c l w hA (by unfold maxLen; omega)
  have hcl := fun wx (h : Prs wx wx.heap.size A l) => clone_pr A c l wx h (by omega)
  have HA := Lib.hid hA
  have HB := Lib.hid hB
  cases hw : wellL l with
  | false =>
    have e1 : applyL l ns = l ∧ applyE l ns = 1 := by unfold applyL applyE; rw [hw]; exact ⟨rfl, rfl⟩
    rw [e1.1, e1.2]
    rw [hw] at hr
    have HCL := Lib.hid hcl
    clear hA hB hw e1 hcl hz hc
    obtain ⟨n1, hn1⟩ : ∃ n1, l.length = n1 := ⟨_, rfl⟩
    rw [hn1] at hr HCL ⊢
    have HN := Lib.hid hn1
    clear hn1
    go_enter Try.func56, Try.ntmps56
    go_wp2_with fail
    refine hr.mono ?_
    clear hr
    rintro e w1 ⟨rfl, hb1⟩
    have hc1 := HCL.out w1 (HA.out.on hb1)
    go_wp2_with fail
    refine hc1.mono ?_
    clear hc1
    rintro e w2 ⟨v, rfl, hown, hb2⟩
    have HO := Lib.hid hown
    clear hown
    go_wp2
    go_ret2
    exact ⟨v, rfl, PV.own HO.out HN.out.symm, hb1.trans (hb2.mono hb1.size)⟩
  | true =>
    rw [hw] at hr
    have han := fun wx (h : Nts wx wx.heap.size B ns) => allnotes_any B d ns wx h (by unfold maxLen; omega)
    cases ha : ns.all rightN with
    | false =>
      have e1 : applyL l ns = l ∧ applyE l ns = 1 := by unfold applyL applyE; rw [hw, ha]; exact ⟨rfl, rfl⟩
      rw [e1.1, e1.2]
      rw [ha] at han
      have HCL := Lib.hid hcl
      have HAN := Lib.hid han
      clear hA hB hw e1 hcl ha han hz hc
      obtain ⟨n1, hn1⟩ : ∃ n1, l.length = n1 := ⟨_, rfl⟩
      obtain ⟨n2, hn2⟩ : ∃ n2, ns.length = n2 := ⟨_, rfl⟩
      rw [hn1] at hr HCL ⊢
      rw [hn2] at HAN ⊢
      have HN := Lib.hid hn1
      clear hn1 hn2
      go_enter Try.func56, Try.ntmps56
      go_wp2_with fail
      refine hr.mono ?_
      clear hr
      rintro e w1 ⟨rfl, hb1⟩
      have hc1 := HAN.out w1 (HB.out.on hb1)
      go_wp2_with fail
      refine hc1.mono ?_
      clear hc1
      rintro e w2 ⟨rfl, hb2⟩
      have hb12 := hb1.trans (hb2.mono hb1.size)
      have hc2 := HCL.out w2 (HA.out.on hb12)
      clear hb1 hb2
      go_wp2_with fail
      refine hc2.mono ?_
      clear hc2
      rintro e w3 ⟨v, rfl, hown, hb3⟩
      have HO := Lib.hid hown
      clear hown
      go_wp2
      go_ret2
      exact ⟨v, rfl, PV.own HO.out HN.out.symm, hb12.trans (hb3.mono hb12.size)⟩
    | true =>
      have e1 : applyL l ns = foldOne l ns ∧ applyE l ns = 0 := by unfold applyL applyE; rw [hw, ha]; exact ⟨rfl, rfl⟩
      rw [e1.1, e1.2]
      rw [ha] at han
      have hbk := fun wx (h : Nts wx wx.heap.size B ns) => bykey_any B d ns wx h (by omega)
      have hmg := fun (B' : Option Addr) (d' : Nat) (s : List Nt) wx (h1 : Prs wx wx.heap.size A l) (h2 : Nts wx wx.heap.size B' s) (h3 : s.length ≤ d') (h4 : s.length = ns.length) (h5 : Rising s) => merged_any A c l B' d' s wx h1 h2 hc h3 hz (by omega) (well_sorted hw) h5
      have HST := Lib.hid (show ∀ s, StEq s ns → foldOne l s = foldOne l ns from fun s h => fold_steq (well_sorted hw) h)
      have HAN := Lib.hid han
      have HBK := Lib.hid hbk
      have HMG := Lib.hid hmg
      clear hA hB hw e1 hcl ha han hbk hmg hz hc
      obtain ⟨n1, hn1⟩ : ∃ n1, l.length = n1 := ⟨_, rfl⟩
      obtain ⟨n2, hn2⟩ : ∃ n2, ns.length = n2 := ⟨_, rfl⟩
      rw [hn1] at hr HMG ⊢
      rw [hn2] at HAN HBK HMG ⊢
      clear hn1 hn2
      go_enter Try.func56, Try.ntmps56
      go_wp2_with fail
      refine hr.mono ?_
      clear hr
      rintro e w1 ⟨rfl, hb1⟩
      have hc1 := HAN.out w1 (HB.out.on hb1)
      go_wp2_with fail
      refine hc1.mono ?_
      clear hc1
      rintro e w2 ⟨rfl, hb2⟩
      have hb12 := hb1.trans (hb2.mono hb1.size)
      have hc2 := HBK.out w2 (HB.out.on hb12)
      clear hb1 hb2
      go_wp2_with fail
      refine hc2.mono ?_
      clear hc2
      rintro e w3 ⟨B', d', s, rfl, hsl, hsr, hst, hsn, hsc, hb3⟩
      have hb13 := hb12.trans (hb3.mono hb12.size)
      have hc3 := HMG.out B' d' s w3 (HA.out.on hb13) hsn hsc hsl hsr
      rw [HST.out s hst] at hc3
      clear hb3 hb12 hsl hsr hst hsn hsc
      obtain ⟨n3, hn3⟩ : ∃ n3, s.length = n3 := ⟨_, rfl⟩
      rw [hn3] at hc3 ⊢
      clear hn3
      go_wp2_with fail
      refine hc3.mono ?_
      clear hc3
      rintro e w4 ⟨v, rfl, hown, hb4⟩
      have HO := Lib.hid hown
      clear hown
      go_wp2
      go_ret2
      exact ⟨v, rfl, PV.own HO.out rfl, hb13.trans (hb4.mono hb13.size)⟩

/-! The contracts at values. -/
theorem apply_v {v u : Value} {l : List Pr} {ns : List Nt} {w : World} (h : PV w v l) (g : NV w u ns) (hmax : l.length + ns.length ≤ 1000000) :
    Calls Try.prog 56 #[v, u] w fun e w' => ∃ v', e = .returned (.tuple #[v', .int .i64 (applyE l ns)]) ∧ PV w' v' (applyL l ns) ∧ Below w.heap.size w w' := by
  obtain ⟨A, c, rfl, h1, h2, h3⟩ := h
  obtain ⟨B, d, rfl, g1, g2, g3⟩ := g
  exact apply_any A c l B d ns w h1 g1 h2 h3 hmax
theorem right_v {v : Value} {l : List Pr} {w : World} (h : PV w v l) (hn : l.length ≤ maxLen) :
    Calls Try.prog 76 #[v] w fun e w' => e = .returned (.bool (wellL l)) ∧ Below w.heap.size w w' := by
  obtain ⟨A, c, rfl, h1, h2, h3⟩ := h
  exact right_pr A c l w h1 hn
theorem get_v {v : Value} {l : List Pr} {w : World} (h : PV w v l) (key : ByteArray) (hn : l.length ≤ 1000000) :
    Calls Try.prog 52 #[v, .string key] w fun e w' => e = .returned (.tuple #[.string (getA l key).1, .bool (getA l key).2]) ∧ Below w.heap.size w w' := by
  obtain ⟨A, c, rfl, h1, h2, h3⟩ := h
  exact get_any A c l key w h1 hn
theorem same_v {v u : Value} {l m : List Pr} {w : World} (h : PV w v l) (g : PV w u m) (hn : l.length ≤ maxLen) :
    Calls Try.prog 16 #[v, u] w fun e w' => e = .returned (.bool (decide (l = m))) ∧ Below w.heap.size w w' := by
  obtain ⟨A, c, rfl, h1, h2, h3⟩ := h
  obtain ⟨B, d, rfl, g1, g2, g3⟩ := g
  exact same_any A B c d l m w h1 g1 hn

end Go.Proofs.Yteddjmkoleclpaa

namespace Go.Proofs.Yteddjmkoleclpaa
open Go.RowKit

/-- How many parts, how long each is, and where it begins. -/
def partsN (n mo : Nat) : Nat := (n - 1) / mo + 1
def sizeN (n p i : Nat) : Nat := n / p + (if i < n % p then 1 else 0)
def posN (n p i : Nat) : Nat := i * (n / p) + min i (n % p)
theorem pos_succ (n p i : Nat) : posN n p (i + 1) = posN n p i + sizeN n p i := by
  unfold posN sizeN
  rw [Nat.add_mul, Nat.one_mul]
  split <;> omega
theorem pos_last (n p : Nat) (hp : 0 < p) : posN n p p = n := by
  unfold posN
  have h1 := Nat.mod_lt n hp
  have h2 := Nat.div_add_mod n p
  rw [Nat.min_eq_right (by omega)]
  exact h2
theorem pos_le (n p i j : Nat) (h : i ≤ j) : posN n p i ≤ posN n p j := by
  unfold posN
  have := Nat.mul_le_mul_right (n / p) h
  omega
theorem parts_le (n mo : Nat) (hn : 0 < n) : partsN n mo ≤ n := by
  unfold partsN
  have := Nat.div_le_self (n - 1) mo
  omega
/-- Part i, and all parts. -/
def partL (l : List Pr) (p i : Nat) : List Pr := (l.drop (posN l.length p i)).take (sizeN l.length p i)
def shareN (l : List Pr) (p : Nat) : List (List Pr) := (List.range p).map (partL l p)
def shareL (l : List Pr) (most : Int) : List (List Pr) := if l.length = 0 ∨ most < 1 then [] else shareN l (partsN l.length most.toNat)
theorem share_snoc (l : List Pr) (p i : Nat) : (List.range (i + 1)).map (partL l p) = (List.range i).map (partL l p) ++ [partL l p i] := by
  rw [List.range_succ, List.map_append]; rfl

theorem Lies.drop0 {α : Type} {cs : α → List Value} {k : Nat} {w : World} {B : Nat} {A : Option Addr} {l : List α} (h : Lies cs k w B A l) : Lies cs k w B A (l.drop 0) := by rw [List.drop_zero]; exact h
/-- A value that is a slice of these slices of pairs. -/
def SV (w : World) (v : Value) (ps : List (List Pr)) : Prop :=
  ∃ (A : Option Addr) (c : Nat) (vs : List Value), v = .slice A ps.length c ∧ vs.length = ps.length ∧ Lies (fun u : Value => [u]) 1 w w.heap.size A vs ∧ ∀ i (h : i < ps.length), ∃ u, vs[i]? = some u ∧ PV w u ps[i]
theorem SV.on {w w' : World} {v : Value} {l : List (List Pr)} (h : SV w v l) (hb : Below w.heap.size w w') : SV w' v l := by
  obtain ⟨A, c, vs, e, hl, hp, h2⟩ := h
  exact ⟨A, c, vs, e, hl, hp.on hb, fun i hi => let ⟨u, h3, h4⟩ := h2 i hi; ⟨u, h3, h4.on hb⟩⟩
theorem SV.nil (w : World) : SV w (.slice none 0 0) [] := ⟨none, 0, [], rfl, rfl, Lies.nil, fun i h => absurd h (by simp)⟩

theorem prl_info : (Try.prog.info? 28).map (fun i => (i.zero, i.size, i.bytes)) = some (some (.slice none 0 0), 1, 24) := by kernel_rfl
theorem own_base {w : World} {base base' n k : Nat} {e : TypeId} {v : Value} {xs : List Value} (h : w.ownsRow base e k v n xs) (hb : base' ≤ base) : w.ownsRow base' e k v n xs :=
  ⟨h.1, h.2.imp id fun ⟨g, cap, cur, h1, h2, r⟩ => ⟨g, cap, cur, h1, Nat.le_trans hb h2, r⟩⟩
/-- Rows of unlike types lie apart. -/
theorem own_apart {w : World} {b1 b2 n1 n2 k1 k2 : Nat} {e1 e2 : TypeId} {v1 v2 : Value} {xs ys : List Value} (h1 : w.ownsRow b1 e1 k1 v1 n1 xs) (h2 : w.ownsRow b2 e2 k2 v2 n2 ys) (he : e1 ≠ e2) : ∀ g, v1.ownBlock = some g → v2.ownBlock ≠ some g := by
  intro g hg hg2
  rcases h1.2 with ⟨hv, _⟩ | ⟨g1, cap, cur, hv, _, hh, _⟩
  · rw [hv] at hg; simp [Value.ownBlock] at hg
  · rcases h2.2 with ⟨hv2, _⟩ | ⟨g2, cap2, cur2, hv2, _, hh2, _⟩
    · rw [hv2] at hg2; simp [Value.ownBlock] at hg2
    · rw [hv] at hg
      rw [hv2] at hg2
      simp [Value.ownBlock] at hg hg2
      subst hg hg2
      rw [hh] at hh2
      injection hh2 with hh2
      injection hh2 with _ hh2 _
      exact he hh2
/-- The parts, each in a row of its own. -/
def PartsAt (base : Nat) (w : World) (vs : List Value) (ps : List (List Pr)) : Prop := vs.length = ps.length ∧ ∀ i (h : i < ps.length), ∃ u, vs[i]? = some u ∧ w.ownsRow base 44 2 u ps[i].length (ps[i].flatMap Pr.cells)
theorem PartsAt.on {base : Nat} {w w' : World} {vs : List Value} {ps : List (List Pr)} (h : PartsAt base w vs ps) (hb : Below w.heap.size w w') : PartsAt base w' vs ps :=
  ⟨h.1, fun i hi => let ⟨u, h1, h2⟩ := h.2 i hi; ⟨u, h1, own_below h2 hb⟩⟩
theorem PartsAt.grown {base b2 n : Nat} {w w' : World} {vs : List Value} {ps : List (List Pr)} {v : Value} {xs : List Value} (h : PartsAt base w vs ps) (hr : w.ownsRow b2 28 1 v n xs) (hg : w.grownBy w' v.ownBlock) : PartsAt base w' vs ps :=
  ⟨h.1, fun i hi => by
    obtain ⟨u, h1, h2⟩ := h.2 i hi
    refine ⟨u, h1, ?_⟩
    obtain ⟨A, c, rfl⟩ := own_shape h2
    refine h2.kept hg ?_
    cases e : Value.ownBlock (.slice A ps[i].length c) with
    | none => exact .inl rfl
    | some g => exact .inr fun e2 => own_apart h2 hr (by decide) g e e2.symm⟩
theorem PartsAt.snoc {base : Nat} {w : World} {vs : List Value} {ps : List (List Pr)} {u : Value} {p : List Pr} (h : PartsAt base w vs ps) (hu : w.ownsRow base 44 2 u p.length (p.flatMap Pr.cells)) : PartsAt base w (vs ++ [u]) (ps ++ [p]) := by
  refine ⟨by simp [h.1], fun i hi => ?_⟩
  by_cases h2 : i < ps.length
  · obtain ⟨x, h3, h4⟩ := h.2 i h2
    exact ⟨x, by rw [List.getElem?_append_left (by rw [h.1]; exact h2)]; exact h3, by rw [List.getElem_append_left h2]; exact h4⟩
  · have e : i = ps.length := by simp at hi; omega
    subst e
    exact ⟨u, by rw [List.getElem?_append_right (by rw [h.1]; exact Nat.le_refl _), h.1]; simp, by rw [List.getElem_append_right (Nat.le_refl _)]; simpa using hu⟩

set_option maxHeartbeats 4000000 in
set_option maxRecDepth 100000 in
theorem share_own (A : Option Addr) (c : Nat) (l : List Pr) (most : Int) (w : World) (hA : Prs w w.heap.size A l) (hc : l.length ≤ c) (hz : A = none → c = 0) (hmax : l.length ≤ 1000000) (hmo : most ≤ 9223372036854775807) :
    Calls Try.prog 70 #[.slice A l.length c, .int .i64 most] w fun e w' => ∃ v, e = .returned v ∧ (∃ vs, w'.ownsRow w.heap.size 28 1 v (shareL l most).length vs ∧ PartsAt w.heap.size w' vs (shareL l most)) ∧ Below w.heap.size w w' := by
  by_cases h0 : l.length = 0
  · have e1 : shareL l most = [] := by unfold shareL; rw [if_pos (.inl h0)]
    rw [h0, e1]
    clear hA e1 h0 hc hmax
    go_enter Try.func70, Try.ntmps70
    go_wp2
    go_ret
    exact ⟨_, rfl, ⟨[], World.ownsRow_nil _ _ _ _, rfl, fun i h => absurd h (by simp)⟩, Below.refl _ _⟩
  by_cases h1 : most < 1
  · have e1 : shareL l most = [] := by unfold shareL; rw [if_pos (.inr h1)]
    rw [e1]
    have hpos : 0 < l.length := by omega
    obtain ⟨n, hn⟩ : ∃ n, l.length = n := ⟨_, rfl⟩
    rw [hn] at h0 ⊢
    have hne : ((n : Int) == 0) = false := by simp; omega
    clear hA e1 hc hmax hpos hn
    go_enter Try.func70, Try.ntmps70
    go_wp2
    go_ret
    exact ⟨_, rfl, ⟨[], World.ownsRow_nil _ _ _ _, rfl, fun i h => absurd h (by simp)⟩, Below.refl _ _⟩
  obtain ⟨i0, hi0, hz0, hz1, hz2⟩ := info_parts prl_info
  obtain ⟨mo, rfl⟩ : ∃ mo : Nat, most = mo := ⟨most.toNat, by omega⟩
  have hm1 : 1 ≤ mo := by omega
  have hm0 : ((mo : Int) == 0) = false := by simp; omega
  have hlt1 : decide ((mo : Int) < 1) = false := by simp; omega
  have e1 : shareL l (mo : Int) = shareN l (partsN l.length mo) := by unfold shareL; rw [if_neg (by omega)]; rfl
  rw [e1]
  have hpn := parts_le l.length mo (by omega)
  obtain ⟨p, hp⟩ : ∃ p, p = partsN l.length mo := ⟨_, rfl⟩
  rw [← hp] at hpn ⊢
  obtain ⟨q, hq⟩ : ∃ q, q = (l.length - 1) / mo := ⟨_, rfl⟩
  have hpq : p = q + 1 := by rw [hp, hq]; rfl
  obtain ⟨sz, hsz⟩ : ∃ sz, sz = l.length / p := ⟨_, rfl⟩
  obtain ⟨lg, hlg⟩ : ∃ lg, lg = l.length % p := ⟨_, rfl⟩
  have hszn : sz ≤ l.length := by rw [hsz]; exact Nat.div_le_self _ _
  have hlgn : lg < p := by rw [hlg]; exact Nat.mod_lt _ (by omega)
  have HSI := Lib.hid (show ∀ i, sizeN l.length p i = sz + (if i < lg then 1 else 0) from fun i => by rw [hsz, hlg]; rfl)
  have HPL := Lib.hid (show posN l.length p p = l.length from pos_last _ _ (by omega))
  have wq : ((l.length - 1 : Nat) : Int) / (mo : Int) = (q : Int) := by rw [hq]; rfl
  have wsz : (l.length : Int) / (p : Int) = (sz : Int) := by rw [hsz]; rfl
  have wlg : (l.length : Int) % (p : Int) = (lg : Int) := by rw [hlg]; rfl
  obtain ⟨n, hn⟩ : ∃ n, l.length = n := ⟨_, rfl⟩
  rw [hn] at h0 hc hmax hpn wq wsz wlg hszn ⊢
  have hne : ((n : Int) == 0) = false := by simp; omega
  have hpe : ((p : Int) == 0) = false := by simp; omega
  have w1 : IntKind.i64.wrap ((n : Int) - 1) = ((n - 1 : Nat) : Int) := by rw [IntKind.wrap_i64]; omega
  have w2 : IntKind.i64.wrap ((q : Int) + 1) = (p : Int) := by rw [IntKind.wrap_i64]; omega
  have hqb : q ≤ 1000000 := by omega
  have HN := Lib.hid hn
  have HA := Lib.hid hA
  have HZ := Lib.hid hz
  have HC := Lib.hid hc
  have hp1 : 1 ≤ p := by omega
  clear hp hq hpq hsz hlg hn hA hz e1 hc
  go_enter Try.func70, Try.ntmps70
  go_upto_region 4 with fail
  go_quiet (fail)
  go_wp2_with (at_make; refine wpList_make_own _ rfl _ _ 108 rfl w.heap.size 28 i0 (.slice none 0 0) 1 Try.underlying108 hi0 hz0 hz1 .i64 .i64 _ p rfl rfl rfl (by rw [hz2]; omega) (by unfold maxLen; omega) (Nat.le_refl w.heap.size) ?_)
  intro w3 hown3 hg3
  have hb3 : Below w.heap.size w w3 := (below_drewN (Below.refl _ w) _).grown hg3 (Nat.le_refl _) (by intro k hk; cases hk)
  have HO3 := Lib.hid hown3
  clear hown3 hg3
  go_wp2
  go_loopw [0, 8, 35] (fun v0 v8 vi wr => ∃ (A1 : Option Addr) (n1 c1 : Nat) (i : Nat) (vs : List Value), v0 = .slice A1 n1 c1 ∧ vi = .int .i64 i ∧ i ≤ p ∧ n1 ≤ c1 ∧ Hid (n1 + posN l.length p i = n) ∧ Hid (A1 = none → c1 = 0) ∧ Hid (Prs wr w.heap.size A1 (l.drop (posN l.length p i))) ∧ Hid (wr.ownsRow w.heap.size 28 1 v8 i vs) ∧ Hid (PartsAt w.heap.size wr vs ((List.range i).map (partL l p))) ∧ Below w.heap.size w wr) (fun _ _ vi _ => (p - intOf vi).toNat)
  case atStart => exact ⟨A, n, c, 0, [], rfl, rfl, by omega, HC.out, by show _ = _; unfold posN; simp, HZ, by show Prs _ _ _ _; unfold posN; simpa using HA.out.below hb3, HO3, ⟨rfl, fun i h => absurd h (by simp)⟩, hb3⟩
  case round =>
    clear HA HZ HC HO3 hb3
    obtain ⟨A1, n1, c1, i, vs, rfl, rfl, hip, hc1, HE1, HZ1, HP1, HOWN, HPS, hbr⟩ := hrel
    have hbs := hbr.size
    by_cases hlt : i < p
    · obtain ⟨k, hk⟩ : ∃ k, k = sizeN l.length p i := ⟨_, rfl⟩
      have hki : k = sz + (if i < lg then 1 else 0) := by rw [hk]; exact HSI.out i
      have hk1 : k ≤ n1 := by
        have h1 := pos_succ l.length p i
        have h2 := pos_le l.length p (i + 1) p (by omega)
        have h3 := HPL.out; have h4 := HE1.out; have h5 := HN.out
        omega
      have HK := Lib.hid hk
      clear hk
      go_upto_if 41 with fail
      go_cut [10] (fun v wx => v = .int .i64 k ∧ wx = wr)
      case first =>
        by_cases hil : i < lg
        · rw [if_pos hil] at hki
          have w4 : IntKind.i64.wrap ((sz : Int) + 1) = (k : Int) := by rw [IntKind.wrap_i64]; omega
          have hil2 : decide (i < lg) = true := decide_eq_true hil
          clear hki
          go_wp2
          go_meet
          case rel => exact ⟨by first | rfl | trivial, rfl⟩
        · rw [if_neg hil] at hki
          have hki2 : sz = k := by omega
          have hil2 : decide (i < lg) = false := decide_eq_false hil
          have HKI := Lib.hid hki2
          clear hki hki2
          go_wp2
          go_meet
          case rel => exact ⟨by rw [HKI.out], rfl⟩
      case rest =>
      obtain ⟨rfl, rfl⟩ := hcut
      clear hki
      have hkc : k ≤ c1 := by omega
      have hlk : ((l.drop (posN l.length p i)).take k).length = k := by have h4 := HE1.out; have h5 := HN.out; simp; omega
      have hcl := fun wx (h : Prs wx wx.heap.size A1 ((l.drop (posN l.length p i)).take k)) => clone_pr A1 c1 _ wx h (by rw [hlk]; have h4 := HE1.out; omega)
      rw [hlk] at hcl
      have hpart : (l.drop (posN l.length p i)).take k = partL l p i := by rw [HK.out]; rfl
      have HPART := Lib.hid (show partL l p i = (l.drop (posN l.length p i)).take k ∧ (partL l p i).length = k from ⟨hpart.symm, by rw [← hpart]; exact hlk⟩)
      rw [hpart] at hcl
      clear hlk hpart
      have hc2 := hcl _ (by rw [HPART.out.1]; exact (HP1.out.take k).more hbs)
      clear hcl
      go_wp2_with fail
      refine hc2.mono ?_
      clear hc2
      rintro e w4 ⟨u, rfl, hownu, hb4⟩
      have hbw4 := hbr.trans (hb4.mono hbs)
      have HP4 := Lib.hid (HP1.out.below (hb4.mono hbs))
      have hown4 := own_below HOWN.out hb4
      have HPS4 := Lib.hid (HPS.out.on hb4)
      have HU4 := Lib.hid (own_base hownu hbs)
      obtain ⟨Au, cu, rfl⟩ := own_shape hownu
      have hbs4 := hbw4.size
      clear hb4 hownu HP1 HOWN HPS
      go_wp2_with (at_builtin; refine wpList_append_own _ rfl _ _ 108 rfl w.heap.size 28 i0 (.slice none 0 0) 1 24 Try.underlying108 hi0 hz0 hz1 hz2 rfl (by decide) _ _ _ rfl (hown4.alloc _) ⟨w4.heap.size, 0, none⟩ 1 1 [.slice Au k cu] rfl rfl ?a1 ?a2 ?a3 ?a4 ?a5 ?_)
      case a1 =>
        intro j x hj
        match j, hj with
        | 0, hj => simp at hj; subst hj; simp [Addr.add]
      case a2 => intro x hx; simp at hx; subst hx; rfl
      case a3 => unfold maxLen; omega
      case a4 => omega
      case a5 => simp; omega
      intro v' w5 hown5 hg5 _
      have hk5 : ∀ k, Value.ownBlock _ = some k → w.heap.size ≤ k := fun k hk => (hown4.lt k hk).1
      have hb5 : Below w.heap.size w w5 := (hbw4.alloc hbs4 _).grown hg5 (by simp; omega) hk5
      have HP5 := Lib.hid (HP4.out.keep fun p hp => (hb5.cell hp).trans (hbw4.cell hp).symm)
      have hps4 : PartsAt w.heap.size (w4.alloc (.cells #[.slice Au k cu] 28)) (vs ++ [.slice Au k cu]) ((List.range (i + 1)).map (partL l p)) := by
        rw [share_snoc]
        refine (HPS4.out.snoc ?_).on ((Below.refl _ w4).alloc (Nat.le_refl _) _)
        rw [HPART.out.2]; exact HU4.out
      have HPS5 := Lib.hid (hps4.grown (hown4.alloc _) hg5)
      have HO5 := Lib.hid hown5
      have HE5 := Lib.hid (show n1 - k + posN l.length p (i + 1) = n ∧ l.drop (posN l.length p (i + 1)) = (l.drop (posN l.length p i)).drop k from by
        have h1 := pos_succ l.length p i
        have h2 := HE1.out; have h3 := HK.out
        rw [← h3] at h1
        exact ⟨by omega, by rw [h1, List.drop_drop]⟩)
      clear hown4 hown5 hg5 hk5 hps4 HP4 HPS4 HU4
      rcases A1 with _ | ad
      · obtain rfl : c1 = 0 := HZ1.out rfl
        obtain rfl : n1 = 0 := by omega
        obtain rfl : k = 0 := by omega
        go_wp2
        go_roundw
        case rel => exact ⟨none, 0, 0, i + 1, _, by first | rfl | trivial, by first | rfl | go_num, by omega, Nat.le_refl _, HE5.out.1, fun _ => rfl, by show Prs _ _ _ _; rw [HE5.out.2]; exact HP5.out.drop0, HO5, HPS5, hb5⟩
        case measure => simp [intOf]; omega
      · by_cases hck : c1 = k
        · have hck2 : c1 - k = 0 := by omega
          have HE6 := Lib.hid (show n1 - k ≤ 0 ∧ (l.drop (posN l.length p i)).drop k = [] from ⟨by omega, List.drop_eq_nil_of_le (by have h4 := HE1.out; have h5 := HN.out; simp; omega)⟩)
          go_wp2
          go_roundw
          case rel => exact ⟨some ad, n1 - k, 0, i + 1, _, by first | rfl | trivial, by first | rfl | go_num, by omega, HE6.out.1, HE5.out.1, fun h => (by cases h), by show Prs _ _ _ _; rw [HE5.out.2]; exact Lies.empty HE6.out.2, HO5, HPS5, hb5⟩
          case measure => simp [intOf]; omega
        · have hck2 : ¬ c1 - k = 0 := by omega
          have HE6 := Lib.hid (show n1 - k ≤ c1 - k from by omega)
          go_wp2
          go_roundw
          case rel => exact ⟨some (ad.add (k * 2)), n1 - k, c1 - k, i + 1, _, by first | rfl | trivial, by first | rfl | go_num, by omega, HE6.out, HE5.out.1, fun h => (by cases h), by show Prs _ _ _ _; rw [HE5.out.2]; exact HP5.out.drop k, HO5, HPS5, hb5⟩
          case measure => simp [intOf]; omega
    · have hip2 : i = p := by omega
      have HIP := Lib.hid hip2
      clear hip2
      go_wp2
      go_ret
      refine ⟨_, rfl, ?_, hbr⟩
      have hi := HIP.out
      have h1 := HOWN.out
      have h2 := HPS.out
      rw [hi] at h1 h2
      have h3 : ((List.range p).map (partL l p)) = shareN l p := rfl
      rw [h3] at h2
      have h4 : (shareN l p).length = p := by unfold shareN; simp
      exact ⟨vs, by rw [h4]; exact h1, h2⟩

theorem flat_share {l : List Pr} {most : Int} (h : ¬ most < 1) : (shareL l most).flatten = l := by
  unfold shareL
  by_cases h0 : l.length = 0
  · rw [if_pos (.inl h0), List.length_eq_zero_iff.1 h0]; rfl
  · rw [if_neg (by omega)]
    unfold shareN
    have hp : 0 < partsN l.length most.toNat := Nat.succ_pos _
    have h1 : ∀ i, i ≤ partsN l.length most.toNat → ((List.range i).map (partL l (partsN l.length most.toNat))).flatten = l.take (posN l.length (partsN l.length most.toNat) i) := by
      intro i
      induction i with
      | zero => intro _; unfold posN; simp
      | succ i ih =>
        intro hi
        rw [share_snoc, List.flatten_append, ih (by omega), pos_succ]
        unfold partL
        simp [List.take_add]
    rw [h1 _ (Nat.le_refl _), pos_last _ _ hp, List.take_length]
theorem share_four (l : List Pr) : ∀ p ∈ shareL l 4, 0 < p.length ∧ p.length ≤ 4 := by
  intro p hp
  unfold shareL at hp
  by_cases h0 : l.length = 0
  · rw [if_pos (.inl h0)] at hp; cases hp
  · rw [if_neg (by omega)] at hp
    unfold shareN at hp
    obtain ⟨i, hi, rfl⟩ := List.mem_map.1 hp
    have hi : i < partsN l.length 4 := by simpa using hi
    obtain ⟨n, hn⟩ : ∃ n, n = l.length := ⟨_, rfl⟩
    obtain ⟨q, hq⟩ : ∃ q, q = partsN l.length 4 := ⟨_, rfl⟩
    have hq2 : q = (n - 1) / 4 + 1 := by rw [hq, hn]; rfl
    have hl : (partL l q i).length = sizeN n q i := by
      unfold partL
      have h1 := pos_succ n q i
      have h2 := pos_le n q (i + 1) q (by omega)
      have h3 := pos_last n q (by omega)
      rw [← hn, List.length_take, List.length_drop]
      omega
    show 0 < (partL l (partsN l.length 4) i).length ∧ (partL l (partsN l.length 4) i).length ≤ 4
    rw [← hq, hl]
    unfold sizeN
    have h4 := Nat.div_add_mod n q
    have h5 := Nat.mod_lt n (show 0 < q by omega)
    have h6 : 1 ≤ n / q := by rw [Nat.le_div_iff_mul_le (by omega)]; omega
    have h7 : n / q ≤ 4 := by
      refine Nat.le_of_lt_succ (Nat.div_lt_of_lt_mul ?_)
      omega
    obtain ⟨d, hd⟩ : ∃ d, d = n / q := ⟨_, rfl⟩
    obtain ⟨m, hm⟩ : ∃ m, m = n % q := ⟨_, rfl⟩
    rw [← hd, ← hm] at h4 ⊢
    rw [← hd] at h6 h7
    rcases (show d = 1 ∨ d = 2 ∨ d = 3 ∨ d = 4 by omega) with rfl | rfl | rfl | rfl <;> split <;> omega

end Go.Proofs.Yteddjmkoleclpaa
