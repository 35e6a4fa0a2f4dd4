/- One note, done, gone through pair by pair: plain facts; two rows of the call's own that grow side by side. -/
import Derived.Test.YtnlmdgbkfoofoaaApp
import Derived.Maps.AppendAt
import Derived.Test.YtnlmdgbkfoofoaaPh
set_option linter.unusedVariables false
set_option linter.unusedSimpArgs false
namespace Go.Proofs.Ytnlmdgbkfoofoaa
open Go.RowKit

def lowF (l : List Pr) (key : ByteArray) : List Pr := l.filter fun p => decide (p.k < key)
def highF (l : List Pr) (key : ByteArray) : List Pr := l.filter fun p => decide (key < p.k)
theorem step_lt {l : List Pr} {k : Nat} (hk : k < l.length) {key : ByteArray} (h : l[k].k < key) :
    lowF (l.take (k + 1)) key = lowF (l.take k) key ++ [l[k]] ∧ highF (l.take (k + 1)) key = highF (l.take k) key ∧ getL (l.take (k + 1)) key = getL (l.take k) key := by
  rw [List.take_succ_eq_append_getElem hk]
  have h1 : ¬ key < l[k].k := by grind
  have h2 : l[k].k ≠ key := by grind
  refine ⟨?_, ?_, ?_⟩
  · unfold lowF; rw [List.filter_append]; simp [h]
  · unfold highF; rw [List.filter_append]; simp [h1]
  · rw [getL_append, getL_cons, if_neg h2, getL_nil]; simp
theorem step_gt {l : List Pr} {k : Nat} (hk : k < l.length) {key : ByteArray} (h : key < l[k].k) :
    lowF (l.take (k + 1)) key = lowF (l.take k) key ∧ highF (l.take (k + 1)) key = highF (l.take k) key ++ [l[k]] ∧ getL (l.take (k + 1)) key = getL (l.take k) key := by
  rw [List.take_succ_eq_append_getElem hk]
  have h1 : ¬ l[k].k < key := by grind
  have h2 : l[k].k ≠ key := by grind
  refine ⟨?_, ?_, ?_⟩
  · unfold lowF; rw [List.filter_append]; simp [h1]
  · unfold highF; rw [List.filter_append]; simp [h]
  · rw [getL_append, getL_cons, if_neg h2, getL_nil]; simp
theorem step_eq {l : List Pr} (hs : Sorted l) {k : Nat} (hk : k < l.length) {key : ByteArray} (h : l[k].k = key) :
    lowF (l.take (k + 1)) key = lowF (l.take k) key ∧ highF (l.take (k + 1)) key = highF (l.take k) key ∧ getL (l.take (k + 1)) key = some l[k].v := by
  rw [List.take_succ_eq_append_getElem hk]
  have h1 : ¬ l[k].k < key := by rw [h]; grind
  have h2 : ¬ key < l[k].k := by rw [h]; grind
  have h3 : getL (l.take k) key = none := getL_none fun p hp e => by
    obtain ⟨i, hi, rfl⟩ := List.getElem_of_mem hp
    simp at hi
    have := sorted_get.1 hs i k (by omega) hk (by omega)
    rw [List.getElem_take] at e
    rw [e, h] at this
    grind
  refine ⟨?_, ?_, ?_⟩
  · unfold lowF; rw [List.filter_append]; simp [h1]
  · unfold highF; rw [List.filter_append]; simp [h2]
  · rw [getL_append, h3, getL_cons, if_pos h]; rfl
theorem low_len (l : List Pr) (k : Nat) (key : ByteArray) : (lowF (l.take k) key).length ≤ k ∧ (highF (l.take k) key).length ≤ k := by
  have h1 := List.length_filter_le (fun p : Pr => decide (p.k < key)) (l.take k)
  have h2 := List.length_filter_le (fun p : Pr => decide (key < p.k)) (l.take k)
  have h3 : (l.take k).length ≤ k := by simp; omega
  unfold lowF highF
  exact ⟨by omega, by omega⟩
theorem one_all (l : List Pr) (n : Nt) : lowF l n.key ++ pairOf n.key (stepsO (getL l n.key) [n]) ++ highF l n.key = oneL l n := rfl

theorem gtr_true {x k : ByteArray} (h : (!Op.bytesLess x.toList k.toList && !x.toList == k.toList) = true) : k < x := by
  rw [Bool.and_eq_true, Bool.not_eq_true', Bool.not_eq_true'] at h
  have h1 : ¬ x < k := fun h2 => by
    have h4 : ltS x k = true := lt_iff.1 h2
    have h5 : ltS x k = false := h.1
    rw [h5] at h4; cases h4
  have h2 : x ≠ k := fun e => by have h3 := h.2; rw [e] at h3; simp at h3
  grind
theorem gtr_false {x k : ByteArray} (h : (!Op.bytesLess x.toList k.toList && !x.toList == k.toList) = false) : ¬ k < x := by
  intro h1
  have h2 : Op.bytesLess x.toList k.toList = false := by
    have h3 : ¬ x < k := by grind
    have h4 : ltS x k = false := by rw [ltS_eq]; exact decide_eq_false h3
    exact h4
  have h3 : x ≠ k := by grind
  rw [h2, str_ne h3] at h
  cases h

/-- Two rows of the call's own that lie in unlike blocks. -/
def Apart2 (a b : Value) : Prop := b.ownBlock = none ∨ b.ownBlock ≠ a.ownBlock
theorem Apart2.symm {a b : Value} (h : Apart2 a b) : Apart2 b a := by
  unfold Apart2 at *
  cases ha : a.ownBlock with
  | none => exact .inl rfl
  | some g =>
    right
    rcases h with h | h
    · rw [h]; simp
    · rw [ha] at h; exact fun e => h e.symm
theorem own_lt {w : World} {base e k n : Nat} {b : Value} {xs : List Value} (h : w.ownsRow base e k b n xs) {g : Nat} (hg : b.ownBlock = some g) : base ≤ g ∧ g < w.heap.size := by
  obtain ⟨A, c, rfl⟩ := own_shape h
  exact h.lt g hg
theorem Apart2.grow {w : World} {base e k n : Nat} {a a' b : Value} {xs : List Value} (h : Apart2 a b) (hb : w.ownsRow base e k b n xs) (hat : a'.ownBlock = a.ownBlock ∨ a'.ownBlock = some w.heap.size) : Apart2 a' b := by
  unfold Apart2 at *
  rcases hat with e | e
  · rw [e]; exact h
  · cases hbb : b.ownBlock with
    | none => exact .inl rfl
    | some g =>
      right
      have := own_lt hb hbb
      rw [e]
      intro h
      injection h with h
      omega
/-- A row of the call's own, behind what grew another one. -/
theorem own_grown {w w' : World} {base n k : Nat} {e : TypeId} {a b : Value} {xs : List Value} (hb : w.ownsRow base e k b n xs) (hg : w.grownBy w' a.ownBlock) (hap : Apart2 a b) : w'.ownsRow base e k b n xs := by
  obtain ⟨A, c, rfl⟩ := own_shape hb
  refine hb.kept hg ?_
  unfold Apart2 at hap
  exact hap

/-- 'append(v, x)', v a row of pairs of the call's own, x a pair that lies in a literal. -/
theorem append_pair (w : World) {ops : Array Oper} {rest : List Oper} {o : Oper} {a : Act} {Q : Exit → Act → World → Prop} (hgd : o.guard = none) (s x : Operand)
    (ho : o.op = .call { callee := .builtin .append, args := #[s, x], argTypes := #[22, 22] })
    (base : Nat) (v : Value) (n : Nat) (xs : List Value) (hs : a.eval s = v) (hown : w.ownsRow base 61 2 v n xs)
    (B g : Nat) (y : Pr) (hx : a.eval x = .slice (some ⟨g, 0, none⟩) 1 1) (hr : Prs w B (some ⟨g, 0, none⟩) [y]) (hn : n ≤ 100000) (hbase : base ≤ w.heap.size)
    (h : ∀ v' w', w'.ownsRow base 61 2 v' (n + 1) (xs ++ y.cells) → w.grownBy w' v.ownBlock → (v'.ownBlock = v.ownBlock ∨ v'.ownBlock = some w.heap.size) → wpList Try.prog ops Q rest (a.put o.dst v') w') : wpList Try.prog ops Q (o :: rest) a w := by
  obtain ⟨i0, hi0, hz0, hz1, hz2⟩ := info_parts pair_info
  exact wpList_append_own_at w hgd s x 22 ho base 61 i0 (.agg #[.string ⟨#[]⟩, .string ⟨#[]⟩]) 2 32 Try.underlying22 hi0 hz0 hz1 hz2 rfl (by decide) v n xs hs hown ⟨g, 0, none⟩ 1 1 y.cells hx rfl
    (fun j u hu => prs_cells hr j u (by simpa using hu)) (fun u hu => prs_plain [y] u (by simpa using hu)) (by unfold maxLen; omega) (by omega) hbase (fun v' w' h1 h2 _ h4 => h v' w' h1 h2 h4)
theorem prs_one (w : World) (x : Pr) {g : Nat} (hg : g = w.heap.size) : Prs (w.alloc (.cells #[.string x.k, .string x.v] 61)) (w.heap.size + 1) (some ⟨g, 0, none⟩) [x] := by
  subst hg
  exact Lies.lit Pr.cells2 rfl

end Go.Proofs.Ytnlmdgbkfoofoaa

namespace Go.Proofs.Ytnlmdgbkfoofoaa
open Go.RowKit

set_option maxHeartbeats 2000000 in
set_option maxRecDepth 100000 in
theorem apply_own (A : Option Addr) (c : Nat) (l : List Pr) (B : Option Addr) (d : Nat) (ns : List Nt) (w : World) (hA : Prs w w.heap.size A l) (hB : Nts w w.heap.size B ns) (hc : l.length ≤ c) (hz : A = none → c = 0) (hmax : l.length + ns.length ≤ 1000000) :
    Calls Try.prog 24 #[.slice A l.length c, .slice B ns.length d] w fun e w' => ∃ v, e = .returned (.tuple #[v, .int .i64 (applyE l ns)]) ∧ w'.ownsRow w.heap.size 61 2 v (applyL l ns).length ((applyL l ns).flatMap Pr.cells) ∧ Below w.heap.size w w' := by
  have hr := right_pr A c l w hA (by unfold maxLen; omega)
  have hcl := fun wx (h : Prs wx wx.heap.size A l) => clone_pr A c l wx h (by omega)
  have HA := Lib.hid hA
  have HB := Lib.hid hB
  cases hw : wellL l with
  | false =>
    have e1 : applyL l ns = l ∧ applyE l ns = 1 := by unfold applyL applyE; rw [hw]; exact ⟨rfl, rfl⟩
    rw [e1.1, e1.2]
    rw [hw] at hr
    have HCL := Lib.hid hcl
    clear hA hB hw e1 hcl hz hc
    obtain ⟨n1, hn1⟩ : ∃ n1, l.length = n1 := ⟨_, rfl⟩
    rw [hn1] at hr HCL ⊢
    have HN := Lib.hid hn1
    clear hn1
    go_enter Try.func24, Try.ntmps24
    go_wp2_with fail
    refine hr.mono ?_
    clear hr
    rintro e w1 ⟨rfl, hb1⟩
    have hc1 := HCL.out w1 (HA.out.on hb1)
    go_wp2_with fail
    refine hc1.mono ?_
    clear hc1
    rintro e w2 ⟨v, rfl, hown, hb2⟩
    have HO := Lib.hid hown
    clear hown
    go_wp2
    go_ret2
    have ho := HO.out
    have := hb1.size
    exact ⟨v, rfl, own_more ho (by omega), hb1.trans (hb2.mono hb1.size)⟩
  | true =>
    rw [hw] at hr
    have han := fun wx (h : Nts wx wx.heap.size B ns) => allnotes_any B d ns wx h (by unfold maxLen; omega)
    cases ha : ns.all rightN with
    | false =>
      have e1 : applyL l ns = l ∧ applyE l ns = 1 := by unfold applyL applyE; rw [hw, ha]; exact ⟨rfl, rfl⟩
      rw [e1.1, e1.2]
      rw [ha] at han
      have HCL := Lib.hid hcl
      have HAN := Lib.hid han
      clear hA hB hw e1 hcl ha han hz hc
      obtain ⟨n1, hn1⟩ : ∃ n1, l.length = n1 := ⟨_, rfl⟩
      obtain ⟨n2, hn2⟩ : ∃ n2, ns.length = n2 := ⟨_, rfl⟩
      rw [hn1] at hr HCL ⊢
      rw [hn2] at HAN ⊢
      have HN := Lib.hid hn1
      clear hn1 hn2
      go_enter Try.func24, Try.ntmps24
      go_wp2_with fail
      refine hr.mono ?_
      clear hr
      rintro e w1 ⟨rfl, hb1⟩
      have hc1 := HAN.out w1 (HB.out.on hb1)
      go_wp2_with fail
      refine hc1.mono ?_
      clear hc1
      rintro e w2 ⟨rfl, hb2⟩
      have hb12 := hb1.trans (hb2.mono hb1.size)
      have hc2 := HCL.out w2 (HA.out.on hb12)
      clear hb1 hb2
      go_wp2_with fail
      refine hc2.mono ?_
      clear hc2
      rintro e w3 ⟨v, rfl, hown, hb3⟩
      have HO := Lib.hid hown
      clear hown
      go_wp2
      go_ret2
      have ho := HO.out
      have := hb12.size
      exact ⟨v, rfl, own_more ho (by omega), hb12.trans (hb3.mono hb12.size)⟩
    | true =>
      have e1 : applyL l ns = foldOne l ns ∧ applyE l ns = 0 := by unfold applyL applyE; rw [hw, ha]; exact ⟨rfl, rfl⟩
      rw [e1.1, e1.2]
      rw [ha] at han
      have hbk := fun wx (h : Nts wx wx.heap.size B ns) => bykey_any B d ns wx h (by omega)
      have hmg := fun (B' : Option Addr) (d' : Nat) (s : List Nt) wx (h1 : Prs wx wx.heap.size A l) (h2 : Nts wx wx.heap.size B' s) (h3 : s.length ≤ d') (h4 : s.length = ns.length) (h5 : Rising s) => merged_any A c l B' d' s wx h1 h2 hc h3 hz (by omega) (well_sorted hw) h5
      have HST := Lib.hid (show ∀ s, StEq s ns → foldOne l s = foldOne l ns from fun s h => fold_steq (well_sorted hw) h)
      have HAN := Lib.hid han
      have HBK := Lib.hid hbk
      have HMG := Lib.hid hmg
      clear hA hB hw e1 hcl ha han hbk hmg hz hc
      obtain ⟨n1, hn1⟩ : ∃ n1, l.length = n1 := ⟨_, rfl⟩
      obtain ⟨n2, hn2⟩ : ∃ n2, ns.length = n2 := ⟨_, rfl⟩
      rw [hn1] at hr HMG ⊢
      rw [hn2] at HAN HBK HMG ⊢
      clear hn1 hn2
      go_enter Try.func24, Try.ntmps24
      go_wp2_with fail
      refine hr.mono ?_
      clear hr
      rintro e w1 ⟨rfl, hb1⟩
      have hc1 := HAN.out w1 (HB.out.on hb1)
      go_wp2_with fail
      refine hc1.mono ?_
      clear hc1
      rintro e w2 ⟨rfl, hb2⟩
      have hb12 := hb1.trans (hb2.mono hb1.size)
      have hc2 := HBK.out w2 (HB.out.on hb12)
      clear hb1 hb2
      go_wp2_with fail
      refine hc2.mono ?_
      clear hc2
      rintro e w3 ⟨B', d', s, rfl, hsl, hsr, hst, hsn, hsc, hb3⟩
      have hb13 := hb12.trans (hb3.mono hb12.size)
      have hc3 := HMG.out B' d' s w3 (HA.out.on hb13) hsn hsc hsl hsr
      rw [HST.out s hst] at hc3
      clear hb3 hb12 hsl hsr hst hsn hsc
      obtain ⟨n3, hn3⟩ : ∃ n3, s.length = n3 := ⟨_, rfl⟩
      rw [hn3] at hc3 ⊢
      clear hn3
      go_wp2_with fail
      refine hc3.mono ?_
      clear hc3
      rintro e w4 ⟨v, rfl, hown, hb4⟩
      have HO := Lib.hid hown
      clear hown
      go_wp2
      go_ret2
      have ho := HO.out
      have := hb13.size
      exact ⟨v, rfl, own_more ho (by omega), hb13.trans (hb4.mono hb13.size)⟩

theorem apply_o {v u : Value} {l : List Pr} {ns : List Nt} {w : World} (h : PV w v l) (g : NV w u ns) (hmax : l.length + ns.length ≤ 1000000) :
    Calls Try.prog 24 #[v, u] w fun e w' => ∃ v', e = .returned (.tuple #[v', .int .i64 (applyE l ns)]) ∧ w'.ownsRow w.heap.size 61 2 v' (applyL l ns).length ((applyL l ns).flatMap Pr.cells) ∧ Below w.heap.size w w' := by
  obtain ⟨A, c, rfl, h1, h2, h3⟩ := h
  obtain ⟨B, d, rfl, g1, g2, g3⟩ := g
  exact apply_own A c l B d ns w h1 g1 h2 h3 hmax

theorem own_unlike {w : World} {b b' n n' k k' : Nat} {T U : TypeId} {v u : Value} {xs ys : List Value} (h : w.ownsRow b T k v n xs) (g : w.ownsRow b' U k' u n' ys) (hTU : T ≠ U) : Apart2 v u := by
  rcases g.2 with ⟨rfl, _⟩ | ⟨q, cap, cur, rfl, _, h1, _⟩
  · exact .inl rfl
  · right
    intro e
    rcases h.2 with ⟨rfl, _⟩ | ⟨q', cap', cur', rfl, _, h2, _⟩
    · simp [Value.ownBlock] at e
    · have e1 : q = q' := by simpa [Value.ownBlock] using e
      subst e1
      rw [h1] at h2
      injection h2 with h2
      injection h2 with _ h2 _
      exact hTU h2.symm
/-- Pairs that lie below B, or in a row of their own. -/
structure PX (B : Nat) (w : World) (v : Value) (P : List Pr) : Prop where
  le : B ≤ w.heap.size
  lies : (∃ A c, v = .slice A P.length c ∧ Prs w B A P ∧ P.length ≤ c ∧ (A = none → c = 0)) ∨ w.ownsRow 0 61 2 v P.length (P.flatMap Pr.cells)
theorem PX.pv {B : Nat} {w : World} {v : Value} {P : List Pr} (h : PX B w v P) : PV w v P := by
  rcases h.lies with ⟨A, c, e, h1, h2⟩ | h1
  · exact ⟨A, c, e, h1.more h.le, h2⟩
  · exact PV.own h1 rfl
theorem PX.on {B : Nat} {w w' : World} {v : Value} {P : List Pr} (h : PX B w v P) (hb : Below w.heap.size w w') : PX B w' v P := by
  refine ⟨Nat.le_trans h.le hb.size, ?_⟩
  rcases h.lies with ⟨A, c, e, h1, h2⟩ | h1
  · exact .inl ⟨A, c, e, h1.below (hb.mono h.le), h2⟩
  · exact .inr (own_on h1 hb)
theorem PX.of {w : World} {v : Value} {P : List Pr} (h : PV w v P) : PX w.heap.size w v P := ⟨Nat.le_refl _, .inl h⟩
theorem PX.row {B b : Nat} {w : World} {v : Value} {P : List Pr} (hB : B ≤ w.heap.size) (h : w.ownsRow b 61 2 v P.length (P.flatMap Pr.cells)) : PX B w v P := ⟨hB, .inr (own_more h (Nat.zero_le _))⟩
theorem PX.grown {B n : Nat} {w w' : World} {v u : Value} {P : List Pr} {xs : List Value} (h : PX B w v P) (ho : w.ownsRow B 49 6 u n xs) (hg : w.grownBy w' u.ownBlock) : PX B w' v P := by
  refine ⟨Nat.le_trans h.le hg.size, ?_⟩
  rcases h.lies with ⟨A, c, e, h1, h2⟩ | h1
  · refine .inl ⟨A, c, e, h1.keep fun p hp => ?_, h2⟩
    have := hg.block p.block (Nat.lt_of_lt_of_le hp h.le) (fun e => by have := (own_lt ho e.symm).1; omega)
    unfold World.cell?
    rw [this]
  · exact .inr (own_grown h1 hg (own_unlike h1 ho (by decide)).symm)

end Go.Proofs.Ytnlmdgbkfoofoaa
