/- The walk of share. -/
import Derived.Test.YteddjmkoleclpaaNDS
import Derived.Test.YteddjmkoleclpaaQS
set_option linter.unusedVariables false
set_option linter.unusedSimpArgs false
namespace Go.Proofs.Yteddjmkoleclpaa
open Go.RowKit

/-- Parts, each in a row of its own. -/
def PartsX {α : Type} (T : TypeId) (cs : α → List Value) (k base : Nat) (w : World) (vs : List Value) (ps : List (List α)) : Prop := vs.length = ps.length ∧ ∀ i (h : i < ps.length), ∃ u, vs[i]? = some u ∧ w.ownsRow base T k u ps[i].length (ps[i].flatMap cs)
section
variable {α : Type} {T : TypeId} {cs : α → List Value} {k base : Nat} {w w' : World} {vs : List Value} {ps : List (List α)}
theorem PartsX.on (h : PartsX T cs k base w vs ps) (hb : Below w.heap.size w w') : PartsX T cs k base w' vs ps :=
  ⟨h.1, fun i hi => let ⟨u, h1, h2⟩ := h.2 i hi; ⟨u, h1, own_below h2 hb⟩⟩
theorem PartsX.grown {T2 b2 n : Nat} {v : Value} {xs : List Value} (h : PartsX T cs k base w vs ps) (hr : w.ownsRow b2 T2 1 v n xs) (hT : T ≠ T2) (hg : w.grownBy w' v.ownBlock) : PartsX T cs k base w' vs ps :=
  ⟨h.1, fun i hi => by
    obtain ⟨u, h1, h2⟩ := h.2 i hi
    refine ⟨u, h1, ?_⟩
    obtain ⟨A, c, rfl⟩ := own_shape h2
    refine h2.kept hg ?_
    cases e : Value.ownBlock (.slice A ps[i].length c) with
    | none => exact .inl rfl
    | some g => exact .inr fun e2 => own_apartN h2 hr hT g e e2.symm⟩
theorem PartsX.snoc {u : Value} {p : List α} (h : PartsX T cs k base w vs ps) (hu : w.ownsRow base T k u p.length (p.flatMap cs)) : PartsX T cs k base w (vs ++ [u]) (ps ++ [p]) := by
  refine ⟨by simp [h.1], fun i hi => ?_⟩
  by_cases h2 : i < ps.length
  · obtain ⟨x, h3, h4⟩ := h.2 i h2
    exact ⟨x, by rw [List.getElem?_append_left (by rw [h.1]; exact h2)]; exact h3, by rw [List.getElem_append_left h2]; exact h4⟩
  · have e : i = ps.length := by simp at hi; omega
    subst e
    exact ⟨u, by rw [List.getElem?_append_right (by rw [h.1]; exact Nat.le_refl _), h.1]; simp, by rw [List.getElem_append_right (Nat.le_refl _)]; simpa using hu⟩
end
/-- A slice of slices, all of the call's own. -/
def OwnX {α : Type} (T T2 : TypeId) (cs : α → List Value) (k base : Nat) (w : World) (v : Value) (ps : List (List α)) : Prop := ∃ vs, w.ownsRow base T2 1 v ps.length vs ∧ PartsX T cs k base w vs ps
theorem OwnX.on {α : Type} {T T2 : TypeId} {cs : α → List Value} {k base : Nat} {w w' : World} {v : Value} {ps : List (List α)} (h : OwnX T T2 cs k base w v ps) (hb : Below w.heap.size w w') : OwnX T T2 cs k base w' v ps :=
  let ⟨vs, h1, h2⟩ := h; ⟨vs, own_below h1 hb, h2.on hb⟩
/-- One of them, as it lies. -/
theorem OwnX.at_ {α : Type} {T T2 : TypeId} {cs : α → List Value} {k base : Nat} {w : World} {A : Option Addr} {n c : Nat} {ps : List (List α)} (hk : ∀ x, (cs x).length = k) (h : OwnX T T2 cs k base w (.slice A n c) ps) {i : Nat} (hi : i < ps.length) :
    ∃ (ad : Addr) (s : Sl), A = some ad ∧ ad.block < w.heap.size ∧ base ≤ ad.block ∧ w.cell? (ad.add i) = some (.slice s.a s.n s.c) ∧ SlB cs k w (fun b => base ≤ b ∧ b < w.heap.size) s ps[i] := by
  obtain ⟨vs, h1, h2, h3⟩ := h
  obtain ⟨u, h4, h5⟩ := h3 i hi
  obtain ⟨s, rfl, hs⟩ := sl_own hk h5 rfl
  have hn : n = ps.length := by
    rcases h1.2 with ⟨e, h0⟩ | ⟨g, cap, cur, e, _⟩
    · injection e with _ e; omega
    · injection e
  subst hn
  have e : vs.flatMap (fun u : Value => [u]) = vs := by simp
  rw [← h2] at h1
  obtain ⟨ad, e1, ⟨hb1, hb2⟩, hc⟩ := lies_own (cs := fun u : Value => [u]) (fun _ => rfl) (by rw [e]; exact h1) (by omega)
  obtain ⟨hi2, h6⟩ := List.getElem?_eq_some_iff.1 h4
  have h7 := hc i hi2 0 _ (by rw [h6]; rfl)
  rw [Addr.add_zero', Nat.mul_one] at h7
  exact ⟨ad, s, e1, hb2, hb1, h7, hs⟩

theorem ndl_info : (Try.prog.info? 26).map (fun i => (i.zero, i.size, i.bytes)) = some (some (.slice none 0 0), 1, 24) := by kernel_rfl
/-- One round of share: how many go into the next part. -/
theorem share_step {m L : Nat} (h1 : 1 ≤ L) (h2 : L ≤ m) (h3 : m ≤ 4 * L) : ∃ q, q = (m + L - 1) / L ∧ 1 ≤ q ∧ q ≤ 4 ∧ q ≤ m ∧ L - 1 ≤ m - q ∧ m - q ≤ 4 * (L - 1) := by
  obtain ⟨q, hq⟩ : ∃ q, q = (m + L - 1) / L := ⟨_, rfl⟩
  refine ⟨q, hq, ?_⟩
  have e1 : q * L ≤ m + L - 1 := by rw [hq]; exact Nat.div_mul_le_self _ _
  have e2 : m + L - 1 < (q + 1) * L := by rw [hq, Nat.add_mul, Nat.one_mul]; exact Nat.lt_div_mul_add (by omega)
  have e3 : q < 5 := by
    refine Nat.lt_of_not_le fun h => ?_
    have := Nat.mul_le_mul_right L h
    omega
  rcases (show q = 0 ∨ q = 1 ∨ q = 2 ∨ q = 3 ∨ q = 4 by omega) with rfl | rfl | rfl | rfl | rfl <;> omega

set_option maxHeartbeats 4000000 in
set_option maxRecDepth 100000 in
theorem nshare_any (A : Option Addr) (c : Nat) (rs : List Nr) (w : World) (hA : Nrs w w.heap.size A rs) (hc : rs.length ≤ c) (hz : A = none → c = 0) (hmax : rs.length ≤ 100000) :
    Calls Try.prog 69 #[.slice A rs.length c] w fun e w' => ∃ v pss, e = .returned v ∧ OwnX 30 26 Nr.cells 4 w.heap.size w' v pss ∧ pss.flatten = rs ∧ (∀ p ∈ pss, p ≠ [] ∧ p.length ≤ 4) ∧ pss.length = (rs.length + 3) / 4 ∧ Below w.heap.size w w' := by
  obtain ⟨i0, hi0, hz0, hz1, hz2⟩ := info_parts ndl_info
  obtain ⟨n, hn⟩ : ∃ n, rs.length = n := ⟨_, rfl⟩
  rw [hn] at hc hmax ⊢
  obtain ⟨P, hP⟩ : ∃ P, P = (n + 3) / 4 := ⟨_, rfl⟩
  have wP : ((n + 3 : Nat) : Int) / 4 = (P : Int) := by rw [hP]; rfl
  have wP2 : IntKind.i64.wrap ((n : Int) + 4) = ((n + 4 : Nat) : Int) := by rw [IntKind.wrap_i64]; omega
  have wP3 : IntKind.i64.wrap (((n + 4 : Nat) : Int) - 1) = ((n + 3 : Nat) : Int) := by rw [IntKind.wrap_i64]; omega
  have hPn : P ≤ n ∧ n ≤ 4 * P := by omega
  have HPN := Lib.hid hPn
  have HPE := Lib.hid hP
  have HN := Lib.hid hn
  have HA := Lib.hid hA
  have HZ := Lib.hid hz
  have HC := Lib.hid hc
  have hPb : P ≤ 100000 := by omega
  clear hn hA hz hc hPn hP
  go_enter Try.func69, Try.ntmps69
  go_wp2
  go_loopw [0, 3, 4] (fun v0 v3 v4 wr => ∃ (A1 : Option Addr) (n1 c1 L k : Nat) (l1 : List Nr) (vs : List Value) (pss : List (List Nr)), v0 = .slice A1 n1 c1 ∧ v4 = .int .i64 L ∧ L ≤ 100000 ∧ n1 ≤ 100000 ∧ n1 ≤ c1 ∧ k ≤ 100000 ∧ Hid (L ≤ n1 ∧ n1 ≤ 4 * L ∧ k + L = P ∧ pss.length = k ∧ l1.length = n1 ∧ pss.flatten ++ l1 = rs ∧ ∀ p ∈ pss, p ≠ [] ∧ p.length ≤ 4) ∧ Hid (A1 = none → c1 = 0) ∧ Hid (Nrs wr w.heap.size A1 l1) ∧ Hid (wr.ownsRow w.heap.size 26 1 v3 k vs) ∧ Hid (PartsX 30 Nr.cells 4 w.heap.size wr vs pss) ∧ Below w.heap.size w wr) (fun _ _ v4 _ => (intOf v4).toNat)
  case atStart => exact ⟨A, n, c, P, 0, rs, [], [], rfl, by first | rfl | go_num, hPb, hmax, HC.out, by omega, ⟨HPN.out.1, HPN.out.2, by omega, rfl, HN.out, rfl, fun p hp => by cases hp⟩, HZ, HA, World.ownsRow_nil _ _ _ _, ⟨rfl, fun i h => absurd h (by simp)⟩, Below.refl _ _⟩
  case round =>
    clear HA HZ HC HPN
    obtain ⟨A1, n1, c1, L, k, l1, vs, pss, rfl, rfl, hLb, hnb, hc1, hkb, HF, HZ1, HP1, HOWN, HPS, hbr⟩ := hrel
    have hbs := hbr.size
    by_cases hlt : 0 < L
    · obtain ⟨q, hq, hq1, hq4, hqn, hq5, hq6⟩ := share_step hlt HF.out.1 HF.out.2.1
      have hL0 : ((L : Int) == 0) = false := by simp; omega
      have hgt : decide ((0 : Int) < (L : Int)) = true := by simp; omega
      have wq : ((n1 + L - 1 : Nat) : Int) / (L : Int) = (q : Int) := by rw [hq]; rfl
      have wqi : ((n1 : Int) + (L : Int) - 1) / (L : Int) = (q : Int) := by rw [hq, show (n1 : Int) + (L : Int) - 1 = ((n1 + L - 1 : Nat) : Int) by omega]; rfl
      have wq2 : IntKind.i64.wrap ((n1 : Int) + (L : Int)) = ((n1 + L : Nat) : Int) := by rw [IntKind.wrap_i64]; omega
      have wq3 : IntKind.i64.wrap (((n1 + L : Nat) : Int) - 1) = ((n1 + L - 1 : Nat) : Int) := by rw [IntKind.wrap_i64]; omega
      have hqc : q ≤ c1 := by omega
      have HQ := Lib.hid (And.intro hq1 (And.intro hq4 (And.intro hq5 hq6)))
      have hl1 : l1.length = n1 := HF.out.2.2.2.2.1
      have htl : (l1.take q).length = q := by simp; omega
      have hcl := clone_nd A1 c1 (l1.take q) wr ((HP1.out.take q).more hbs) (by rw [htl]; omega)
      rw [htl] at hcl
      have HTL := Lib.hid htl
      clear hq hq1 hq4 hq5 hq6 hl1 htl
      go_wp2_with fail
      refine hcl.mono ?_
      clear hcl
      rintro e w4 ⟨u, rfl, hownu, hb4⟩
      have hbw4 := hbr.trans (hb4.mono hbs)
      have HP4 := Lib.hid (HP1.out.below (hb4.mono hbs))
      have hown4 := own_below HOWN.out hb4
      have HPS4 := Lib.hid (HPS.out.on hb4)
      have HU4 := Lib.hid (own_baseN hownu hbs)
      obtain ⟨Au, cu, rfl⟩ := own_shape hownu
      have hbs4 := hbw4.size
      clear hb4 hownu HP1 HOWN HPS
      go_wp2_with (at_builtin; refine wpList_append_own _ rfl _ _ 106 rfl w.heap.size 26 i0 (.slice none 0 0) 1 24 Try.underlying106 hi0 hz0 hz1 hz2 rfl (by decide) _ _ _ rfl (hown4.alloc _) ⟨w4.heap.size, 0, none⟩ 1 1 [.slice Au q cu] rfl rfl ?a1 ?a2 ?a3 ?a4 ?a5 ?_)
      case a1 =>
        intro j x hj
        match j, hj with
        | 0, hj => simp at hj; subst hj; simp [Addr.add]
      case a2 => intro x hx; simp at hx; subst hx; rfl
      case a3 => unfold maxLen; omega
      case a4 => omega
      case a5 => simp; omega
      intro v' w5 hown5 hg5 _
      have hk5 : ∀ k, Value.ownBlock _ = some k → w.heap.size ≤ k := fun k hk => (hown4.lt k hk).1
      have hb5 : Below w.heap.size w w5 := (hbw4.alloc hbs4 _).grown hg5 (by simp; omega) hk5
      have HP5 := Lib.hid (HP4.out.keep fun p hp => (hb5.cell hp).trans (hbw4.cell hp).symm)
      have hps4 : PartsX 30 Nr.cells 4 w.heap.size (w4.alloc (.cells #[.slice Au q cu] 26)) (vs ++ [.slice Au q cu]) (pss ++ [l1.take q]) := by
        refine (HPS4.out.snoc ?_).on ((Below.refl _ w4).alloc (Nat.le_refl _) _)
        rw [HTL.out]; exact HU4.out
      have HPS5 := Lib.hid (hps4.grown (hown4.alloc _) (by decide) hg5)
      have HO5 := Lib.hid hown5
      have hkP : k + 1 ≤ 100000 := by have := HF.out; omega
      have HF5 := Lib.hid (show L - 1 ≤ n1 - q ∧ n1 - q ≤ 4 * (L - 1) ∧ k + 1 + (L - 1) = P ∧ (pss ++ [l1.take q]).length = k + 1 ∧ (l1.drop q).length = n1 - q ∧ (pss ++ [l1.take q]).flatten ++ l1.drop q = rs ∧ ∀ p ∈ pss ++ [l1.take q], p ≠ [] ∧ p.length ≤ 4 from by
        obtain ⟨f1, f2, f3, f4, f5, f6, f7⟩ := HF.out
        obtain ⟨g1, g2, g3, g4⟩ := HQ.out
        refine ⟨g3, g4, by omega, by simp [f4], by simp [f5], ?_, fun p hp => ?_⟩
        · rw [List.flatten_append]
          simp only [List.flatten_cons, List.flatten_nil, List.append_nil]
          rw [List.append_assoc, List.take_append_drop]; exact f6
        · rcases List.mem_append.1 hp with hp | hp
          · exact f7 p hp
          · simp at hp
            subst hp
            have := HTL.out
            exact ⟨fun e => by rw [e] at this; simp at this; omega, by omega⟩)
      have wL : IntKind.i64.wrap ((L : Int) - 1) = ((L - 1 : Nat) : Int) := by rw [IntKind.wrap_i64]; omega
      clear hown4 hown5 hg5 hk5 hps4 HP4 HPS4 HU4 wq wq2 wq3 HF HTL
      rcases A1 with _ | ad
      · have hcz : c1 = 0 := HZ1.out rfl
        have hbad : False := by have := HQ.out; omega
        exact hbad.elim
      · by_cases hck : c1 = q
        · have hck2 : c1 - q = 0 := by omega
          have HE6 := Lib.hid (show n1 - q ≤ 0 ∧ l1.drop q = [] from ⟨by omega, List.drop_eq_nil_of_le (by have h := HF5.out.2.2.2.2.1; simp at h; omega)⟩)
          go_wp2
          go_roundw
          case rel => exact ⟨some ad, n1 - q, 0, L - 1, k + 1, l1.drop q, _, _, by first | rfl | trivial, by first | rfl | go_num, by omega, by omega, HE6.out.1, hkP, HF5, fun h => (by cases h), Lies.empty HE6.out.2, HO5, HPS5, hb5⟩
          case measure => simp [intOf]; omega
        · have hck2 : ¬ c1 - q = 0 := by omega
          have HE6 := Lib.hid (show n1 - q ≤ c1 - q from by omega)
          go_wp2
          go_roundw
          case rel => exact ⟨some (ad.add (q * 4)), n1 - q, c1 - q, L - 1, k + 1, l1.drop q, _, _, by first | rfl | trivial, by first | rfl | go_num, by omega, by omega, HE6.out, hkP, HF5, fun h => (by cases h), HP5.out.drop q, HO5, HPS5, hb5⟩
          case measure => simp [intOf]; omega
    · have hL2 : L = 0 := by omega
      have HL0 := Lib.hid hL2
      have hgt : decide ((0 : Int) < (L : Int)) = false := by simp; omega
      clear hL2
      go_wp2
      go_ret
      obtain ⟨f1, f2, f3, f4, f5, f6, f7⟩ := HF.out
      have h0 := HL0.out
      have hl0 : l1 = [] := List.length_eq_zero_iff.1 (by omega)
      refine ⟨_, pss, rfl, ⟨vs, by rw [f4]; exact HOWN.out, HPS.out⟩, by rw [hl0, List.append_nil] at f6; exact f6, f7, by rw [← HPE.out]; omega, hbr⟩

end Go.Proofs.Yteddjmkoleclpaa
