/- The walk of Split: layer 11's, that tells of the rows, too. -/
import Derived.Test.YteddjmkoleclpaaQA
import Derived.Test.YteddjmkoleclpaaPF2
import Derived.OwnWalk
set_option linter.unusedVariables false
set_option linter.unusedSimpArgs false
namespace Go.Proofs.Yteddjmkoleclpaa
open Go.RowKit

theorem Lies.drop00 {α : Type} {cs : α → List Value} {k : Nat} {w : World} {B : Nat} {A : Option Addr} {l : List α} (h : Lies cs k w B A l) : Lies cs k w B A (l.drop 0) := by rw [List.drop_zero]; exact h
theorem ntl_info : (Try.prog.info? 27).map (fun i => (i.zero, i.size, i.bytes)) = some (some (.slice none 0 0), 1, 24) := by kernel_rfl
theorem own_baseN {w : World} {base base' n k : Nat} {e : TypeId} {v : Value} {xs : List Value} (h : w.ownsRow base e k v n xs) (hb : base' ≤ base) : w.ownsRow base' e k v n xs :=
  ⟨h.1, h.2.imp id fun ⟨g, cap, cur, h1, h2, r⟩ => ⟨g, cap, cur, h1, Nat.le_trans hb h2, r⟩⟩
/-- Rows of unlike types lie apart. -/
theorem own_apartN {w : World} {b1 b2 n1 n2 k1 k2 : Nat} {e1 e2 : TypeId} {v1 v2 : Value} {xs ys : List Value} (h1 : w.ownsRow b1 e1 k1 v1 n1 xs) (h2 : w.ownsRow b2 e2 k2 v2 n2 ys) (he : e1 ≠ e2) : ∀ g, v1.ownBlock = some g → v2.ownBlock ≠ some g := by
  intro g hg hg2
  rcases h1.2 with ⟨hv, _⟩ | ⟨g1, cap, cur, hv, _, hh, _⟩
  · rw [hv] at hg; simp [Value.ownBlock] at hg
  · rcases h2.2 with ⟨hv2, _⟩ | ⟨g2, cap2, cur2, hv2, _, hh2, _⟩
    · rw [hv2] at hg2; simp [Value.ownBlock] at hg2
    · rw [hv] at hg
      rw [hv2] at hg2
      simp [Value.ownBlock] at hg hg2
      subst hg hg2
      rw [hh] at hh2
      injection hh2 with hh2
      injection hh2 with _ hh2 _
      exact he hh2
/-- The parts, each in a row of its own. -/
def PartsN (base : Nat) (w : World) (vs : List Value) (ps : List (List Nt)) : Prop := vs.length = ps.length ∧ ∀ i (h : i < ps.length), ∃ u, vs[i]? = some u ∧ w.ownsRow base 52 4 u ps[i].length (ps[i].flatMap Nt.cells)
theorem PartsN.on {base : Nat} {w w' : World} {vs : List Value} {ps : List (List Nt)} (h : PartsN base w vs ps) (hb : Below w.heap.size w w') : PartsN base w' vs ps :=
  ⟨h.1, fun i hi => let ⟨u, h1, h2⟩ := h.2 i hi; ⟨u, h1, own_below h2 hb⟩⟩
theorem PartsN.grown {base b2 n : Nat} {w w' : World} {vs : List Value} {ps : List (List Nt)} {v : Value} {xs : List Value} (h : PartsN base w vs ps) (hr : w.ownsRow b2 27 1 v n xs) (hg : w.grownBy w' v.ownBlock) : PartsN base w' vs ps :=
  ⟨h.1, fun i hi => by
    obtain ⟨u, h1, h2⟩ := h.2 i hi
    refine ⟨u, h1, ?_⟩
    obtain ⟨A, c, rfl⟩ := own_shape h2
    refine h2.kept hg ?_
    cases e : Value.ownBlock (.slice A ps[i].length c) with
    | none => exact .inl rfl
    | some g => exact .inr fun e2 => own_apartN h2 hr (by decide) g e e2.symm⟩
theorem PartsN.snoc {base : Nat} {w : World} {vs : List Value} {ps : List (List Nt)} {u : Value} {p : List Nt} (h : PartsN base w vs ps) (hu : w.ownsRow base 52 4 u p.length (p.flatMap Nt.cells)) : PartsN base w (vs ++ [u]) (ps ++ [p]) := by
  refine ⟨by simp [h.1], fun i hi => ?_⟩
  by_cases h2 : i < ps.length
  · obtain ⟨x, h3, h4⟩ := h.2 i h2
    exact ⟨x, by rw [List.getElem?_append_left (by rw [h.1]; exact h2)]; exact h3, by rw [List.getElem_append_left h2]; exact h4⟩
  · have e : i = ps.length := by simp at hi; omega
    subst e
    exact ⟨u, by rw [List.getElem?_append_right (by rw [h.1]; exact Nat.le_refl _), h.1]; simp, by rw [List.getElem_append_right (Nat.le_refl _)]; simpa using hu⟩

set_option maxHeartbeats 4000000 in
set_option maxRecDepth 100000 in
theorem psplit_own (A : Option Addr) (c : Nat) (l : List Nt) (S : Option Addr) (cs : Nat) (lows : List ByteArray) (w : World) (hA : Nts w w.heap.size A l) (hc : l.length ≤ c) (hz : A = none → c = 0) (hS : Strs w w.heap.size S lows) (hmax : l.length ≤ 1000000) (hmm : lows.length ≤ 1000000) :
    Calls Try.prog 59 #[.slice A l.length c, .slice S lows.length cs] w fun e w' => ∃ v, e = .returned v ∧ (∃ vs, w'.ownsRow w.heap.size 27 1 v (splitA l lows).length vs ∧ PartsN w.heap.size w' vs (splitA l lows)) ∧ Below w.heap.size w w' := by
  have hr := fun wx (h : Nts wx wx.heap.size A l) => pright_any A c l wx h (by unfold maxLen; omega)
  have hri := fun wx (h : Strs wx wx.heap.size S lows) => prise_any S cs lows wx h hmm
  cases hwl : wellN l with
  | false =>
    have e1 : splitA l lows = [] := by unfold splitA; rw [hwl]; rfl
    rw [e1]
    have hr2 := hr w hA
    rw [hwl] at hr2
    clear hr hri hA hS hwl e1
    obtain ⟨n, hn⟩ : ∃ n, l.length = n := ⟨_, rfl⟩
    obtain ⟨m, hm⟩ : ∃ m, lows.length = m := ⟨_, rfl⟩
    rw [hn] at hr2 hmax ⊢
    rw [hm] at hmm ⊢
    clear hn hm
    go_enter Try.func59, Try.ntmps59
    go_wp2_with fail
    refine hr2.mono ?_
    clear hr2
    rintro e w2 ⟨rfl, hb2⟩
    go_wp2
    go_ret
    exact ⟨_, rfl, ⟨[], World.ownsRow_nil _ _ _ _, rfl, fun i h => absurd h (by simp)⟩, hb2⟩
  | true =>
  cases hwr : risesS lows with
  | false =>
    have e1 : splitA l lows = [] := by unfold splitA; rw [hwl, hwr]; rfl
    rw [e1]
    have hr2 := hr w hA
    rw [hwl] at hr2
    rw [hwr] at hri
    have HRI := Lib.hid hri
    have HS := Lib.hid hS
    clear hr hri hA hS hwl hwr e1
    obtain ⟨n, hn⟩ : ∃ n, l.length = n := ⟨_, rfl⟩
    obtain ⟨m, hm⟩ : ∃ m, lows.length = m := ⟨_, rfl⟩
    rw [hn] at hr2 hmax ⊢
    rw [hm] at HRI hmm ⊢
    clear hn hm
    go_enter Try.func59, Try.ntmps59
    go_wp2_with fail
    refine hr2.mono ?_
    clear hr2
    rintro e w2 ⟨rfl, hb2⟩
    have hc2 := HRI.out w2 (HS.out.on hb2)
    go_wp2_with fail
    refine hc2.mono ?_
    clear hc2
    rintro e w3 ⟨rfl, hb3⟩
    have hb4 := hb2.trans (hb3.mono hb2.size)
    clear hb2 hb3
    go_wp2
    go_ret
    exact ⟨_, rfl, ⟨[], World.ownsRow_nil _ _ _ _, rfl, fun i h => absurd h (by simp)⟩, hb4⟩
  | true =>
  have hsl := wellN_sorted hwl
  have e1 : splitA l lows = (List.range lows.length).map (partS l lows) := by unfold splitA; rw [hwl, hwr]; exact split_isS hsl hwr
  rw [e1]
  have hr2 := hr w hA
  rw [hwl] at hr2
  rw [hwr] at hri
  have HRI := Lib.hid hri
  have HS := Lib.hid hS
  have HSL := Lib.hid hsl
  obtain ⟨i0, hi0, hz0, hz1, hz2⟩ := info_parts ntl_info
  clear hr hri hS hwl hwr e1 hsl
  obtain ⟨n, hn⟩ : ∃ n, l.length = n := ⟨_, rfl⟩
  obtain ⟨p, hp⟩ : ∃ p, lows.length = p := ⟨_, rfl⟩
  have HE := Lib.hid (show (List.range p).map (partS l lows) = (List.range lows.length).map (partS l lows) by rw [hp])
  rw [← HE.out]
  rw [hn] at hr2 hc hmax ⊢
  rw [hp] at HRI hmm ⊢
  have HN := Lib.hid hn
  have HP := Lib.hid hp
  have HA := Lib.hid hA
  have HZ := Lib.hid hz
  have HC := Lib.hid hc
  clear hn hp hA hz hc HE
  go_enter Try.func59, Try.ntmps59
  go_wp2_with fail
  refine hr2.mono ?_
  clear hr2
  rintro e w2 ⟨rfl, hb2⟩
  have hc2 := HRI.out w2 (HS.out.on hb2)
  go_wp2_with fail
  refine hc2.mono ?_
  clear hc2
  rintro e w2b ⟨rfl, hb2b⟩
  have hb0 := hb2.trans (hb2b.mono hb2.size)
  have hbs0 := hb0.size
  clear hb2 hb2b
  go_wp2_with (at_make; refine wpList_make_own _ rfl _ _ 22 rfl w.heap.size 27 i0 (.slice none 0 0) 1 Try.underlying22 hi0 hz0 hz1 .i64 .i64 _ p rfl rfl rfl (by rw [hz2]; omega) (by unfold maxLen; omega) hbs0 ?_)
  intro w3 hown3 hg3
  have hb3 : Below w.heap.size w w3 := hb0.grown hg3 hbs0 (by intro k hk; cases hk)
  have HO3 := Lib.hid hown3
  clear hown3 hg3 hb0 hbs0
  go_wp2
  go_loopw [0, 5, 21] (fun v0 v8 vi wr => ∃ (A1 : Option Addr) (n1 c1 : Nat) (i : Nat) (vs : List Value), v0 = .slice A1 n1 c1 ∧ vi = .int .i64 i ∧ i ≤ p ∧ n1 ≤ c1 ∧ Hid (n1 + posS l lows i = n) ∧ Hid (A1 = none → c1 = 0) ∧ Hid (Nts wr w.heap.size A1 (l.drop (posS l lows i))) ∧ Hid (wr.ownsRow w.heap.size 27 1 v8 i vs) ∧ Hid (PartsN w.heap.size wr vs ((List.range i).map (partS l lows))) ∧ Below w.heap.size w wr) (fun _ _ vi _ => (p - intOf vi).toNat)
  case atStart => exact ⟨A, n, c, 0, [], rfl, rfl, by omega, HC.out, by show _ = _; rfl, HZ, by show Nts _ _ _ _; exact (HA.out.below hb3).drop00, HO3, ⟨rfl, fun i h => absurd h (by simp)⟩, hb3⟩
  case round =>
    clear HA HZ HC HO3 hb3
    obtain ⟨A1, n1, c1, i, vs, rfl, rfl, hip, hc1, HE1, HZ1, HP1, HOWN, HPS, hbr⟩ := hrel
    have hbs := hbr.size
    by_cases hlt : i < p
    · obtain ⟨k, hk⟩ : ∃ k, k = lenS l lows i := ⟨_, rfl⟩
      have hk1 : k ≤ n1 := by
        have h1 := pos_succS l lows i
        have h2 := pos_leS l lows (i + 1)
        have h4 := HE1.out; have h5 := HN.out
        omega
      have HK := Lib.hid hk
      clear hk
      go_upto_if 30 with fail
      go_cut [7] (fun v wx => v = .int .i64 k ∧ Below wr.heap.size wr wx)
      case first =>
        by_cases hjp : i + 1 < p
        · obtain ⟨j, hj⟩ : ∃ j, j = i + 1 := ⟨_, rfl⟩
          have hji : (i : Int) + 1 = (j : Int) := by omega
          have hjq : j < p := by omega
          have hdj : decide ((j : Int) < (p : Int)) = true := by simp; omega
          have hdj' : decide (j < p) = true := decide_eq_true hjq
          have hki : underN (l.drop (posS l lows i)) (lows.getD (i + 1) noB) = k := by
            rw [HK.out]
            unfold lenS
            rw [if_pos (by have := HP.out; omega)]
          obtain ⟨adr, rfl, hab, hca⟩ := (HS.out.below hbr) (by rw [HP.out]; omega)
          have hjl : i + 1 < lows.length := by rw [HP.out]; exact hjp
          have c2 : wr.cell? (adr.add j) = some (.string lows[i + 1]) := by rw [hj]; exact hca (i + 1) hjl
          have hgd : lows.getD (i + 1) noB = lows[i + 1] := by rw [List.getD_eq_getElem?_getD, List.getElem?_eq_getElem hjl]; rfl
          rw [hgd] at hki
          obtain ⟨xe, hxe⟩ : ∃ x, x = lows[i + 1]'hjl := ⟨_, rfl⟩
          rw [← hxe] at c2 hki
          have hlk : (l.drop (posS l lows i)).length = n1 := by have h4 := HE1.out; have h5 := HN.out; simp; omega
          have hf := findN_any A1 c1 (l.drop (posS l lows i)) xe wr (HP1.out.more hbs) (by rw [hlk]; have h4 := HE1.out; omega) (HSL.out.sublist (List.drop_sublist _ _))
          rw [hlk, hki] at hf
          generalize hasN (l.drop (posS l lows i)) xe = T at hf
          clear hca hgd hxe hlk hki hj hjl hjp
          go_wp2_with fail
          refine hf.mono ?_
          clear hf c2
          rintro e w4 ⟨rfl, hb4⟩
          go_wp2
          go_meet
          case rel => exact ⟨by first | rfl | trivial, hb4⟩
        · have hdj : decide ((i : Int) + 1 < (p : Int)) = false := by simp; omega
          have hdj' : decide (i + 1 < p) = false := decide_eq_false hjp
          have hki : n1 = k := by
            rw [HK.out]
            unfold lenS
            rw [if_neg (by have := HP.out; omega)]
            have h4 := HE1.out; have h5 := HN.out
            omega
          have HKI := Lib.hid hki
          clear hki
          go_wp2
          go_meet
          case rel => exact ⟨by rw [HKI.out], Below.refl _ _⟩
      case rest =>
      obtain ⟨rfl, hbc⟩ := hcut
      have hbrc := hbr.trans (hbc.mono hbs)
      have HP1 := Lib.hid (show Nts wc w.heap.size A1 (l.drop (posS l lows i)) from HP1.out.below (hbc.mono hbs))
      have HOWN := Lib.hid (own_below HOWN.out hbc)
      have HPS := Lib.hid (HPS.out.on hbc)
      have hbsc := hbrc.size
      clear hbr hbs hbc
      have hkc : k ≤ c1 := by omega
      have hlk : ((l.drop (posS l lows i)).take k).length = k := by have h4 := HE1.out; have h5 := HN.out; simp; omega
      have hcl := fun wx (h : Nts wx wx.heap.size A1 ((l.drop (posS l lows i)).take k)) => clone_nt A1 c1 _ wx h (by rw [hlk]; have h4 := HE1.out; omega)
      rw [hlk] at hcl
      have hpart : (l.drop (posS l lows i)).take k = partS l lows i := by rw [HK.out]; rfl
      have HPART := Lib.hid (show partS l lows i = (l.drop (posS l lows i)).take k ∧ (partS l lows i).length = k from ⟨hpart.symm, by rw [← hpart]; exact hlk⟩)
      rw [hpart] at hcl
      clear hlk hpart
      have hc2 := hcl _ (by rw [HPART.out.1]; exact (HP1.out.take k).more hbsc)
      clear hcl
      go_wp2_with fail
      refine hc2.mono ?_
      clear hc2
      rintro e w4 ⟨u, rfl, hownu, hb4⟩
      have hbw4 := hbrc.trans (hb4.mono hbsc)
      have HP4 := Lib.hid (HP1.out.below (hb4.mono hbsc))
      have hown4 := own_below HOWN.out hb4
      have HPS4 := Lib.hid (HPS.out.on hb4)
      have HU4 := Lib.hid (own_baseN hownu hbsc)
      obtain ⟨Au, cu, rfl⟩ := own_shape hownu
      have hbs4 := hbw4.size
      clear hb4 hownu HP1 HOWN HPS
      go_wp2_with (at_builtin; refine wpList_append_own _ rfl _ _ 22 rfl w.heap.size 27 i0 (.slice none 0 0) 1 24 Try.underlying22 hi0 hz0 hz1 hz2 rfl (by decide) _ _ _ rfl (hown4.alloc _) ⟨w4.heap.size, 0, none⟩ 1 1 [.slice Au k cu] rfl rfl ?a1 ?a2 ?a3 ?a4 ?a5 ?_)
      case a1 =>
        intro j x hj
        match j, hj with
        | 0, hj => simp at hj; subst hj; simp [Addr.add]
      case a2 => intro x hx; simp at hx; subst hx; rfl
      case a3 => unfold maxLen; omega
      case a4 => omega
      case a5 => simp; omega
      intro v' w5 hown5 hg5 _
      have hk5 : ∀ k, Value.ownBlock _ = some k → w.heap.size ≤ k := fun k hk => (hown4.lt k hk).1
      have hb5 : Below w.heap.size w w5 := (hbw4.alloc hbs4 _).grown hg5 (by simp; omega) hk5
      have HP5 := Lib.hid (HP4.out.keep fun p hp => (hb5.cell hp).trans (hbw4.cell hp).symm)
      have hps4 : PartsN w.heap.size (w4.alloc (.cells #[.slice Au k cu] 27)) (vs ++ [.slice Au k cu]) ((List.range (i + 1)).map (partS l lows)) := by
        rw [part_snocS]
        refine (HPS4.out.snoc ?_).on ((Below.refl _ w4).alloc (Nat.le_refl _) _)
        rw [HPART.out.2]; exact HU4.out
      have HPS5 := Lib.hid (hps4.grown (hown4.alloc _) hg5)
      have HO5 := Lib.hid hown5
      have HE5 := Lib.hid (show n1 - k + posS l lows (i + 1) = n ∧ l.drop (posS l lows (i + 1)) = (l.drop (posS l lows i)).drop k from by
        have h1 := pos_succS l lows i
        have h2 := HE1.out; have h3 := HK.out
        rw [← h3] at h1
        exact ⟨by omega, by rw [h1, List.drop_drop]⟩)
      clear hown4 hown5 hg5 hk5 hps4 HP4 HPS4 HU4
      rcases A1 with _ | ad
      · obtain rfl : c1 = 0 := HZ1.out rfl
        obtain rfl : n1 = 0 := by omega
        obtain rfl : k = 0 := by omega
        go_wp2
        go_roundw
        case rel => exact ⟨none, 0, 0, i + 1, _, by first | rfl | trivial, by first | rfl | go_num, by omega, Nat.le_refl _, HE5.out.1, fun _ => rfl, by show Nts _ _ _ _; rw [HE5.out.2]; exact HP5.out.drop00, HO5, HPS5, hb5⟩
        case measure => simp [intOf]; omega
      · by_cases hck : c1 = k
        · have hck2 : c1 - k = 0 := by omega
          have HE6 := Lib.hid (show n1 - k ≤ 0 ∧ (l.drop (posS l lows i)).drop k = [] from ⟨by omega, List.drop_eq_nil_of_le (by have h4 := HE1.out; have h5 := HN.out; simp; omega)⟩)
          go_wp2
          go_roundw
          case rel => exact ⟨some ad, n1 - k, 0, i + 1, _, by first | rfl | trivial, by first | rfl | go_num, by omega, HE6.out.1, HE5.out.1, fun h => (by cases h), by show Nts _ _ _ _; rw [HE5.out.2]; exact Lies.empty HE6.out.2, HO5, HPS5, hb5⟩
          case measure => simp [intOf]; omega
        · have hck2 : ¬ c1 - k = 0 := by omega
          have HE6 := Lib.hid (show n1 - k ≤ c1 - k from by omega)
          go_wp2
          go_roundw
          case rel => exact ⟨some (ad.add (k * 4)), n1 - k, c1 - k, i + 1, _, by first | rfl | trivial, by first | rfl | go_num, by omega, HE6.out, HE5.out.1, fun h => (by cases h), by show Nts _ _ _ _; rw [HE5.out.2]; exact HP5.out.drop k, HO5, HPS5, hb5⟩
          case measure => simp [intOf]; omega
    · have hip2 : i = p := by omega
      have HIP := Lib.hid hip2
      clear hip2
      go_wp2
      go_ret
      refine ⟨_, rfl, ?_, hbr⟩
      have hi := HIP.out
      have h1 := HOWN.out
      have h2 := HPS.out
      rw [hi] at h1 h2
      have h4 : ((List.range p).map (partS l lows)).length = p := by simp
      exact ⟨vs, by rw [h4]; exact h1, h2⟩
theorem psplit_any (A : Option Addr) (c : Nat) (l : List Nt) (S : Option Addr) (cs : Nat) (lows : List ByteArray) (w : World) (hA : Nts w w.heap.size A l) (hc : l.length ≤ c) (hz : A = none → c = 0) (hS : Strs w w.heap.size S lows) (hmax : l.length ≤ 1000000) (hmm : lows.length ≤ 1000000) :
    Calls Try.prog 59 #[.slice A l.length c, .slice S lows.length cs] w fun e w' => ∃ v, e = .returned v ∧ NVV w' v (splitA l lows) ∧ Below w.heap.size w w' := by
  refine (psplit_own A c l S cs lows w hA hc hz hS hmax hmm).mono ?_
  rintro e w' ⟨v, rfl, ⟨vs, h1, h2⟩, hb⟩
  refine ⟨v, rfl, ?_, hb⟩
  obtain ⟨A9, c9, hv9⟩ := own_shape h1
  refine ⟨A9, c9, vs, hv9, h2.1, ?_, fun j hj => ?_⟩
  · have h6 : vs.flatMap (fun u : Value => [u]) = vs := by simp
    rw [hv9, ← h2.1] at h1
    refine Lies.own (cs := fun u : Value => [u]) (base := w.heap.size) (e := 27) (n := vs.length) (c := c9) (fun _ => rfl) ?_
    rw [h6]; exact h1
  · obtain ⟨u, h7, h8⟩ := h2.2 j hj
    exact ⟨u, h7, NV.own h8 rfl⟩

end Go.Proofs.Yteddjmkoleclpaa

namespace Go.Proofs.Yteddjmkoleclpaa
open Go.RowKit

set_option maxHeartbeats 2000000 in
set_option maxRecDepth 100000 in
theorem pmost_any (A : Option Addr) (c : Nat) (l : List Nt) (S : Option Addr) (cs : Nat) (lows : List ByteArray) (w : World) (hA : Nts w w.heap.size A l) (hc : l.length ≤ c) (hz : A = none → c = 0) (hS : Strs w w.heap.size S lows) (hmax : l.length ≤ 1000000) (hmm : lows.length ≤ 1000000) :
    Calls Try.prog 71 #[.slice A l.length c, .slice S lows.length cs] w fun e w' => ∃ m : Nat, e = .returned (.int .i64 m) ∧ MostA l lows m ∧ Below w.heap.size w w' := by
  have hcall := psplit_any A c l S cs lows w hA hc hz hS hmax hmm
  have hpl : (splitA l lows).length ≤ 1000000 := by
    unfold splitA
    split
    · rw [split_len]; exact hmm
    · exact Nat.zero_le _
  have HEND := Lib.hid (fun (m z : Nat) (h : MostZ (splitA l lows) (splitA l lows).length m z) => mostz_all h)
  obtain ⟨M, hM⟩ : ∃ M : Nat → Prop, ∀ m, M m ↔ MostA l lows m := ⟨_, fun _ => Iff.rfl⟩
  obtain ⟨ps, hps⟩ : ∃ ps, ps = splitA l lows := ⟨_, rfl⟩
  rw [← hps] at hcall hpl HEND
  have HME := Lib.hid (show ∀ m z, MostZ ps ps.length m z → MostA l lows m from HEND.out)
  clear HEND hps hM M
  obtain ⟨n1, hn1⟩ : ∃ n1, l.length = n1 := ⟨_, rfl⟩
  obtain ⟨m1, hm1⟩ : ∃ m1, lows.length = m1 := ⟨_, rfl⟩
  rw [hn1, hm1] at hcall
  rw [hn1, hm1]
  clear hn1 hm1 hA hc hz hS hmax hmm
  go_enter Try.func71, Try.ntmps71
  go_wp2_with fail
  refine hcall.mono ?_
  clear hcall
  rintro e w2 ⟨v, rfl, hv, hb2⟩
  obtain ⟨A2, c2, rfl, hp2⟩ := hv.part
  have HP2 := Lib.hid hp2
  obtain ⟨n, hn⟩ : ∃ n, ps.length = n := ⟨_, rfl⟩
  rw [hn] at hpl ⊢
  have HN := Lib.hid hn
  clear hv hp2 hn
  go_wp2
  go_loopw [5, 6, 13] (fun mv zv iv wr => ∃ (k m z : Nat), mv = .int .i64 m ∧ zv = .int .i64 z ∧ iv = .int .i64 k ∧ k ≤ n ∧ Hid (MostZ ps k m z) ∧ wr = w2) (fun _ _ iv _ => (n - intOf iv).toNat)
  case atStart => exact ⟨0, 0, 0, rfl, rfl, rfl, Nat.zero_le _, .inl ⟨rfl, rfl, rfl⟩, rfl⟩
  case round =>
    obtain ⟨k, m, z, rfl, rfl, rfl, hk, HZ, rfl⟩ := hrel
    by_cases hlt : k < n
    · have hkp : k < ps.length := by rw [HN.out]; exact hlt
      obtain ⟨ad, u, rfl, hab, hc1, hu⟩ := HP2.out k hkp
      obtain ⟨B, d, rfl⟩ := hu.shape
      obtain ⟨q, hq⟩ : ∃ q, q = (ps[k]'hkp).length := ⟨_, rfl⟩
      rw [← hq] at hc1
      have HQ := Lib.hid hq
      clear hu hq
      by_cases hzq : z < q
      · have HZ2 := Lib.hid (show MostZ ps (k + 1) k q from by rw [HQ.out]; exact mostz_more HZ.out hkp (by rw [← HQ.out]; exact hzq))
        have hd : decide ((z : Int) < (q : Int)) = true := by simp; omega
        have hd' : decide (z < q) = true := decide_eq_true hzq
        clear HZ
        go_wp2
        go_roundw
        case rel => exact ⟨k + 1, k, q, rfl, rfl, by go_num, by omega, HZ2, by first | trivial | rfl⟩
        case measure => simp [intOf]; omega
      · have HZ2 := Lib.hid (show MostZ ps (k + 1) m z from mostz_less HZ.out hkp (by rw [← HQ.out]; exact hzq))
        have hd : decide ((z : Int) < (q : Int)) = false := by simp; omega
        have hd' : decide (z < q) = false := decide_eq_false hzq
        clear HZ
        go_wp2
        go_roundw
        case rel => exact ⟨k + 1, m, z, rfl, rfl, by go_num, by omega, HZ2, by first | trivial | rfl⟩
        case measure => simp [intOf]; omega
    · have hkn : k = n := by omega
      have HE := Lib.hid (show MostA l lows m from HME.out m z (by rw [HN.out, ← hkn]; exact HZ.out))
      clear hkn
      go_wp2
      go_ret
      exact ⟨m, rfl, HE.out, hb2⟩

end Go.Proofs.Yteddjmkoleclpaa
