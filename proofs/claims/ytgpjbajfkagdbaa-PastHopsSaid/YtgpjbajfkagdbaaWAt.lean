/- The walks of At, Get and Pages. -/
import Derived.Test.YtgpjbajfkagdbaaPa
import Derived.Test.YtgpjbajfkagdbaaNW
import Derived.Test.YtgpjbajfkagdbaaTA
import Derived.Test.YtgpjbajfkagdbaaRg
import Derived.Lib.MinMax
set_option linter.unusedVariables false
set_option linter.unusedSimpArgs false
namespace Go.Proofs.Ytgpjbajfkagdbaa
open Go.RowKit

theorem drop_above {t : List Ch} (ht : trailB t = true) (s : Int) : dropL t s = aboveS t s := by
  unfold dropL
  rw [ht]
  exact above_eq (trail_t.1 ht).2 s
theorem past_arg {l : List Pr} {t : List Ch} (fl s : Int) (h : wellL l = false ∨ trailB t = false) : pastE l t fl s = 1 ∧ pastL l t fl s = [] := by
  have h1 : pastE l t fl s = 1 := by
    unfold pastE
    rcases h with h | h <;> rw [h] <;> simp
  exact ⟨h1, past_no (by rw [h1]; decide)⟩
theorem past_old {l : List Pr} {t : List Ch} {fl s : Int} (h1 : wellL l = true) (h2 : trailB t = true) (h : s < fl) : pastE l t fl s = 8 ∧ pastL l t fl s = [] := by
  have h3 : pastE l t fl s = 8 := by
    unfold pastE
    rw [h1, h2, if_pos (by rfl), if_pos h]
  exact ⟨h3, past_no (by rw [h3]; decide)⟩
theorem past_go {l : List Pr} {t : List Ch} {fl s : Int} (h1 : wellL l = true) (h2 : trailB t = true) (h : fl ≤ s) : pastE l t fl s = walkE l (backL (dropL t s)) ∧ (walkE l (backL (dropL t s)) = 0 → walkA l (backL (dropL t s)) = pastL l t fl s) ∧ (∀ c ∈ dropL t s, c.key.size ≤ maxLen) := by
  have hk : ∀ c ∈ dropL t s, c.key.size ≤ maxLen := by
    intro c hc
    rw [drop_above h2] at hc
    have := may_of ((trail_t.1 h2).1 c (List.filter_sublist.subset hc))
    unfold maxLen; omega
  rw [drop_above h2] at hk ⊢
  have e : pastE l t fl s = walkE l (backL (aboveS t s)) := by
    unfold pastE walkE
    rw [h1, h2, if_pos (by rfl), if_neg (by omega), Bool.true_and]
    rfl
  refine ⟨e, fun h0 => ?_, hk⟩
  unfold pastL walkA
  rw [h1, e, h0, if_pos rfl, if_pos rfl]
  unfold asU
  cases ho : doL l (backL (aboveS t s)) with
  | none => unfold walkE at h0; rw [ho] at h0; simp at h0
  | some q => rfl
theorem get_empty (key : ByteArray) : getA [] key = (noB, false) := by rfl

set_option maxRecDepth 100000 in
set_option maxHeartbeats 4000000 in
theorem past_v {v u : Value} {l : List Pr} {t : List Ch} (fl s : Int) {w : World} (hv : PV w v l) (hu : CV w u t) (hn : l.length ≤ 100000) (hm : t.length ≤ 100000) :
    Calls Try.prog 10 #[v, u, .int .i64 fl, .int .i64 s] w fun e w' => ∃ v', e = .returned (.tuple #[v', .int .i64 (pastE l t fl s)]) ∧ PV w' v' (pastL l t fl s) ∧ Below w.heap.size w w' := by
  obtain ⟨R, hR⟩ : ∃ R, wellL l = R := ⟨_, rfl⟩
  obtain ⟨T, hT⟩ : ∃ T, trailB t = T := ⟨_, rfl⟩
  have hr := right_v hv (by unfold maxLen; omega)
  rw [hR] at hr
  have HR := Lib.hid hR
  have HT := Lib.hid hT
  have HV := Lib.hid hv
  have HU := Lib.hid hu
  have HN := Lib.hid hn
  have HM := Lib.hid hm
  have HC := Lib.hid hr
  clear hR hT hv hu hn hm hr
  go_enter Try.func10, Try.ntmps10
  go_wp2_with fail
  refine HC.out.mono ?_
  rintro e w1 ⟨rfl, hb⟩
  have HB1 := Lib.hid hb
  clear hb HC
  cases R with
  | false =>
    have HF := Lib.hid (past_arg (l := l) (t := t) fl s (.inl HR.out))
    go_wp2
    go_ret2
    exact ⟨.slice none 0 0, by rw [HF.out.1]; rfl, by rw [HF.out.2]; exact PV.nil _, HB1.out⟩
  | true =>
    have hr := tright_v (HU.out.on HB1.out) (by have := HM.out; unfold maxLen; omega)
    rw [HT.out] at hr
    go_wp2_with fail
    refine hr.mono ?_
    rintro e w2 ⟨rfl, hb⟩
    have HB2 := Lib.hid (HB1.out.trans (hb.mono HB1.out.size))
    clear hb hr HB1
    cases T with
    | false =>
      have HF := Lib.hid (past_arg (l := l) (t := t) fl s (.inr HT.out))
      go_wp2
      go_ret2
      exact ⟨.slice none 0 0, by rw [HF.out.1]; rfl, by rw [HF.out.2]; exact PV.nil _, HB2.out⟩
    | true =>
      by_cases hs : s < fl
      · have HF := Lib.hid (past_old HR.out HT.out hs)
        go_wp2
        go_ret2
        exact ⟨.slice none 0 0, by rw [HF.out.1]; rfl, by rw [HF.out.2]; exact PV.nil _, HB2.out⟩
      · obtain ⟨f1, f2, f3⟩ := past_go (s := s) (fl := fl) HR.out HT.out (by omega)
        have hr := drop_v s (HU.out.on HB2.out) HM.out
        have hdl : (dropL t s).length ≤ 100000 := by
          rw [drop_above HT.out]
          exact Nat.le_trans (above_len t s) HM.out
        obtain ⟨D, hD⟩ : ∃ D, dropL t s = D := ⟨_, rfl⟩
        rw [hD] at f1 f2 f3 hr hdl
        obtain ⟨E, hE⟩ : ∃ E, walkE l (backL D) = E := ⟨_, rfl⟩
        have HF := Lib.hid (And.intro f1 f2)
        have HE := Lib.hid hE
        have HK := Lib.hid f3
        have HDL := Lib.hid hdl
        have HDR := Lib.hid hr
        clear f1 f2 f3 hD hE hr hdl
        go_wp2_with fail
        refine HDR.out.mono ?_
        rintro e w3 ⟨dv, rfl, hd, hb⟩
        have HB3 := Lib.hid (HB2.out.trans (hb.mono HB2.out.size))
        have hr := undo_v (HV.out.on HB3.out) hd HN.out HDL.out HK.out
        rw [HE.out] at hr
        clear hb hd HB2 HDR
        go_wp2_with fail
        refine hr.mono ?_
        clear hr
        rintro e w4 ⟨pv, rfl, hp, hb⟩
        have HB4 := Lib.hid (HB3.out.trans (hb.mono HB3.out.size))
        have HP4 := Lib.hid hp
        clear hp hb HB3
        by_cases h0 : E = 0
        · subst h0
          go_wp2
          go_ret2
          exact ⟨pv, by rw [HF.out.1, HE.out]; rfl, by rw [← HF.out.2 HE.out]; exact HP4.out, HB4.out⟩
        · have HE0 := Lib.hid h0
          go_wp2
          go_ret2
          refine ⟨.slice none 0 0, by rw [HF.out.1, HE.out]; rfl, ?_, HB4.out⟩
          rw [past_no (by rw [HF.out.1, HE.out]; exact HE0.out)]
          exact PV.nil _

set_option maxRecDepth 100000 in
set_option maxHeartbeats 4000000 in
theorem pget_v {v u : Value} {l : List Pr} {t : List Ch} (fl s : Int) (key : ByteArray) {w : World} (hv : PV w v l) (hu : CV w u t) (hn : l.length ≤ 100000) (hm : t.length ≤ 100000) :
    Calls Try.prog 12 #[v, u, .int .i64 fl, .int .i64 s, .string key] w fun e w' => e = .returned (.tuple #[.string (getA (pastL l t fl s) key).1, .bool (getA (pastL l t fl s) key).2, .int .i64 (pastE l t fl s)]) ∧ Below w.heap.size w w' := by
  have hr := past_v fl s hv hu hn hm
  have hnl := past_len l t fl s
  have hno : pastE l t fl s ≠ 0 → pastL l t fl s = [] := past_no
  obtain ⟨E, hE⟩ : ∃ E, pastE l t fl s = E := ⟨_, rfl⟩
  obtain ⟨P, hP⟩ : ∃ P, pastL l t fl s = P := ⟨_, rfl⟩
  rw [hE, hP] at hr hno
  rw [hP] at hnl
  rw [hE, hP]
  obtain ⟨gs, hgs⟩ : ∃ q, (getA P key).1 = q := ⟨_, rfl⟩
  obtain ⟨gb, hgb⟩ : ∃ q, (getA P key).2 = q := ⟨_, rfl⟩
  have HG := Lib.hid (And.intro hgs hgb)
  rw [hgs, hgb]
  have HN := Lib.hid (show P.length ≤ 1000000 from by omega)
  have HNO := Lib.hid hno
  have HC := Lib.hid hr
  clear hr hnl hno hE hP hgs hgb hv hu hn hm
  go_enter Try.func12, Try.ntmps12
  go_wp2_with fail
  refine HC.out.mono ?_
  rintro e w1 ⟨pv, rfl, hp, hb⟩
  have HB1 := Lib.hid hb
  have hr := get_v hp key HN.out
  rw [HG.out.1, HG.out.2] at hr
  clear hb hp HC
  by_cases h0 : E = 0
  · subst h0
    go_wp2_with fail
    refine hr.mono ?_
    clear hr
    rintro e w2 ⟨rfl, hb⟩
    have HB2 := Lib.hid (HB1.out.trans (hb.mono HB1.out.size))
    clear hb
    go_wp2
    exact bodyPost_ret (v := .tuple #[.string gs, .bool gb, .int .i64 0]) (by simp [results, Try.results12, go_sem]) rfl ⟨rfl, HB2.out⟩
  · have hP := HNO.out h0
    have hg := HG.out
    rw [hP, get_empty] at hg
    obtain ⟨rfl, rfl⟩ := hg
    clear hr
    go_wp2
    exact bodyPost_ret (v := .tuple #[.string ⟨#[]⟩, .bool false, .int .i64 E]) (by simp [results, Try.results12, go_sem]) rfl ⟨rfl, HB1.out⟩

/-- The first ones of a range, and whether there are more. -/
def pageL (r : Rng) (m : Int) (P : List Pr) : List Pr := (pickL r P).take m.toNat
def moreB (r : Rng) (m : Int) (P : List Pr) : Bool := decide (m.toNat < (pickL r P).length)
theorem page_empty (r : Rng) (m : Int) : pageL r m [] = [] ∧ moreB r m [] = false := ⟨by simp [pageL, pickL], by simp [moreB, pickL]⟩
theorem PV.cut {w : World} {A : Option Addr} {m c : Nat} {l : List Pr} (h : PV w (.slice A m c) l) (k : Nat) (hk : k ≤ l.length) : PV w (.slice A k k) (l.take k) := by
  obtain ⟨A', c', e, h1, h2, h3⟩ := h
  injection e with e1 e2 e3
  subst e1 e3
  refine ⟨A, k, by rw [List.length_take, Nat.min_eq_left hk], h1.take k, by rw [List.length_take]; omega, fun e => ?_⟩
  have := h3 e
  omega

set_option maxRecDepth 100000 in
set_option maxHeartbeats 4000000 in
theorem pages_o {v u : Value} {l : List Pr} {t : List Ch} (fl s m : Int) (r : Rng) {w : World} (hv : PV w v l) (hu : CV w u t) (hn : l.length ≤ 100000) (hm : t.length ≤ 100000) :
    Calls Try.prog 13 #[v, u, .int .i64 fl, .int .i64 s, .int .i64 m, .agg #[.string r.lo, .string r.hi, .bool r.op]] w fun e w' => ∃ v', e = .returned (.tuple #[v', .bool (moreB r m (pastL l t fl s)), .int .i64 (pastE l t fl s)]) ∧ PV w' v' (pageL r m (pastL l t fl s)) ∧ (∀ ad n c, v' = .slice (some ad) n c → w.heap.size ≤ ad.block) ∧ Below w.heap.size w w' := by
  obtain ⟨lo, hi, op⟩ := r
  simp only
  obtain ⟨wa, hwa⟩ : ∃ q, q = w.alloc (.cells #[.string lo, .string hi, .bool op] 25) := ⟨_, rfl⟩
  obtain ⟨ga, hga⟩ : ∃ q, q = w.heap.size := ⟨_, rfl⟩
  have hba : Below w.heap.size w wa := by rw [hwa]; exact (Below.refl _ _).alloc (Nat.le_refl _) _
  have HBX := Lib.hid (show Box wa ga 25 #[.string lo, .string hi, .bool op] from by rw [hwa]; exact Box.at_ _ _ _ hga)
  have hr := past_v fl s (hv.on hba) (hu.on hba) hn hm
  have hnl := past_len l t fl s
  have hno : pastE l t fl s ≠ 0 → pastL l t fl s = [] := past_no
  obtain ⟨E, hE⟩ : ∃ E, pastE l t fl s = E := ⟨_, rfl⟩
  obtain ⟨P, hP⟩ : ∃ P, pastL l t fl s = P := ⟨_, rfl⟩
  rw [hE, hP] at hr hno
  rw [hP] at hnl
  rw [hE, hP]
  have HN := Lib.hid (show P.length ≤ 1000000 from by omega)
  have HNO := Lib.hid hno
  have HC := Lib.hid hr
  obtain ⟨Q, hQ⟩ : ∃ q, pageL ⟨lo, hi, op⟩ m P = q := ⟨_, rfl⟩
  obtain ⟨M, hM⟩ : ∃ q, moreB ⟨lo, hi, op⟩ m P = q := ⟨_, rfl⟩
  rw [hQ, hM]
  have HQ := Lib.hid (And.intro hQ hM)
  have HBA := Lib.hid hba
  have HWA := Lib.hid (And.intro hwa hga)
  clear hr hnl hno hE hP hv hu hn hm hba hwa hga hQ hM
  go_enter Try.func13, Try.ntmps13
  go_wp2_with fail
  rw [← HWA.out.1]
  refine HC.out.mono ?_
  rintro e w1 ⟨pv, rfl, hp, hb⟩
  have HB1 := Lib.hid (HBA.out.trans (hb.mono HBA.out.size))
  have hx := HBX.out.on hb
  have c0 : w1.cell? ⟨ga, 0, none⟩ = some (.string lo) := hx.cell 0 rfl
  have c1 : w1.cell? ⟨ga, 1, none⟩ = some (.string hi) := hx.cell 1 rfl
  have c2 : w1.cell? ⟨ga, 2, none⟩ = some (.bool op) := hx.cell 2 rfl
  rw [← HWA.out.2]
  have HP1 := Lib.hid hp
  clear hb hp HC
  by_cases h0 : E = 0
  · subst h0
    have hr := pick_o ⟨lo, hi, op⟩ HP1.out HN.out
    go_wp2_with fail
    refine hr.mono ?_
    clear hr
    rintro e w2 ⟨kv, rfl, hko, hb⟩
    have hk := PV.own hko rfl
    have HB2 := Lib.hid (HB1.out.trans (hb.mono HB1.out.size))
    obtain ⟨KA, kc, rfl⟩ : ∃ A c, kv = .slice A (pickL ⟨lo, hi, op⟩ P).length c := by obtain ⟨A, c, e, _⟩ := hk; exact ⟨A, c, e⟩
    have HAB := Lib.hid (show ∀ ad, KA = some ad → w.heap.size ≤ ad.block from fun ad e => by
      have h1 := (hko.lt ad.block (by rw [e]; rfl)).1
      exact Nat.le_trans HB1.out.size h1)
    clear hko
    have hkc : (pickL ⟨lo, hi, op⟩ P).length ≤ kc := by
      obtain ⟨_, _, e, _, h2, _⟩ := hk
      injection e with _ _ e3
      omega
    obtain ⟨K, hK⟩ : ∃ K, pickL ⟨lo, hi, op⟩ P = K := ⟨_, rfl⟩
    have hkn : K.length ≤ 1000000 := by
      rw [← hK]
      exact Nat.le_trans (List.length_filter_le _ _) HN.out
    have hq := HQ.out
    unfold moreB pageL at hq
    rw [hK] at hk hkc hq
    obtain ⟨n, hn⟩ : ∃ n, K.length = n := ⟨_, rfl⟩
    rw [hn] at hkc hkn hq
    rw [hK, hn]
    have HK := Lib.hid hk
    have HKN := Lib.hid hn
    have HQ2 := Lib.hid hq
    clear hk hb hK hn hq
    have hj : (min (n : Int) (max m 0)).toNat = min m.toNat n := by omega
    have HD := Lib.hid (show decide (min (n : Int) (max m 0) < (n : Int)) = M from by
      rw [← HQ2.out.2]
      by_cases h : m.toNat < n
      · rw [decide_eq_true h, decide_eq_true (by omega)]
      · rw [decide_eq_false h, decide_eq_false (by omega)])
    have HV := Lib.hid (show PV w2 (.slice KA (min (n : Int) (max m 0)).toNat (min (n : Int) (max m 0)).toNat) Q from by
      have h1 := HK.out.cut (min m.toNat n) (by rw [HKN.out]; omega)
      rw [hj, ← HQ2.out.1]
      rw [show K.take m.toNat = K.take (min m.toNat n) from by rw [← HKN.out, List.take_eq_take_min]]
      exact h1)
    clear hj
    go_wp2
    exact bodyPost_ret (v := .tuple #[.slice KA (min (n : Int) (max m 0)).toNat (min (n : Int) (max m 0)).toNat, .bool (decide (min (n : Int) (max m 0) < (n : Int))), .int .i64 0]) (by simp [results, Try.results13, go_sem]) rfl ⟨_, by rw [HD.out], HV.out, fun ad _ _ e => HAB.out ad (by injection e), HB2.out⟩
  · have hP := HNO.out h0
    subst hP
    have hq := HQ.out
    rw [(page_empty ⟨lo, hi, op⟩ m).1, (page_empty ⟨lo, hi, op⟩ m).2] at hq
    obtain ⟨rfl, rfl⟩ := hq
    go_wp2
    exact bodyPost_ret (v := .tuple #[.slice none 0 0, .bool false, .int .i64 E]) (by simp [results, Try.results13, go_sem]) rfl ⟨_, rfl, PV.nil _, fun ad _ _ e => (by cases e), HB1.out⟩
theorem pages_v {v u : Value} {l : List Pr} {t : List Ch} (fl s m : Int) (r : Rng) {w : World} (hv : PV w v l) (hu : CV w u t) (hn : l.length ≤ 100000) (hm : t.length ≤ 100000) :
    Calls Try.prog 13 #[v, u, .int .i64 fl, .int .i64 s, .int .i64 m, .agg #[.string r.lo, .string r.hi, .bool r.op]] w fun e w' => ∃ v', e = .returned (.tuple #[v', .bool (moreB r m (pastL l t fl s)), .int .i64 (pastE l t fl s)]) ∧ PV w' v' (pageL r m (pastL l t fl s)) ∧ Below w.heap.size w w' :=
  (pages_o fl s m r hv hu hn hm).mono fun _ _ ⟨v', h1, h2, _, h4⟩ => ⟨v', h1, h2, h4⟩

end Go.Proofs.Ytgpjbajfkagdbaa
