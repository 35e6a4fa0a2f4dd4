/- The walk of the document's At. -/
import Derived.Test.YtgpjbajfkagdbaaUn
import Derived.Test.YtgpjbajfkagdbaaRUn
import Derived.Test.YtgpjbajfkagdbaaRC
import Derived.Test.YtgpjbajfkagdbaaWAt
set_option linter.unusedVariables false
set_option linter.unusedSimpArgs false
namespace Go.Proofs.Ytgpjbajfkagdbaa
open Go.RowKit

theorem dwell_v {v : Value} {l : List Pr} {w : World} (h : PV w v l) (hn : l.length ≤ maxLen) :
    Calls Try.prog 22 #[v] w fun e w' => e = .returned (.bool (wellL l)) ∧ Below w.heap.size w w' := by
  obtain ⟨A, c, rfl, h1, _⟩ := h
  exact dright_pr A c l w h1 hn
/-- One change, as a part of changes. -/
theorem CV.one {w : World} {ad : Addr} {n c i : Nat} {t : List Ch} (h : CV w (.slice (some ad) n c) t) (hi : i < t.length) : CV w (.slice (some (ad.add (i * 6))) 1 (c - i)) [t[i]] := by
  obtain ⟨A, c', e, h1, h2, h3⟩ := h
  injection e with e1 e2 e3
  subst e1 e3
  refine ⟨_, _, rfl, ?_, by simp; omega, fun e => by cases e⟩
  have := (h1.drop i).take 1
  rw [List.drop_eq_getElem_cons hi] at this
  exact this

set_option maxRecDepth 100000 in
set_option maxHeartbeats 4000000 in
theorem dpast_v {v u : Value} {l : List Pr} {t : List Ch} (fl s : Int) {w : World} (hv : PV w v l) (hu : CV w u t) (hn : l.length + t.length ≤ 900) :
    Calls Try.prog 11 #[v, u, .int .i64 fl, .int .i64 s] w fun e w' => ∃ v', e = .returned (.tuple #[v', .int .i64 (pastE l t fl s)]) ∧ PV w' v' (pastL l t fl s) ∧ Below w.heap.size w w' := by
  obtain ⟨R, hR⟩ : ∃ R, wellL l = R := ⟨_, rfl⟩
  obtain ⟨T, hT⟩ : ∃ T, trailB t = T := ⟨_, rfl⟩
  obtain ⟨E, hE⟩ : ∃ q, pastE l t fl s = q := ⟨_, rfl⟩
  obtain ⟨Z, hZ⟩ : ∃ q, pastL l t fl s = q := ⟨_, rfl⟩
  rw [hE, hZ]
  have h1 := dwell_v hv (by unfold maxLen; omega)
  rw [hR] at h1
  obtain ⟨A, n, c, rfl, hnl⟩ : ∃ A n c, u = .slice A n c ∧ t.length = n := by obtain ⟨A, c, e, _⟩ := hu; exact ⟨A, _, c, e, rfl⟩
  have HE := Lib.hid (And.intro hE hZ)
  have HR := Lib.hid hR
  have HT := Lib.hid hT
  have HV := Lib.hid hv
  have HU := Lib.hid hu
  have HN := Lib.hid hn
  have HNL := Lib.hid hnl
  have hn9 : n ≤ 900 := by omega
  have HC := Lib.hid h1
  clear hE hZ hR hT hv hu hn hnl h1
  go_enter Try.func11, Try.ntmps11
  go_wp2_with fail
  refine HC.out.mono ?_
  rintro e w1 ⟨rfl, hb⟩
  have HB1 := Lib.hid hb
  have hr := dright_v (HU.out.on hb) (by rw [HNL.out]; omega)
  rw [HT.out] at hr
  clear hb HC
  go_wp2_with fail
  refine hr.mono ?_
  rintro e w2 ⟨rfl, hb⟩
  have HB2 := Lib.hid (HB1.out.trans (hb.mono HB1.out.size))
  clear hb hr HB1
  cases R with
  | false =>
    have HF := Lib.hid (past_arg (l := l) (t := t) fl s (.inl HR.out))
    go_wp2
    go_ret2
    exact ⟨.slice none 0 0, by rw [← HE.out.1, HF.out.1]; rfl, by rw [← HE.out.2, HF.out.2]; exact PV.nil _, HB2.out⟩
  | true =>
    cases T with
    | false =>
      have HF := Lib.hid (past_arg (l := l) (t := t) fl s (.inr HT.out))
      go_wp2
      go_ret2
      exact ⟨.slice none 0 0, by rw [← HE.out.1, HF.out.1]; rfl, by rw [← HE.out.2, HF.out.2]; exact PV.nil _, HB2.out⟩
    | true =>
      by_cases hs : s < fl
      · have HF := Lib.hid (past_old HR.out HT.out hs)
        go_wp2
        go_ret2
        exact ⟨.slice none 0 0, by rw [← HE.out.1, HF.out.1]; rfl, by rw [← HE.out.2, HF.out.2]; exact PV.nil _, HB2.out⟩
      · have HFS := Lib.hid (show fl ≤ s from by omega)
        have HV2 := Lib.hid (HV.out.on HB2.out)
        have HU2 := Lib.hid (HU.out.on HB2.out)
        go_wp2
        go_loopw [12, 13] (fun ov iv wr => ∃ (k : Nat) (q : List Pr) (z : Int), iv = .int .i64 z ∧ k ≤ n ∧ z + k + 1 = n ∧ Hid (PV wr ov q) ∧ Hid (Undone l t s (n - k) q) ∧ Below w2.heap.size w2 wr) (fun _ iv _ => (intOf iv + 1).toNat)
        case atStart => exact ⟨0, l, n - 1, rfl, Nat.zero_le _, by omega, HV2.out, by rw [Nat.sub_zero, ← HNL.out]; exact Undone.start l t s, Below.refl _ _⟩
        case round =>
          obtain ⟨k, q, z, rfl, hk, hz, HQ, HUD, hbr⟩ := hrel
          have hbs := hbr.size
          by_cases hlt : k < n
          · obtain ⟨i, hi⟩ : ∃ i : Nat, i + k + 1 = n := ⟨n - k - 1, by omega⟩
            obtain rfl : z = i := by omega
            have hin : i < n := by omega
            have hil : i < t.length := by rw [HNL.out]; exact hin
            have hud := HUD.out
            rw [show n - k = i + 1 from by omega] at hud
            obtain ⟨A', c', e', hA, hcl, _⟩ := HU2.out.on hbr
            injection e' with e1 e2 e3
            subst e1 e3
            obtain ⟨ad, rfl, hab, hca⟩ := hA.seeC (by rw [HNL.out]; omega)
            obtain ⟨c0, _, _, _, _, _⟩ := hca i hil
            have hone := CV.one (HU2.out.on hbr) hil
            obtain ⟨x, hx⟩ : ∃ x, t[i]'hil = x := ⟨_, rfl⟩
            have hqn := hud.len
            by_cases hsq : s < (t[i]'hil).seq
            · obtain ⟨hn1, hn2⟩ := hud.next HR.out hil hsq
              rw [hx] at c0 hsq hone hn1 hn2
              obtain ⟨xs, hxs⟩ : ∃ q, x.seq = q := ⟨_, rfl⟩
              rw [hxs] at c0 hsq
              have hr := rundo_any wr HQ.out hone (by have := HN.out; simp; omega)
              have HX := Lib.hid (And.intro hn1 hn2)
              have hcn : ¬ c = i := by have := HNL.out; omega
              have hci : i + 1 ≤ c := by have := HNL.out; omega
              obtain ⟨ok, hok⟩ : ∃ b : Bool, decide (walkE q (backL [x]) = 0) = b := ⟨_, rfl⟩
              rw [hok] at hr
              have HOK := Lib.hid hok
              have HRU := Lib.hid hr
              clear hr hn1 hn2 hx hxs hone hca hA e2 hud hqn hok hcl
              go_wp2_with fail
              refine HRU.out.mono ?_
              rintro e w4 ⟨pv, rfl, hp, hb⟩
              have HP4 := Lib.hid hp
              have HB4 := Lib.hid (hbr.trans (hb.mono hbs))
              clear hp hb HRU c0
              cases ok with
              | false =>
                have HF := Lib.hid (past_none (fl := fl) HR.out HT.out HFS.out (HX.out.2 (by simpa using HOK.out)))
                go_wp2
                go_ret2
                exact ⟨.slice none 0 0, by rw [← HE.out.1, HF.out.1]; rfl, by rw [← HE.out.2, HF.out.2]; exact PV.nil _, HB2.out.trans (HB4.out.mono HB2.out.size)⟩
              | true =>
                have HNX := Lib.hid (HX.out.1 (by simpa using HOK.out))
                go_wp2
                go_roundw
                case rel => exact ⟨k + 1, walkA q (backL [x]), (i : Int) - 1, by go_num, by omega, by omega, HP4.out, by rw [show n - (k + 1) = i from by omega]; exact HNX.out, HB4.out⟩
                case measure => simp [intOf]
            · have HF := Lib.hid (pastE_is (fl := fl) HR.out HT.out HFS.out (hud.stop HT.out hil (by omega)))
              rw [hx] at c0 hsq
              obtain ⟨xs, hxs⟩ : ∃ q, x.seq = q := ⟨_, rfl⟩
              rw [hxs] at c0 hsq
              clear hx hxs hone hca hA e2 hud hqn hcl
              go_wp2
              go_ret2
              exact ⟨_, by rw [← HE.out.1, HF.out.1]; rfl, by rw [← HE.out.2, HF.out.2]; exact HQ.out, HB2.out.trans (hbr.mono HB2.out.size)⟩
          · obtain rfl : k = n := by omega
            obtain rfl : z = -1 := by omega
            have hud := HUD.out
            rw [Nat.sub_self] at hud
            have HF := Lib.hid (pastE_is (fl := fl) HR.out HT.out HFS.out hud.done)
            clear hud
            go_wp2
            go_ret2
            exact ⟨_, by rw [← HE.out.1, HF.out.1]; rfl, by rw [← HE.out.2, HF.out.2]; exact HQ.out, HB2.out.trans (hbr.mono HB2.out.size)⟩

end Go.Proofs.Ytgpjbajfkagdbaa

namespace Go.Proofs.Ytgpjbajfkagdbaa
open Go.RowKit

set_option maxRecDepth 100000 in
set_option maxHeartbeats 4000000 in
theorem dpage_v {v u : Value} {l : List Pr} {t : List Ch} (fl s m : Int) (r : Rng) {w : World} (hv : PV w v l) (hu : CV w u t) (hn : l.length + t.length ≤ 900) :
    Calls Try.prog 14 #[v, u, .int .i64 fl, .int .i64 s, .int .i64 m, .agg #[.string r.lo, .string r.hi, .bool r.op]] w fun e w' => ∃ v', e = .returned (.tuple #[v', .bool (moreB r m (pastL l t fl s)), .int .i64 (pastE l t fl s)]) ∧ PV w' v' (pageL r m (pastL l t fl s)) ∧ Below w.heap.size w w' := by
  obtain ⟨i0, hi0, hz0, hz1, hz2⟩ := info_parts pair_info
  obtain ⟨lo, hi, op⟩ := r
  simp only
  obtain ⟨wa, hwa⟩ : ∃ q, q = w.alloc (.cells #[.string lo, .string hi, .bool op] 25) := ⟨_, rfl⟩
  obtain ⟨ga, hga⟩ : ∃ q, q = w.heap.size := ⟨_, rfl⟩
  have hba : Below w.heap.size w wa := by rw [hwa]; exact (Below.refl _ _).alloc (Nat.le_refl _) _
  have HBX := Lib.hid (show Box wa ga 25 #[.string lo, .string hi, .bool op] from by rw [hwa]; exact Box.at_ _ _ _ hga)
  have hr := dpast_v fl s (hv.on hba) (hu.on hba) hn
  have hnl := past_len l t fl s
  have hno : pastE l t fl s ≠ 0 → pastL l t fl s = [] := past_no
  obtain ⟨E, hE⟩ : ∃ E, pastE l t fl s = E := ⟨_, rfl⟩
  obtain ⟨P, hP⟩ : ∃ P, pastL l t fl s = P := ⟨_, rfl⟩
  rw [hE, hP] at hr hno
  rw [hP] at hnl
  rw [hE, hP]
  obtain ⟨Q, hQ⟩ : ∃ q, pageL ⟨lo, hi, op⟩ m P = q := ⟨_, rfl⟩
  obtain ⟨M, hM⟩ : ∃ q, moreB ⟨lo, hi, op⟩ m P = q := ⟨_, rfl⟩
  rw [hQ, hM]
  have HQ := Lib.hid (And.intro hQ hM)
  have HN := Lib.hid (show P.length ≤ 900 from by omega)
  have HNO := Lib.hid hno
  have HC := Lib.hid hr
  have HBA := Lib.hid hba
  have HWA := Lib.hid (And.intro hwa hga)
  clear hr hnl hno hE hP hv hu hn hba hwa hga hQ hM
  go_enter Try.func14, Try.ntmps14
  go_wp2_with fail
  rw [← HWA.out.1]
  refine HC.out.mono ?_
  rintro e w1 ⟨pv, rfl, hp, hb⟩
  have HB1 := Lib.hid (HBA.out.trans (hb.mono HBA.out.size))
  have hx := HBX.out.on hb
  have c0 : w1.cell? ⟨ga, 0, none⟩ = some (.string lo) := hx.cell 0 rfl
  have c1 : w1.cell? ⟨ga, 1, none⟩ = some (.string hi) := hx.cell 1 rfl
  have c2 : w1.cell? ⟨ga, 2, none⟩ = some (.bool op) := hx.cell 2 rfl
  rw [← HWA.out.2]
  have HP1 := Lib.hid hp
  clear hb hp HC hx
  by_cases h0 : E = 0
  case neg =>
    have hP := HNO.out h0
    subst hP
    have hq := HQ.out
    rw [(page_empty ⟨lo, hi, op⟩ m).1, (page_empty ⟨lo, hi, op⟩ m).2] at hq
    obtain ⟨rfl, rfl⟩ := hq
    go_wp2
    exact bodyPost_ret (v := .tuple #[.slice none 0 0, .bool false, .int .i64 E]) (by simp [results, Try.results14, go_sem]) rfl ⟨_, rfl, PV.nil _, HB1.out⟩
  subst h0
  have hr := rpick_v ⟨lo, hi, op⟩ HP1.out (by have := HN.out; omega)
  go_wp2_with fail
  refine hr.mono ?_
  clear hr
  rintro e w2 ⟨kv, rfl, hk, hb⟩
  have HB2 := Lib.hid (HB1.out.trans (hb.mono HB1.out.size))
  obtain ⟨KA, kc, rfl⟩ : ∃ A c, kv = .slice A (pickL ⟨lo, hi, op⟩ P).length c := by obtain ⟨A, c, e, _⟩ := hk; exact ⟨A, c, e⟩
  obtain ⟨K, hK⟩ : ∃ K, pickL ⟨lo, hi, op⟩ P = K := ⟨_, rfl⟩
  have hkn : K.length ≤ 900 := by
    rw [← hK]
    exact Nat.le_trans (List.length_filter_le _ _) HN.out
  have hq := HQ.out
  unfold moreB pageL at hq
  rw [hK] at hk hq
  obtain ⟨n, hn⟩ : ∃ n, K.length = n := ⟨_, rfl⟩
  rw [hn] at hkn hq
  rw [hK, hn]
  have HKA := Lib.hid (show Prs w2 w2.heap.size KA K from by
    obtain ⟨A', c', e', hA, _⟩ := hk
    injection e' with e1 e2 e3
    rw [e1]; exact hA)
  have HKN := Lib.hid hn
  have HQ2 := Lib.hid hq
  clear hk hb hK hn hq c0 c1 c2
  go_wp2
  go_loopw [17, 19] (fun ov iv wr => ∃ (k : Nat), iv = .int .i64 k ∧ k ≤ n ∧ k ≤ m.toNat ∧ Hid (wr.ownsRow w2.heap.size 41 2 ov k ((K.take k).flatMap Pr.cells)) ∧ Below w2.heap.size w2 wr) (fun _ iv _ => (n - intOf iv).toNat)
  case atStart => exact ⟨0, rfl, by omega, by omega, by show World.ownsRow _ _ _ _ _ _ _; exact World.ownsRow_nil _ _ _ _, Below.refl _ _⟩
  case round =>
    obtain ⟨k, rfl, hk, hkm, HO, hbr⟩ := hrel
    obtain ⟨A2, c2, rfl⟩ := own_shape HO.out
    have hbs := hbr.size
    by_cases hlt : k < n
    · by_cases hm : (k : Int) < m
      · have hkl : k < K.length := by rw [HKN.out]; exact hlt
        obtain ⟨ad, rfl, hab, hca⟩ := (HKA.out.below hbr).seeP (by rw [HKN.out]; omega)
        obtain ⟨x1, x2⟩ := hca k hkl
        have HT := Lib.hid (List.take_succ_eq_append_getElem hkl)
        obtain ⟨x, hx⟩ : ∃ x, x = K[k]'hkl := ⟨_, rfl⟩
        rw [← hx] at x1 x2 HT
        clear hx hca
        obtain ⟨xk, xv⟩ := x
        simp only at x1 x2
        have hown := HO.out
        go_wp2_with (at_builtin; refine wpList_append_own _ rfl _ _ 22 rfl w2.heap.size 41 i0 (.agg #[.string ⟨#[]⟩, .string ⟨#[]⟩]) 2 32 Try.underlying22 hi0 hz0 hz1 hz2 rfl (by decide) _ _ _ rfl (hown.alloc _) ⟨wr.heap.size, 0, none⟩ 1 1 [.string xk, .string xv] rfl rfl ?c1 ?c2 ?c3 ?c4 ?c5 ?_)
        case c1 =>
          intro j u hj
          match j, hj with
          | 0, hj => simp at hj; subst hj; simp [Addr.add]
          | 1, hj => simp at hj; subst hj; simp [Addr.add]
        case c2 => first | exact ⟨rfl, rfl⟩ | (intro u hu; simp at hu; rcases hu with rfl | rfl <;> rfl)
        case c3 => unfold maxLen; omega
        case c4 => omega
        case c5 => first | omega | (simp; omega)
        intro v' w4 hown2 hg2 _
        have hbr2 : Below w2.heap.size w2 w4 := (hbr.alloc hbs _).grown hg2 (by simp; omega) (fun k hk => (hown.lt k hk).1)
        have HO2 := Lib.hid hown2
        clear hown hown2 hg2 x1 x2
        go_wp2
        go_roundw
        case rel => exact ⟨k + 1, by first | rfl | go_num, by omega, by omega, by show World.ownsRow _ _ _ _ _ _ _; rw [HT.out, List.flatMap_append]; simpa [Pr.cells] using HO2.out, hbr2⟩
        case measure => simp [intOf]; omega
      · have hke : k = m.toNat := by omega
        have HD := Lib.hid (show Q = K.take k ∧ M = true from ⟨by rw [← HQ2.out.1, hke], by rw [← HQ2.out.2, ← hke]; exact decide_eq_true hlt⟩)
        clear hke
        go_wp2
        exact bodyPost_ret (v := .tuple #[.slice A2 k c2, .bool true, .int .i64 0]) (by simp [results, Try.results14, go_sem]) rfl ⟨_, by rw [HD.out.2], by rw [HD.out.1]; exact PV.own HO.out (by rw [List.length_take, HKN.out]; omega), HB2.out.trans (hbr.mono HB2.out.size)⟩
    · have HD := Lib.hid (show Q = K.take k ∧ M = false from ⟨by rw [← HQ2.out.1, List.take_of_length_le (by rw [HKN.out]; omega), List.take_of_length_le (by rw [HKN.out]; omega)], by rw [← HQ2.out.2, decide_eq_false (by omega)]⟩)
      have HKK := Lib.hid hk
      go_wp2
      exact bodyPost_ret (v := .tuple #[.slice A2 k c2, .bool false, .int .i64 0]) (by simp [results, Try.results14, go_sem]) rfl ⟨_, by rw [HD.out.2], by rw [HD.out.1]; exact PV.own HO.out (by rw [List.length_take, HKN.out]; have := HKK.out; omega), HB2.out.trans (hbr.mono HB2.out.size)⟩

end Go.Proofs.Ytgpjbajfkagdbaa
