/- The walk of the law PendMost. -/
import Derived.Test.YtaboccbakicmhaaLSplits
set_option linter.unusedVariables false
set_option linter.unusedSimpArgs false
namespace Go.Proofs.Ytaboccbakicmhaa
open Go.RowKit

theorem splitA_flat {l : List Nt} {lows : List ByteArray} (h : splitA l lows ≠ []) : (splitA l lows).flatten = l := by
  cases hw : wellN l with
  | false => exact absurd (splitA_no (.inl hw)) h
  | true =>
    cases hr : risesS lows with
    | false => exact absurd (splitA_no (.inr (.inl hr))) h
    | true =>
      by_cases h0 : lows.length = 0
      · exact absurd (splitA_no (.inr (.inr h0))) h
      · rw [splitA_yes hw hr]
        exact split_flat (wellN_sorted hw) (by omega)

set_option maxHeartbeats 8000000 in
set_option maxRecDepth 100000 in
theorem most_walk (v : Value) (l : List Nt) (B0 : Option Addr) (d0 : Nat) (lows : List ByteArray) (w0 : World) (hP : NV w0 v l) (hS : Strs w0 w0.heap.size B0 lows) (hn : l.length ≤ maxLen) :
    Calls Try.prog 8 #[v, .slice B0 lows.length d0] w0 fun e w' => e = .returned (.bool true) ∧ Below w0.heap.size w0 w' := by
  have HP0 := Lib.hid hP
  have HQ0 := Lib.hid (show SSV w0 (.slice B0 lows.length d0) lows from ⟨B0, d0, rfl, hS⟩)
  obtain ⟨A, c, rfl, _, _, _⟩ := hP
  have HB0 := Lib.hid (Below.refl w0.heap.size w0)
  obtain ⟨n, hl⟩ : ∃ n, l.length = n := ⟨_, rfl⟩
  obtain ⟨m, hlm⟩ : ∃ m, lows.length = m := ⟨_, rfl⟩
  rw [hl] at HP0 ⊢
  rw [hlm] at HQ0 ⊢
  have HL := Lib.hid hl
  have HM := Lib.hid hlm
  clear hl hlm hn hS
  go_enter Try.func8, Try.ntmps8
  go_wp2_with fail
  refine (few_v HP0.out).mono ?_
  rintro e w1 ⟨R, rfl, h60, hb⟩
  have HB1 := Lib.hid (HB0.out.trans (hb.mono HB0.out.size))
  have HP1 := Lib.hid (HP0.out.on hb)
  have HQ1 := Lib.hid (HQ0.out.on hb)
  clear hb HB0 HP0 HQ0
  have H60 := Lib.hid h60
  clear h60
  cases R with
  | false =>
    go_wp2_with fail
    refine (awake_true _).mono ?_
    rintro e w9 ⟨rfl, hb9⟩
    have HB9 := Lib.hid (HB1.out.trans (hb9.mono HB1.out.size))
    clear hb9
    go_wp2
    go_ret
    exact ⟨rfl, HB9.out⟩
  | true =>
  have HL60 := Lib.hid (H60.out rfl)
  clear H60
  by_cases hk : m ≤ 20
  case neg =>
    have hd : decide (20 < (m : Int)) = true := by simp; omega
    have hd' : decide (20 < m) = true := by simp; omega
    clear hk
    go_wp2_with fail
    refine (awake_true _).mono ?_
    rintro e w9 ⟨rfl, hb9⟩
    have HB9 := Lib.hid (HB1.out.trans (hb9.mono HB1.out.size))
    clear hb9
    go_wp2
    go_ret
    exact ⟨rfl, HB9.out⟩
  have hd : decide (20 < (m : Int)) = false := by simp; omega
  have hd' : decide (20 < m) = false := by simp; omega
  have HM20 := Lib.hid hk
  clear hk
  obtain ⟨ps, hps⟩ : ∃ ps, ps = splitA l lows := ⟨_, rfl⟩
  have C1 := Lib.hid (fun (wx : World) (h : NV wx (.slice A n c) l) (g : SSV wx (.slice B0 m d0) lows) => show Calls Try.prog 17 #[.slice A n c, .slice B0 m d0] wx fun e w' => ∃ v', e = .returned v' ∧ NVV w' v' ps ∧ Below wx.heap.size wx w' from by
    have h := psplit_v h g (by have := HL60.out; omega) (by have := HM.out; have := HM20.out; omega)
    rw [← hps] at h; exact h)
  have C2 := Lib.hid (fun (wx : World) (h : NV wx (.slice A n c) l) (g : SSV wx (.slice B0 m d0) lows) => show Calls Try.prog 18 #[.slice A n c, .slice B0 m d0] wx fun e w' => ∃ b : Nat, e = .returned (.int .i64 b) ∧ ((ps = [] → b = 0) ∧ (ps ≠ [] → MostAt ps b)) ∧ Below wx.heap.size wx w' from by
    refine (pmost_v h g (by have := HL60.out; omega) (by have := HM.out; have := HM20.out; omega)).mono ?_
    rintro e w' ⟨b, h1, h2, h3⟩
    exact ⟨b, h1, ⟨fun h4 => mostA_no h2 (hps.symm.trans h4), fun h4 => by rw [hps]; exact mostA_yes h2 (by rw [← hps]; exact h4)⟩, h3⟩)
  have HFL := Lib.hid (show ps ≠ [] → ps.flatten = l from by rw [hps]; exact splitA_flat)
  have HPL := Lib.hid (show ps.length ≤ m from by
    rw [hps]
    unfold splitA
    split
    · rw [split_len, HM.out]; exact Nat.le_refl _
    · exact Nat.zero_le _)
  clear hps
  go_wp2_with fail
  refine (C1.out _ HP1.out HQ1.out).mono ?_
  rintro e w2 ⟨vs, rfl, hx, hb⟩
  have HS2 := Lib.hid hx
  clear hx
  have HB2 := Lib.hid (HB1.out.trans (hb.mono HB1.out.size))
  have HP2 := Lib.hid (HP1.out.on hb)
  have HQ2 := Lib.hid (HQ1.out.on hb)
  clear hb HB1 HP1 HQ1
  obtain ⟨A1, c1, rfl⟩ := HS2.out.shape
  obtain ⟨k1, hk1⟩ : ∃ k, k = ps.length := ⟨_, rfl⟩
  rw [← hk1] at HS2 ⊢
  have HK1 := Lib.hid hk1
  clear hk1
  go_wp2_with fail
  refine (C2.out _ HP2.out HQ2.out).mono ?_
  rintro e w3 ⟨b, rfl, hx, hb⟩
  have HB3 := Lib.hid (HB2.out.trans (hb.mono HB2.out.size))
  have HP3 := Lib.hid (HP2.out.on hb)
  have HQ3 := Lib.hid (HQ2.out.on hb)
  have HS3 := Lib.hid (HS2.out.on hb)
  clear hb HB2 HP2 HQ2 HS2
  have HBE := Lib.hid hx
  clear hx C1 C2
  by_cases hp0 : ps = []
  · have hk0 : k1 = 0 := by rw [HK1.out, hp0]; rfl
    obtain rfl : b = 0 := HBE.out.1 hp0
    subst hk0
    clear hp0
    go_wp2_with fail
    refine (awake_true _).mono ?_
    rintro e w9 ⟨rfl, hb9⟩
    have HB9 := Lib.hid (HB3.out.trans (hb9.mono HB3.out.size))
    clear hb9
    go_wp2
    go_ret
    exact ⟨rfl, HB9.out⟩
  have hfl := HFL.out hp0
  have hmo := HBE.out.2 hp0
  have hkn : k1 ≠ 0 := by rw [HK1.out]; exact fun h => hp0 (List.length_eq_zero_iff.1 h)
  have hbk : b < k1 := by rw [HK1.out]; exact hmo.1
  have hz0 : ((k1 : Int) == 0) = false := by simp; omega
  have hz1 : decide ((b : Int) < 0) = false := decide_eq_false (by omega)
  have hz2 : decide ((k1 : Int) ≤ (b : Int)) = false := decide_eq_false (by omega)
  have hz3 : decide (k1 ≤ b) = false := decide_eq_false (by omega)
  have HMO := Lib.hid hmo
  have HBK := Lib.hid hbk
  have HT := Lib.hid (show ∀ i, (ps.take i).flatten.length ≤ 60 from fun i => by
    have h1 : (ps.take i).flatten ++ (ps.drop i).flatten = l := by rw [← List.flatten_append, List.take_append_drop]; exact hfl
    have h2 := congrArg List.length h1
    rw [List.length_append] at h2
    have h3 := HL60.out
    omega)
  have HFF := Lib.hid hfl
  have hk20 : k1 ≤ 20 := by have := HPL.out; have := HM20.out; have := HK1.out; omega
  clear hfl hmo hkn hp0 HFL HBE hbk
  go_wp2
  go_loopw [7, 43] (fun v7 vi wr => ∃ (i k : Nat), vi = .int .i64 i ∧ i ≤ k1 ∧ Hid (wr.ownsRow w3.heap.size 32 4 v7 k ((ps.take i).flatten.flatMap Nt.cells)) ∧ Hid (k = (ps.take i).flatten.length) ∧ Below w3.heap.size w3 wr) (fun _ vi _ => (k1 - intOf vi).toNat)
  case atStart => exact ⟨0, 0, rfl, by omega, by show World.ownsRow _ _ _ _ _ _ _; exact World.ownsRow_nil _ _ _ _, by show _ = _; simp, Below.refl _ _⟩
  case round =>
    obtain ⟨i, k, rfl, hi, HO, HK, hbr⟩ := hrel
    by_cases hlt : i < k1
    · have hip : i < ps.length := by have := HK1.out; omega
      have hbp : b < ps.length := by have := HK1.out; have := HBK.out; omega
      have hbs := hbr.size
      have hst : (ps.take (i + 1)).flatten = (ps.take i).flatten ++ ps[i] := by rw [List.take_succ_eq_append_getElem hip, List.flatten_append]; simp
      have hstl := congrArg List.length hst
      rw [List.length_append] at hstl
      obtain ⟨ad, B1, d1, rfl, hab, hc1, hp1⟩ := (HS3.out.on hbr).at_ hip
      obtain ⟨ad', B2, d2, e2, hab2, hc2, _⟩ := (HS3.out.on hbr).at_ hbp
      injection e2 with e2
      subst e2
      have hmi := HMO.out.2 i hip
      obtain ⟨B1', d1', e1, hr1, _, hz⟩ := hp1
      injection e1 with e1 e2 e3
      subst e1 e3
      obtain ⟨q, hq⟩ : ∃ q, q = ps[i]'hip := ⟨_, rfl⟩
      rw [← hq] at hr1 hst hstl
      obtain ⟨a1, ha1⟩ : ∃ a, a = (ps[i]'hip).length := ⟨_, rfl⟩
      obtain ⟨a2, ha2⟩ : ∃ a, a = (ps[b]'hbp).length := ⟨_, rfl⟩
      rw [← ha1] at hc1 hmi
      rw [← ha2] at hc2 hmi
      have hqa : q.length = a1 := by rw [hq, ha1]
      have HST := Lib.hid hst
      have HQA := Lib.hid hqa
      have hsum : k + a1 ≤ 1000 := by have h1 := HT.out (i + 1); have h2 := HK.out; omega
      have hz4 : decide (a2 < a1) = false := decide_eq_false (by omega)
      have hz5 : decide ((a2 : Int) < (a1 : Int)) = false := decide_eq_false (by omega)
      have HR1 := Lib.hid hr1
      have HZ1 := Lib.hid hz
      have hownA := HO.out
      have HRES := Lib.hid (show ∀ (v' : Value) (wz : World), wz.ownsRow w3.heap.size 32 4 v' (k + a1) ((ps.take i).flatten.flatMap Nt.cells ++ q.flatMap Nt.cells) → wz.ownsRow w3.heap.size 32 4 v' (k + a1) ((ps.take (i + 1)).flatten.flatMap Nt.cells) from fun v' wz h => by rw [HST.out, List.flatMap_append]; exact h)
      have HKS := Lib.hid (show k + a1 = (ps.take (i + 1)).flatten.length from by have h2 := HK.out; omega)
      have HMI := Lib.hid hmi.2
      have hie : a1 = a2 → ¬ i < b := fun h1 h2 => by have := hmi.2 h2; omega
      have HIE := Lib.hid hie
      clear hq ha1 ha2 hqa hst hstl hmi e2 hie hr1 hz
      by_cases heq : a1 = a2
      · have hnb := HIE.out heq
        subst heq
        have hz6 : decide (i < b) = false := decide_eq_false hnb
        have hz7 : decide ((i : Int) < (b : Int)) = false := decide_eq_false (by omega)
        have hz8 : ((a1 : Int) == (a1 : Int)) = true := by simp
        clear hnb
        go_wp2_with (at_builtin; refine append_nts _ rfl _ _ rfl w3.heap.size _ k ((ps.take i).flatten.flatMap Nt.cells) rfl hownA _ B1 a1 d1 q rfl HQA.out HR1.out HZ1.out ?a2 hbs ?_)
        case a2 => omega
        intro v6 wf hown2 hg2
        have hk2 : ∀ k, Value.ownBlock _ = some k → w3.heap.size ≤ k := fun k hk => (own_lt hownA hk).1
        have hbf : Below w3.heap.size w3 wf := hbr.grown hg2 hbs hk2
        have HBF := Lib.hid hbf
        have HOF := Lib.hid (HRES.out _ _ hown2)
        clear hown2 hg2 hk2 hownA hc1 hc2 hab hab2 hbf hbr HO
        go_wp2
        go_roundw
        case rel => exact ⟨i + 1, k + a1, by first | rfl | go_num, by omega, HOF, HKS, HBF.out⟩
        case measure => simp [intOf]; omega
      · have hz6 : ((a1 : Int) == (a2 : Int)) = false := by simp; omega
        clear heq
        go_wp2_with (at_builtin; refine append_nts _ rfl _ _ rfl w3.heap.size _ k ((ps.take i).flatten.flatMap Nt.cells) rfl hownA _ B1 a1 d1 q rfl HQA.out HR1.out HZ1.out ?a2 hbs ?_)
        case a2 => omega
        intro v6 wf hown2 hg2
        have hk2 : ∀ k, Value.ownBlock _ = some k → w3.heap.size ≤ k := fun k hk => (own_lt hownA hk).1
        have hbf : Below w3.heap.size w3 wf := hbr.grown hg2 hbs hk2
        have HBF := Lib.hid hbf
        have HOF := Lib.hid (HRES.out _ _ hown2)
        clear hown2 hg2 hk2 hownA hc1 hc2 hab hab2 hbf hbr HO
        go_wp2
        go_roundw
        case rel => exact ⟨i + 1, k + a1, by first | rfl | go_num, by omega, HOF, HKS, HBF.out⟩
        case measure => simp [intOf]; omega
    · have hin : i = k1 := by omega
      have hpt : (ps.take i).flatten = l := by rw [List.take_of_length_le (by have := HK1.out; omega)]; exact HFF.out
      have HNV := Lib.hid (show NV wr u7 l from by
        have h1 := HO.out
        have h2 := HK.out
        rw [hpt] at h1 h2
        exact NV.own h1 h2)
      have hpr := HP3.out.on hbr
      have HPR := Lib.hid hpr
      clear HO HK hpt hin hpr
      obtain ⟨wr', hwr⟩ : ∃ wx, wx = wr := ⟨_, rfl⟩
      rw [← hwr] at hbr HNV HPR ⊢
      clear hwr
      have HBq := Lib.hid (HB3.out.trans (hbr.mono HB3.out.size))
      clear hbr HB3
      have ca := dsame_v HNV.out HPR.out (by have := HL60.out; unfold maxLen; omega)
      rw [decide_eq_true rfl] at ca
      go_wp2_with fail
      refine ca.mono ?_
      clear ca HNV HPR
      rintro e wz ⟨rfl, hbz⟩
      have HBz := Lib.hid (HBq.out.trans (hbz.mono HBq.out.size))
      clear hbz
      go_wp2_with fail
      refine (awake_true _).mono ?_
      rintro e w9 ⟨rfl, hb9⟩
      have HB9 := Lib.hid (HBz.out.trans (hb9.mono HBz.out.size))
      clear hb9
      go_wp2
      go_ret
      exact ⟨rfl, HB9.out⟩

end Go.Proofs.Ytaboccbakicmhaa
