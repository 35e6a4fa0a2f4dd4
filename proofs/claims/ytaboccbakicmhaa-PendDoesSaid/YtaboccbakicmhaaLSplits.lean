/- The walk of the law PendSplits. -/
import Derived.Test.YtaboccbakicmhaaFct
set_option linter.unusedVariables false
set_option linter.unusedSimpArgs false
namespace Go.Proofs.Ytaboccbakicmhaa
open Go.RowKit

/-- What a law sees of a slice of slices of notes at one place. -/
theorem NVV.at_ {w : World} {A : Option Addr} {c n : Nat} {ps : List (List Nt)} (h : NVV w (.slice A n c) ps) {i : Nat} (hi : i < ps.length) : ∃ (ad : Addr) (B : Option Addr) (d : Nat), A = some ad ∧ ad.block < w.heap.size ∧ w.cell? (ad.add i) = some (.slice B ps[i].length d) ∧ NV w (.slice B ps[i].length d) ps[i] := by
  obtain ⟨A', c', e, hp⟩ := h.part
  injection e with e1 e2 e3
  subst e1
  obtain ⟨ad, u, rfl, h1, h2, h3⟩ := hp i hi
  obtain ⟨B, d, rfl⟩ := h3.shape
  exact ⟨ad, B, d, rfl, h1, h2, h3⟩

set_option maxHeartbeats 8000000 in
set_option maxRecDepth 100000 in
theorem splits_walk (v : Value) (l : List Nt) (B0 : Option Addr) (d0 : Nat) (lows : List ByteArray) (w0 : World) (hP : NV w0 v l) (hS : Strs w0 w0.heap.size B0 lows) (hn : l.length ≤ maxLen) (hm : lows.length ≤ maxLen) :
    Calls Try.prog 4 #[v, .slice B0 lows.length d0] w0 fun e w' => e = .returned (.bool true) ∧ Below w0.heap.size w0 w' := by
  have HP0 := Lib.hid hP
  have HQ0 := Lib.hid (show SSV w0 (.slice B0 lows.length d0) lows from ⟨B0, d0, rfl, hS⟩)
  obtain ⟨A, c, rfl, _, _, _⟩ := hP
  have HN := Lib.hid hn
  have HMX := Lib.hid hm
  have HB0 := Lib.hid (Below.refl w0.heap.size w0)
  obtain ⟨n, hl⟩ : ∃ n, l.length = n := ⟨_, rfl⟩
  obtain ⟨m, hlm⟩ : ∃ m, lows.length = m := ⟨_, rfl⟩
  rw [hl] at HP0 ⊢
  rw [hlm] at HQ0 ⊢
  have HL := Lib.hid hl
  have HM := Lib.hid hlm
  clear hl hlm hn hm hS
  go_enter Try.func4, Try.ntmps4
  go_wp2_with fail
  refine (few_v HP0.out).mono ?_
  rintro e w1 ⟨R, rfl, h60, hb⟩
  have HB1 := Lib.hid (HB0.out.trans (hb.mono HB0.out.size))
  have HP1 := Lib.hid (HP0.out.on hb)
  have HQ1 := Lib.hid (HQ0.out.on hb)
  clear hb HB0 HP0 HQ0
  have H60 := Lib.hid h60
  clear h60
  cases R with
  | false =>
    go_wp2_with fail
    refine (awake_true _).mono ?_
    rintro e w9 ⟨rfl, hb9⟩
    have HB9 := Lib.hid (HB1.out.trans (hb9.mono HB1.out.size))
    clear hb9
    go_wp2
    go_ret
    exact ⟨rfl, HB9.out⟩
  | true =>
  have HL60 := Lib.hid (H60.out rfl)
  clear H60
  by_cases hk : m ≤ 20
  case neg =>
    have hd : decide (20 < (m : Int)) = true := by simp; omega
    have hd' : decide (20 < m) = true := by simp; omega
    clear hk
    go_wp2_with fail
    refine (awake_true _).mono ?_
    rintro e w9 ⟨rfl, hb9⟩
    have HB9 := Lib.hid (HB1.out.trans (hb9.mono HB1.out.size))
    clear hb9
    go_wp2
    go_ret
    exact ⟨rfl, HB9.out⟩
  have hd : decide (20 < (m : Int)) = false := by simp; omega
  have hd' : decide (20 < m) = false := by simp; omega
  have HM20 := Lib.hid hk
  clear hk
  obtain ⟨ps, hps⟩ : ∃ ps, ps = splitA l lows := ⟨_, rfl⟩
  have C1 := Lib.hid (fun (wx : World) (h : NV wx (.slice A n c) l) (g : SSV wx (.slice B0 m d0) lows) => show Calls Try.prog 17 #[.slice A n c, .slice B0 m d0] wx fun e w' => ∃ v', e = .returned v' ∧ NVV w' v' ps ∧ Below wx.heap.size wx w' from by
    have h := psplit_v h g (by have := HL60.out; omega) (by have := HM.out; have := HM20.out; omega)
    rw [← hps] at h; exact h)
  have C2 := Lib.hid (fun (wx : World) (h : NV wx (.slice A n c) l) (g : SSV wx (.slice B0 m d0) lows) => show Calls Try.prog 18 #[.slice A n c, .slice B0 m d0] wx fun e w' => ∃ b : Nat, e = .returned (.int .i64 b) ∧ ((ps = [] → b = 0) ∧ (ps ≠ [] → MostAt ps b)) ∧ Below wx.heap.size wx w' from by
    refine (pmost_v h g (by have := HL60.out; omega) (by have := HM.out; have := HM20.out; omega)).mono ?_
    rintro e w' ⟨b, h1, h2, h3⟩
    exact ⟨b, h1, ⟨fun h4 => mostA_no h2 (hps.symm.trans h4), fun h4 => by rw [hps]; exact mostA_yes h2 (by rw [← hps]; exact h4)⟩, h3⟩)
  obtain ⟨W, hW⟩ : ∃ W, wellN l = W := ⟨_, rfl⟩
  obtain ⟨R, hR⟩ : ∃ R, risesS lows = R := ⟨_, rfl⟩
  have CR := Lib.hid (fun (wx : World) (h : NV wx (.slice A n c) l) => show Calls Try.prog 14 #[.slice A n c] wx fun e w' => e = .returned (.bool W) ∧ Below wx.heap.size wx w' from by
    have h1 := dwell_v h HN.out
    rw [hW] at h1; exact h1)
  have CS := Lib.hid (fun (wx : World) (h : SSV wx (.slice B0 m d0) lows) => show Calls Try.prog 19 #[.slice B0 m d0] wx fun e w' => e = .returned (.bool R) ∧ Below wx.heap.size wx w' from by
    have h1 := drises_v h HMX.out
    rw [hR] at h1; exact h1)
  have HNO := Lib.hid (show W = false ∨ R = false ∨ m = 0 → ps = [] from fun h => by
    rw [hps]
    refine splitA_no ?_
    rcases h with h | h | h
    · exact .inl (hW.trans h)
    · exact .inr (.inl (hR.trans h))
    · exact .inr (.inr (HM.out.trans h)))
  have HYES := Lib.hid (show W = true → R = true → ps = splitL l lows from fun h1 h2 => by rw [hps]; exact splitA_yes (hW.trans h1) (hR.trans h2))
  clear hps hW hR
  go_wp2_with fail
  refine (C1.out _ HP1.out HQ1.out).mono ?_
  rintro e w2 ⟨vs, rfl, hx, hb⟩
  have HS2 := Lib.hid hx
  clear hx
  have HB2 := Lib.hid (HB1.out.trans (hb.mono HB1.out.size))
  have HP2 := Lib.hid (HP1.out.on hb)
  have HQ2 := Lib.hid (HQ1.out.on hb)
  clear hb HB1 HP1 HQ1
  obtain ⟨A1, c1, rfl⟩ := HS2.out.shape
  obtain ⟨k1, hk1⟩ : ∃ k, k = ps.length := ⟨_, rfl⟩
  rw [← hk1] at HS2 ⊢
  have HK1 := Lib.hid hk1
  clear hk1
  go_wp2_with fail
  refine (C2.out _ HP2.out HQ2.out).mono ?_
  rintro e w3 ⟨b, rfl, hx, hb⟩
  have HB3 := Lib.hid (HB2.out.trans (hb.mono HB2.out.size))
  have HP3 := Lib.hid (HP2.out.on hb)
  have HQ3 := Lib.hid (HQ2.out.on hb)
  have HS3 := Lib.hid (HS2.out.on hb)
  clear hb HB2 HP2 HQ2 HS2
  have HBE := Lib.hid hx
  clear hx C1 C2
  go_wp2_with fail
  refine (CR.out _ HP3.out).mono ?_
  clear CR
  rintro e w4 ⟨rfl, hb⟩
  have HB4 := Lib.hid (HB3.out.trans (hb.mono HB3.out.size))
  have HP4 := Lib.hid (HP3.out.on hb)
  have HQ4 := Lib.hid (HQ3.out.on hb)
  have HS4 := Lib.hid (HS3.out.on hb)
  clear hb HB3 HP3 HQ3 HS3
  cases W with
  | false =>
    obtain rfl : ps = [] := HNO.out (.inl (by first | rfl | trivial))
    obtain rfl : b = 0 := HBE.out.1 rfl
    obtain rfl : k1 = 0 := HK1.out
    go_wp2_with fail
    refine (awake_true _).mono ?_
    rintro e w9 ⟨rfl, hb9⟩
    have HB9 := Lib.hid (HB4.out.trans (hb9.mono HB4.out.size))
    clear hb9
    go_wp2
    go_ret
    exact ⟨rfl, HB9.out⟩
  | true =>
  go_wp2_with fail
  refine (CS.out _ HQ4.out).mono ?_
  clear CS
  rintro e w5 ⟨rfl, hb⟩
  have HB5 := Lib.hid (HB4.out.trans (hb.mono HB4.out.size))
  have HP5 := Lib.hid (HP4.out.on hb)
  have HQ5 := Lib.hid (HQ4.out.on hb)
  have HS5 := Lib.hid (HS4.out.on hb)
  clear hb HB4 HP4 HQ4 HS4
  cases R with
  | false =>
    obtain rfl : ps = [] := HNO.out (.inr (.inl (by first | rfl | trivial)))
    obtain rfl : b = 0 := HBE.out.1 rfl
    obtain rfl : k1 = 0 := HK1.out
    go_wp2_with fail
    refine (awake_true _).mono ?_
    rintro e w9 ⟨rfl, hb9⟩
    have HB9 := Lib.hid (HB5.out.trans (hb9.mono HB5.out.size))
    clear hb9
    go_wp2
    go_ret
    exact ⟨rfl, HB9.out⟩
  | true =>
  by_cases hm0 : m = 0
  · subst hm0
    obtain rfl : ps = [] := HNO.out (.inr (.inr rfl))
    obtain rfl : b = 0 := HBE.out.1 rfl
    obtain rfl : k1 = 0 := HK1.out
    go_wp2_with fail
    refine (awake_true _).mono ?_
    rintro e w9 ⟨rfl, hb9⟩
    have HB9 := Lib.hid (HB5.out.trans (hb9.mono HB5.out.size))
    clear hb9
    go_wp2
    go_ret
    exact ⟨rfl, HB9.out⟩
  have hz0 : ((m : Int) == 0) = false := by simp; omega
  have hps := HYES.out (by first | rfl | trivial) (by first | rfl | trivial)
  have hlen : ps.length = m := by rw [hps, split_len, HM.out]
  obtain rfl : k1 = m := HK1.out.trans hlen
  have HLEN := Lib.hid hlen
  have HMOST := Lib.hid (HBE.out.2 (fun h => by rw [h] at hlen; simp at hlen; omega))
  have HPS := Lib.hid (show ∀ (i : Nat) (h : i < ps.length), ps[i] = partF l lows i from fun i h => by subst hps; exact split_at h)
  have HSZ := Lib.hid (show ∀ (i : Nat) (h : i < ps.length), ps[i].length ≤ 60 from fun i h => by
    rw [HPS.out i h]
    have h1 := List.length_filter_le (fun n : Nt => decide (partN' n.key lows = i)) l
    have h2 := HL60.out
    unfold partF; omega)
  have HM0 := Lib.hid (show MostTo ps 0 0 from most_zero (by rw [hlen]; omega))
  have CP := Lib.hid (fun (wx : World) (h : NV wx (.slice A n c) l) (g : SSV wx (.slice B0 k1 d0) lows) (i : Nat) => show Calls Try.prog 20 #[.slice A n c, .slice B0 k1 d0, .int .i64 i] wx fun e w' => ∃ v', e = .returned v' ∧ NV w' v' (partF l lows i) ∧ Below wx.heap.size wx w' from
    dsplit_v h g i (by have := HL60.out; omega) HMX.out)
  have hkk : ((k1 : Int) != (k1 : Int)) = false := by simp
  have hm20 : k1 ≤ 20 := HM20.out
  clear hps hlen hm0 HNO HYES HBE
  go_wp2
  go_loopw [7, 55] (fun v7 vi wr => ∃ (i q : Nat), vi = .int .i64 i ∧ i ≤ k1 ∧ v7 = .int .i64 q ∧ Hid (MostTo ps i q) ∧ Below w5.heap.size w5 wr) (fun _ vi _ => (k1 - intOf vi).toNat)
  case atStart => exact ⟨0, 0, rfl, by omega, rfl, HM0, Below.refl _ _⟩
  case round =>
    obtain ⟨i, q, rfl, hi, rfl, HMT, hbr⟩ := hrel
    by_cases hlt : i < k1
    · have hip : i < ps.length := by rw [HLEN.out]; exact hlt
      have hqp : q < ps.length := HMT.out.1
      have hqk : q < k1 := by have := HLEN.out; omega
      obtain ⟨wr', hwr⟩ : ∃ wx, wx = wr := ⟨_, rfl⟩
      rw [← hwr] at hbr ⊢
      have HBRR := Lib.hid hbr
      clear hwr
      obtain ⟨ad, B1, d1, rfl, hab, hc1, hp1⟩ := (HS5.out.on hbr).at_ hip
      have HP1 := Lib.hid hp1
      obtain ⟨a1, ha1⟩ : ∃ a, a = (ps[i]'hip).length := ⟨_, rfl⟩
      rw [← ha1] at hc1 HP1
      have HST := Lib.hid (most_step HMT.out hip)
      have ca := CP.out wr' (HP5.out.on hbr) (HQ5.out.on hbr) i
      have HA1 := Lib.hid ha1
      have HLTI := Lib.hid hlt
      clear ha1 hp1
      go_wp2_with fail
      refine ca.mono ?_
      clear ca hc1 hab
      rintro e w7 ⟨v7, rfl, hv7, hb7⟩
      have hbr7 := HBRR.out.trans (hb7.mono HBRR.out.size)
      have cb := dsame_v (HP1.out.on hb7) hv7 (by have := HSZ.out i hip; unfold maxLen; omega)
      rw [decide_eq_true (HPS.out i hip)] at cb
      have HB7 := Lib.hid hbr7
      clear hb7 hbr7 hv7 hbr
      go_wp2_with fail
      refine cb.mono ?_
      clear cb
      rintro e w8 ⟨rfl, hb8⟩
      have hbr8 := HB7.out.trans (hb8.mono HB7.out.size)
      have HB8 := Lib.hid hbr8
      obtain ⟨ad', B2, d2, e2, hab2, hc2, _⟩ := (HS5.out.on hbr8).at_ hqp
      injection e2 with e2
      subst e2
      obtain ⟨a2, ha2⟩ : ∃ a, a = (ps[q]'hqp).length := ⟨_, rfl⟩
      rw [← ha2] at hc2
      have HST2 := Lib.hid (show (a2 < a1 ∧ MostTo ps (i + 1) i) ∨ (¬ a2 < a1 ∧ MostTo ps (i + 1) q) from by rw [ha2, HA1.out]; exact HST.out)
      clear ha2 hb8 hbr8 HB7 HST
      rcases HST2.out with ⟨hla, hmt⟩ | ⟨hla, hmt⟩
      · have hd1 : decide (a2 < a1) = true := decide_eq_true hla
        have hd2 : decide ((a2 : Int) < (a1 : Int)) = true := decide_eq_true (by omega)
        have HMT2 := Lib.hid hmt
        clear hla hmt
        go_wp2
        go_roundw
        case rel => exact ⟨i + 1, i, by first | rfl | go_num, by omega, by first | rfl | trivial, HMT2, HB8.out⟩
        case measure => simp [intOf]; omega
      · have hd1 : decide (a2 < a1) = false := decide_eq_false hla
        have hd2 : decide ((a2 : Int) < (a1 : Int)) = false := decide_eq_false (by omega)
        have HMT2 := Lib.hid hmt
        clear hla hmt
        go_wp2
        go_roundw
        case rel => exact ⟨i + 1, q, by first | rfl | go_num, by omega, by first | rfl | trivial, HMT2, HB8.out⟩
        case measure => simp [intOf]; omega
    · have hin : i = k1 := by omega
      obtain rfl : b = q := most_uniq HMOST.out (most_all (by have h := HMT.out; rw [hin, ← HLEN.out] at h; exact h))
      have hbb : ((b : Int) == (b : Int)) = true := by simp
      obtain ⟨wr', hwr⟩ : ∃ wx, wx = wr := ⟨_, rfl⟩
      rw [← hwr] at hbr ⊢
      clear HMT hin hwr
      have HBq := Lib.hid (HB5.out.trans (hbr.mono HB5.out.size))
      clear hbr HB5
      go_wp2_with fail
      refine (awake_true _).mono ?_
      rintro e w9 ⟨rfl, hb9⟩
      have HB9 := Lib.hid (HBq.out.trans (hb9.mono HBq.out.size))
      clear hb9
      go_wp2
      go_ret
      exact ⟨rfl, HB9.out⟩

end Go.Proofs.Ytaboccbakicmhaa
