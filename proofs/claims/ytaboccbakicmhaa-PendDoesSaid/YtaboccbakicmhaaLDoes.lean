/- The walk of the law PendDoes. -/
import Derived.Test.YtaboccbakicmhaaLMost
set_option linter.unusedVariables false
set_option linter.unusedSimpArgs false
namespace Go.Proofs.Ytaboccbakicmhaa
open Go.RowKit

theorem apply_yes {l : List Pr} {ns : List Nt} (h1 : wellL l = true) (h2 : ns.all rightN = true) : applyE l ns = 0 ∧ applyL l ns = foldOne l ns := by
  unfold applyE applyL
  rw [h1, h2]
  exact ⟨rfl, rfl⟩
theorem drop_len (ps : List (List Nt)) (j : Nat) : (ps.drop j).reverse.flatten.length ≤ ps.flatten.length := by
  have h1 : (ps.take j).flatten ++ (ps.drop j).flatten = ps.flatten := by rw [← List.flatten_append, List.take_append_drop]
  have h2 := congrArg List.length h1
  rw [List.length_append] at h2
  have h3 : (ps.drop j).reverse.flatten.length = (ps.drop j).flatten.length := by
    rw [List.length_flatten, List.length_flatten, List.map_reverse, List.sum_reverse]
  omega
/-- The pairs, when the parts from j on were done, the last one first. -/
def doneTo (p : List Pr) (ps : List (List Nt)) (j : Nat) : List Pr := foldOne p (ps.drop j).reverse.flatten
theorem done_step (p : List Pr) {ps : List (List Nt)} {j : Nat} (hj : j < ps.length) : doneTo p ps j = foldOne (doneTo p ps (j + 1)) ps[j] := by
  unfold doneTo
  rw [List.drop_eq_getElem_cons hj, List.reverse_cons, List.flatten_append, foldOne_append]
  simp
theorem done_end (p : List Pr) (ps : List (List Nt)) : doneTo p ps ps.length = p := by
  unfold doneTo
  rw [List.drop_length]
  rfl

set_option maxHeartbeats 8000000 in
set_option maxRecDepth 100000 in
theorem does_walk (v0 v1 v2 : Value) (p : List Pr) (l ns : List Nt) (B0 : Option Addr) (d0 : Nat) (lows : List ByteArray) (w0 : World) (hP : PV w0 v0 p) (hA : NV w0 v1 l) (hC : NV w0 v2 ns) (hS : Strs w0 w0.heap.size B0 lows) (hn : p.length ≤ maxLen) (hm : lows.length ≤ maxLen) :
    Calls Try.prog 5 #[v0, v1, v2, .slice B0 lows.length d0] w0 fun e w' => e = .returned (.bool true) ∧ Below w0.heap.size w0 w' := by
  have HP0 := Lib.hid hP
  have HA0 := Lib.hid hA
  have HC0 := Lib.hid hC
  have HQ0 := Lib.hid (show SSV w0 (.slice B0 lows.length d0) lows from ⟨B0, d0, rfl, hS⟩)
  obtain ⟨P, cp, rfl, _, _, _⟩ := hP
  obtain ⟨A, ca, rfl, _, _, hza⟩ := hA
  obtain ⟨C, cc, rfl, _, _, hzc⟩ := hC
  have HN := Lib.hid hn
  have HMX := Lib.hid hm
  have HZA := Lib.hid hza
  have HZC := Lib.hid hzc
  have HB0 := Lib.hid (Below.refl w0.heap.size w0)
  obtain ⟨np, hlp⟩ : ∃ n, p.length = n := ⟨_, rfl⟩
  obtain ⟨na, hla⟩ : ∃ n, l.length = n := ⟨_, rfl⟩
  obtain ⟨nc, hlc⟩ : ∃ n, ns.length = n := ⟨_, rfl⟩
  obtain ⟨m, hlm⟩ : ∃ m, lows.length = m := ⟨_, rfl⟩
  rw [hlp] at HP0 ⊢
  rw [hla] at HA0 ⊢
  rw [hlc] at HC0 ⊢
  rw [hlm] at HQ0 ⊢
  have HLP := Lib.hid hlp
  have HLA := Lib.hid hla
  have HLC := Lib.hid hlc
  have HLM := Lib.hid hlm
  clear hlp hla hlc hlm hza hzc hn hm hS
  go_enter Try.func5, Try.ntmps5
  go_wp2_with fail
  refine (few_v HA0.out).mono ?_
  rintro e w1 ⟨R, rfl, h60, hb⟩
  have HB1 := Lib.hid (HB0.out.trans (hb.mono HB0.out.size))
  have HP1 := Lib.hid (HP0.out.on hb)
  have HA1 := Lib.hid (HA0.out.on hb)
  have HC1 := Lib.hid (HC0.out.on hb)
  have HQ1 := Lib.hid (HQ0.out.on hb)
  clear hb HB0 HP0 HA0 HC0 HQ0
  clear h60
  cases R with
  | false =>
    go_wp2_with fail
    refine (awake_true _).mono ?_
    rintro e w9 ⟨rfl, hb9⟩
    have HB9 := Lib.hid (HB1.out.trans (hb9.mono HB1.out.size))
    clear hb9
    go_wp2
    go_ret
    exact ⟨rfl, HB9.out⟩
  | true =>
  go_wp2_with fail
  refine (few_v HC1.out).mono ?_
  rintro e w2 ⟨R, rfl, h60, hb⟩
  have HB2 := Lib.hid (HB1.out.trans (hb.mono HB1.out.size))
  have HP2 := Lib.hid (HP1.out.on hb)
  have HA2 := Lib.hid (HA1.out.on hb)
  have HC2 := Lib.hid (HC1.out.on hb)
  have HQ2 := Lib.hid (HQ1.out.on hb)
  clear hb HB1 HP1 HA1 HC1 HQ1
  clear h60
  cases R with
  | false =>
    go_wp2_with fail
    refine (awake_true _).mono ?_
    rintro e w9 ⟨rfl, hb9⟩
    have HB9 := Lib.hid (HB2.out.trans (hb9.mono HB2.out.size))
    clear hb9
    go_wp2
    go_ret
    exact ⟨rfl, HB9.out⟩
  | true =>
  by_cases hknp : np ≤ 60
  case neg =>
    have hd : decide (60 < (np : Int)) = true := by simp; omega
    have hd' : decide (60 < np) = true := by simp; omega
    go_wp2_with fail
    refine (awake_true _).mono ?_
    rintro e w9 ⟨rfl, hb9⟩
    have HB9 := Lib.hid (HB2.out.trans (hb9.mono HB2.out.size))
    clear hb9
    go_wp2
    go_ret
    exact ⟨rfl, HB9.out⟩
  have hdnp : decide (60 < (np : Int)) = false := by simp; omega
  have hd'np : decide (60 < np) = false := by simp; omega
  by_cases hkna : na ≤ 30
  case neg =>
    have hd : decide (30 < (na : Int)) = true := by simp; omega
    have hd' : decide (30 < na) = true := by simp; omega
    go_wp2_with fail
    refine (awake_true _).mono ?_
    rintro e w9 ⟨rfl, hb9⟩
    have HB9 := Lib.hid (HB2.out.trans (hb9.mono HB2.out.size))
    clear hb9
    go_wp2
    go_ret
    exact ⟨rfl, HB9.out⟩
  have hdna : decide (30 < (na : Int)) = false := by simp; omega
  have hd'na : decide (30 < na) = false := by simp; omega
  by_cases hknc : nc ≤ 30
  case neg =>
    have hd : decide (30 < (nc : Int)) = true := by simp; omega
    have hd' : decide (30 < nc) = true := by simp; omega
    go_wp2_with fail
    refine (awake_true _).mono ?_
    rintro e w9 ⟨rfl, hb9⟩
    have HB9 := Lib.hid (HB2.out.trans (hb9.mono HB2.out.size))
    clear hb9
    go_wp2
    go_ret
    exact ⟨rfl, HB9.out⟩
  have hdnc : decide (30 < (nc : Int)) = false := by simp; omega
  have hd'nc : decide (30 < nc) = false := by simp; omega
  by_cases hkm : m ≤ 20
  case neg =>
    have hd : decide (20 < (m : Int)) = true := by simp; omega
    have hd' : decide (20 < m) = true := by simp; omega
    go_wp2_with fail
    refine (awake_true _).mono ?_
    rintro e w9 ⟨rfl, hb9⟩
    have HB9 := Lib.hid (HB2.out.trans (hb9.mono HB2.out.size))
    clear hb9
    go_wp2
    go_ret
    exact ⟨rfl, HB9.out⟩
  have hdm : decide (20 < (m : Int)) = false := by simp; omega
  have hd'm : decide (20 < m) = false := by simp; omega
  have H20 := Lib.hid (And.intro hknp (And.intro hkna (And.intro hknc hkm)))
  clear hknp hkna hknc hkm
  obtain ⟨W, hW⟩ : ∃ W, wellL p = W := ⟨_, rfl⟩
  have CR := Lib.hid (fun (wx : World) (h : PV wx (.slice P np cp) p) => show Calls Try.prog 21 #[.slice P np cp] wx fun e w' => e = .returned (.bool W) ∧ Below wx.heap.size wx w' from by
    have h1 := right_v h HN.out
    rw [hW] at h1; exact h1)
  have HW := Lib.hid hW
  clear hW
  go_wp2_with fail
  refine (CR.out _ HP2.out).mono ?_
  clear CR
  rintro e w3 ⟨rfl, hb⟩
  have HB3 := Lib.hid (HB2.out.trans (hb.mono HB2.out.size))
  have HP3 := Lib.hid (HP2.out.on hb)
  have HA3 := Lib.hid (HA2.out.on hb)
  have HC3 := Lib.hid (HC2.out.on hb)
  have HQ3 := Lib.hid (HQ2.out.on hb)
  clear hb HB2 HP2 HA2 HC2 HQ2
  cases W with
  | false =>
    go_wp2_with fail
    refine (awake_true _).mono ?_
    rintro e w9 ⟨rfl, hb9⟩
    have HB9 := Lib.hid (HB3.out.trans (hb9.mono HB3.out.size))
    clear hb9
    go_wp2
    go_ret
    exact ⟨rfl, HB9.out⟩
  | true =>
  have hlen : p.length ≤ 60 ∧ l.length ≤ 30 ∧ ns.length ≤ 30 := by have h1 := HLP.out; have h2 := HLA.out; have h3 := HLC.out; have h4 := H20.out; omega
  obtain ⟨E, hE⟩ : ∃ E, E = pushE l ns := ⟨_, rfl⟩
  obtain ⟨X, hX⟩ : ∃ X, X = pushA l ns := ⟨_, rfl⟩
  have l1 : X.length ≤ 60 := by have h := len_pushA l ns; rw [← hX] at h; omega
  have C0 := Lib.hid (fun (wx : World) (h : NV wx (.slice A na ca) l) (g : NV wx (.slice C nc cc) ns) => show Calls Try.prog 11 #[.slice A na ca, .slice C nc cc] wx fun e w' => ∃ v', e = .returned (.tuple #[v', .int .i64 E]) ∧ NV w' v' X ∧ Below wx.heap.size wx w' from by
    have h := ppush_v h g (by omega)
    rw [← hE, ← hX] at h; exact h)
  obtain ⟨Y, hY⟩ : ∃ Y, Y = foldOne p X := ⟨_, rfl⟩
  have HEE := Lib.hid (show (E = 1 ∧ X = l) ∨ (E = 0 ∧ X.all rightN = true ∧ wellN X = true ∧ (l ++ ns).all rightN = true ∧ foldOne p (l ++ ns) = Y) from by
    by_cases h0 : pushE l ns = 0
    · obtain ⟨h1, h2, h3⟩ := push_yes h0
      have hx : X = pushL l ns := hX.trans h3
      have hwx : wellN X = true := by rw [hx]; exact well_pushL h1 h2
      refine .inr ⟨hE.trans h0, wellN_right hwx, hwx, ?_, ?_⟩
      · rw [List.all_append, wellN_right h1, h2]; rfl
      · rw [hY, hx]; exact (push_does (well_sorted HW.out) (wellN_sorted h1)).symm
    · obtain ⟨h1, h2, h3⟩ := push_no h0
      exact .inl ⟨hE.trans h2, hX.trans h3⟩)
  have HL1 := Lib.hid l1
  have HLEN := Lib.hid hlen
  have HY := Lib.hid hY
  clear hE hX hY l1 hlen
  go_wp2_with fail
  refine (C0.out _ HA3.out HC3.out).mono ?_
  clear C0
  rintro e w4 ⟨vx, rfl, hx, hb⟩
  have HX4 := Lib.hid hx
  clear hx
  have HB4 := Lib.hid (HB3.out.trans (hb.mono HB3.out.size))
  have HP4 := Lib.hid (HP3.out.on hb)
  have HA4 := Lib.hid (HA3.out.on hb)
  have HC4 := Lib.hid (HC3.out.on hb)
  have HQ4 := Lib.hid (HQ3.out.on hb)
  clear hb HB3 HP3 HA3 HC3 HQ3
  rcases HEE.out with ⟨hE, hXX⟩ | ⟨hE, hxr, hxw, hlr, hfo⟩
  · subst hE
    have ca := dsame_v HX4.out HA4.out (by have := HL1.out; unfold maxLen; omega)
    rw [decide_eq_true hXX] at ca
    clear hXX HEE
    go_wp2_with fail
    refine (ca).mono ?_
    clear ca
    rintro e w5 ⟨rfl, hb⟩
    have HB5 := Lib.hid (HB4.out.trans (hb.mono HB4.out.size))
    have HP5 := Lib.hid (HP4.out.on hb)
    have HA5 := Lib.hid (HA4.out.on hb)
    have HC5 := Lib.hid (HC4.out.on hb)
    have HQ5 := Lib.hid (HQ4.out.on hb)
    have HX5 := Lib.hid (HX4.out.on hb)
    clear hb HB4 HP4 HA4 HC4 HQ4 HX4
    go_wp2_with fail
    refine (awake_true _).mono ?_
    rintro e w9 ⟨rfl, hb9⟩
    have HB9 := Lib.hid (HB5.out.trans (hb9.mono HB5.out.size))
    clear hb9
    go_wp2
    go_ret
    exact ⟨rfl, HB9.out⟩
  subst hE
  have C1 := Lib.hid (fun (wx : World) (vx : Value) (h : PV wx (.slice P np cp) p) (g : NV wx vx X) => show Calls Try.prog 22 #[.slice P np cp, vx] wx fun e w' => ∃ v', e = .returned (.tuple #[v', .int .i64 0]) ∧ PV w' v' Y ∧ Below wx.heap.size wx w' from by
    have h := apply_v h g (by have h1 := HL1.out; have h2 := HLEN.out; omega)
    obtain ⟨e1, e2⟩ := apply_yes HW.out hxr
    rw [e1, e2, ← HY.out] at h; exact h)
  have C2 := Lib.hid (fun (wx : World) (vx : Value) (h : PV wx (.slice P np cp) p) (g : NV wx vx (l ++ ns)) => show Calls Try.prog 22 #[.slice P np cp, vx] wx fun e w' => ∃ v', e = .returned (.tuple #[v', .int .i64 0]) ∧ PV w' v' Y ∧ Below wx.heap.size wx w' from by
    have h := apply_v h g (by have h2 := HLEN.out; rw [List.length_append]; omega)
    obtain ⟨e1, e2⟩ := apply_yes HW.out hlr
    rw [e1, e2, hfo] at h; exact h)
  have C3 := Lib.hid (fun (wx : World) (vx : Value) (h : NV wx vx X) => show Calls Try.prog 15 #[vx] wx fun e w' => e = .returned (.bool true) ∧ Below wx.heap.size wx w' from by
    have h1 := pright_v h (by have := HL1.out; unfold maxLen; omega)
    rw [hxw] at h1; exact h1)
  have HYL := Lib.hid (show Y.length ≤ 120 from by rw [HY.out]; have h1 := len_fold p X; have h2 := HL1.out; have h3 := HLEN.out; omega)
  have HXR := Lib.hid hxr
  have HXW := Lib.hid hxw
  clear hxr hxw hlr hfo HEE
  go_wp2_with fail
  refine (C1.out _ _ HP4.out HX4.out).mono ?_
  clear C1
  rintro e w5 ⟨vy, rfl, hx, hb⟩
  have HY5 := Lib.hid hx
  clear hx
  have HB5 := Lib.hid (HB4.out.trans (hb.mono HB4.out.size))
  have HP5 := Lib.hid (HP4.out.on hb)
  have HA5 := Lib.hid (HA4.out.on hb)
  have HC5 := Lib.hid (HC4.out.on hb)
  have HQ5 := Lib.hid (HQ4.out.on hb)
  have HX5 := Lib.hid (HX4.out.on hb)
  clear hb HB4 HP4 HA4 HC4 HQ4 HX4
  have HSA := Lib.hid (HA5.out.see)
  have HSC := Lib.hid (HC5.out.see)
  have hown0 : (w5.alloc (.cells #[] 32)).ownsRow w5.heap.size 32 4 (.slice (some ⟨w5.heap.size, 0, none⟩) 0 0) 0 [] := World.ownsRow_lit (size := 4) w5 #[] 0 (Nat.le_refl _) (by unfold maxLen; omega) rfl
  have hbx0 : Below w5.heap.size w5 (w5.alloc (.cells #[] 32)) := (Below.refl _ w5).alloc (Nat.le_refl _) _
  go_wp2_with (at_builtin; refine append_nts _ rfl _ _ rfl w5.heap.size (.slice (some ⟨w5.heap.size, 0, none⟩) 0 0) 0 ([]) rfl hown0 w5.heap.size A na ca l rfl ?d1 ?d2 ?d3 ?d4 ?d5 ?_)
  case d1 => exact HLA.out
  case d2 => exact HSA.out.below hbx0
  case d3 => exact HZA.out
  case d4 => have := H20.out; omega
  case d5 => exact hbx0.size
  intro vy1 wx1 howny hgy
  have hbx1 : Below w5.heap.size w5 wx1 := hbx0.grown hgy hbx0.size (by intro k hk; exact (own_lt hown0 hk).1)
  have hown1 : wx1.ownsRow w5.heap.size 32 4 vy1 na (l.flatMap Nt.cells) := by simpa using howny
  clear howny hgy hown0 hbx0
  go_wp2_with (at_builtin; refine append_nts _ rfl _ _ rfl w5.heap.size vy1 na (l.flatMap Nt.cells) rfl hown1 w5.heap.size C nc cc ns rfl ?d1 ?d2 ?d3 ?d4 ?d5 ?_)
  case d1 => exact HLC.out
  case d2 => exact HSC.out.below hbx1
  case d3 => exact HZC.out
  case d4 => have := H20.out; omega
  case d5 => exact hbx1.size
  intro vy2 w6 howny hgy
  have hbx2 : Below w5.heap.size w5 w6 := hbx1.grown hgy hbx1.size (by intro k hk; exact (own_lt hown1 hk).1)
  have hown2 : w6.ownsRow w5.heap.size 32 4 vy2 (na + nc) ((l ++ ns).flatMap Nt.cells) := by simpa using howny
  clear howny hgy hown1 hbx1
  have HT := Lib.hid (show NV w6 vy2 (l ++ ns) from NV.own (n := (na + nc)) hown2 (by simp only [List.length_append, HLA.out, HLC.out]))
  have hb := hbx2
  clear hown2 hbx2
  have HB6 := Lib.hid (HB5.out.trans (hb.mono HB5.out.size))
  have HP6 := Lib.hid (HP5.out.on hb)
  have HA6 := Lib.hid (HA5.out.on hb)
  have HC6 := Lib.hid (HC5.out.on hb)
  have HQ6 := Lib.hid (HQ5.out.on hb)
  have HX6 := Lib.hid (HX5.out.on hb)
  have HY6 := Lib.hid (HY5.out.on hb)
  clear hb HB5 HP5 HA5 HC5 HQ5 HX5 HY5
  clear HSA HSC
  clear HA6 HC6
  go_wp2_with fail
  refine (C2.out _ _ HP6.out HT.out).mono ?_
  clear C2 HT
  rintro e w7 ⟨vz, rfl, hx, hb⟩
  have HZ7 := Lib.hid hx
  clear hx
  have HB7 := Lib.hid (HB6.out.trans (hb.mono HB6.out.size))
  have HP7 := Lib.hid (HP6.out.on hb)
  have HQ7 := Lib.hid (HQ6.out.on hb)
  have HX7 := Lib.hid (HX6.out.on hb)
  have HY7 := Lib.hid (HY6.out.on hb)
  clear hb HB6 HP6 HQ6 HX6 HY6
  have ca := same_v HY7.out HZ7.out (by have := HYL.out; unfold maxLen; omega)
  rw [decide_eq_true rfl] at ca
  go_wp2_with fail
  refine (ca).mono ?_
  clear ca
  rintro e w8 ⟨rfl, hb⟩
  have HB8 := Lib.hid (HB7.out.trans (hb.mono HB7.out.size))
  have HP8 := Lib.hid (HP7.out.on hb)
  have HQ8 := Lib.hid (HQ7.out.on hb)
  have HX8 := Lib.hid (HX7.out.on hb)
  have HY8 := Lib.hid (HY7.out.on hb)
  have HZ8 := Lib.hid (HZ7.out.on hb)
  clear hb HB7 HP7 HQ7 HX7 HY7 HZ7
  clear HZ8
  go_wp2_with fail
  refine (C3.out _ _ HX8.out).mono ?_
  clear C3
  rintro e w9 ⟨rfl, hb⟩
  have HB9 := Lib.hid (HB8.out.trans (hb.mono HB8.out.size))
  have HP9 := Lib.hid (HP8.out.on hb)
  have HQ9 := Lib.hid (HQ8.out.on hb)
  have HX9 := Lib.hid (HX8.out.on hb)
  have HY9 := Lib.hid (HY8.out.on hb)
  clear hb HB8 HP8 HQ8 HX8 HY8
  obtain ⟨ps, hps⟩ : ∃ ps, ps = splitA X lows := ⟨_, rfl⟩
  obtain ⟨R, hR⟩ : ∃ R, risesS lows = R := ⟨_, rfl⟩
  have C4 := Lib.hid (fun (wx : World) (vx : Value) (h : NV wx vx X) (g : SSV wx (.slice B0 m d0) lows) => show Calls Try.prog 17 #[vx, .slice B0 m d0] wx fun e w' => ∃ v', e = .returned v' ∧ NVV w' v' ps ∧ Below wx.heap.size wx w' from by
    have h := psplit_v h g (by have := HL1.out; omega) (by have := HLM.out; have := H20.out; omega)
    rw [← hps] at h; exact h)
  have CS := Lib.hid (fun (wx : World) (h : SSV wx (.slice B0 m d0) lows) => show Calls Try.prog 19 #[.slice B0 m d0] wx fun e w' => e = .returned (.bool R) ∧ Below wx.heap.size wx w' from by
    have h1 := drises_v h HMX.out
    rw [hR] at h1; exact h1)
  have HNO := Lib.hid (show ps = [] → m = 0 ∨ R = false from fun h => by
    cases hr : R with
    | false => exact .inr rfl
    | true =>
      left
      rw [hps, splitA_yes HXW.out (hR.trans hr)] at h
      have h1 := split_len X lows
      rw [h] at h1
      rw [← HLM.out, ← h1]; rfl)
  have HYES := Lib.hid (show ps ≠ [] → ps.flatten = X ∧ foldOne p ps.reverse.flatten = Y ∧ ∀ q ∈ ps, q.all rightN = true from fun h => by
    have hf : ps.flatten = X := by rw [hps]; exact splitA_flat (by rw [← hps]; exact h)
    have hr : risesS lows = true := by
      cases hr : risesS lows with
      | true => rfl
      | false => exact absurd (hps.trans (splitA_no (.inr (.inl hr)))) h
    have hm0 : 0 < lows.length := by
      rcases Nat.eq_zero_or_pos lows.length with h0 | h0
      · exact absurd (hps.trans (splitA_no (.inr (.inr h0)))) h
      · exact h0
    rw [splitA_yes HXW.out hr] at hps
    refine ⟨hf, ?_, fun q hq => ?_⟩
    · rw [hps, HY.out]; exact fold_parts (well_sorted HW.out) (wellN_sorted HXW.out) hm0
    · rw [hps] at hq; exact split_right HXR.out lows hq)
  have HPL := Lib.hid (show ps.length ≤ m from by
    rw [hps]
    unfold splitA
    split
    · rw [split_len, HLM.out]; exact Nat.le_refl _
    · exact Nat.zero_le _)
  clear hps hR
  go_wp2_with fail
  refine (C4.out _ _ HX9.out HQ9.out).mono ?_
  clear C4
  rintro e w10 ⟨vs, rfl, hx, hb⟩
  have HS10 := Lib.hid hx
  clear hx
  have HB10 := Lib.hid (HB9.out.trans (hb.mono HB9.out.size))
  have HP10 := Lib.hid (HP9.out.on hb)
  have HQ10 := Lib.hid (HQ9.out.on hb)
  have HX10 := Lib.hid (HX9.out.on hb)
  have HY10 := Lib.hid (HY9.out.on hb)
  clear hb HB9 HP9 HQ9 HX9 HY9
  clear HX10
  obtain ⟨A1, c1, rfl⟩ := HS10.out.shape
  obtain ⟨k1, hk1⟩ : ∃ k, k = ps.length := ⟨_, rfl⟩
  rw [← hk1] at HS10 ⊢
  have HK1 := Lib.hid hk1
  clear hk1
  by_cases hp0 : ps = []
  · have hk0 : k1 = 0 := by rw [HK1.out, hp0]; rfl
    subst hk0
    have hno := HNO.out hp0
    clear hp0
    by_cases hm0 : m = 0
    · subst hm0
      clear hno
      go_wp2_with fail
      refine (awake_true _).mono ?_
      rintro e w9 ⟨rfl, hb9⟩
      have HB9 := Lib.hid (HB10.out.trans (hb9.mono HB10.out.size))
      clear hb9
      go_wp2
      go_ret
      exact ⟨rfl, HB9.out⟩
    · have hz0 : ((m : Int) == 0) = false := by simp; omega
      obtain rfl : R = false := by rcases hno with h | h; exact absurd h hm0; exact h
      clear hno hm0
      go_wp2_with fail
      refine (CS.out _ HQ10.out).mono ?_
      clear CS
      rintro e w11 ⟨rfl, hb⟩
      have HB11 := Lib.hid (HB10.out.trans (hb.mono HB10.out.size))
      have HP11 := Lib.hid (HP10.out.on hb)
      have HQ11 := Lib.hid (HQ10.out.on hb)
      have HY11 := Lib.hid (HY10.out.on hb)
      have HS11 := Lib.hid (HS10.out.on hb)
      clear hb HB10 HP10 HQ10 HY10 HS10
      go_wp2_with fail
      refine (awake_true _).mono ?_
      rintro e w9 ⟨rfl, hb9⟩
      have HB9 := Lib.hid (HB11.out.trans (hb9.mono HB11.out.size))
      clear hb9
      go_wp2
      go_ret
      exact ⟨rfl, HB9.out⟩
  have hyes := HYES.out hp0
  have hkn : k1 ≠ 0 := by rw [HK1.out]; exact fun h => hp0 (List.length_eq_zero_iff.1 h)
  have hz0 : ((k1 : Int) == 0) = false := by simp; omega
  obtain ⟨k2, hk2⟩ : ∃ k2, k1 = k2 + 1 := ⟨k1 - 1, by omega⟩
  have wk : IntKind.i64.wrap ((k1 : Int) - 1) = (k2 : Int) := by rw [IntKind.wrap_i64]; have := HPL.out; have := HK1.out; have := H20.out; omega
  have HK2 := Lib.hid hk2
  have HFL := Lib.hid hyes
  have hk20 : k2 ≤ 20 := by have := HPL.out; have := HK1.out; have := H20.out; omega
  have HD0 := Lib.hid (show doneTo p ps k1 = p from by rw [HK1.out]; exact done_end p ps)
  have HDW := Lib.hid (show ∀ j, wellL (doneTo p ps j) = true from fun j => well_fold HW.out (fun n hn => by
    obtain ⟨q, hq, hnq⟩ := List.mem_flatten.1 hn
    have h1 := hyes.2.2 q (List.mem_of_mem_drop (List.mem_reverse.1 hq))
    exact List.all_eq_true.1 h1 n hnq))
  have HDL := Lib.hid (show ∀ j, (doneTo p ps j).length ≤ 120 from fun j => by
    have h1 := len_fold p (ps.drop j).reverse.flatten
    have h2 := drop_len ps j
    rw [hyes.1] at h2
    have h3 := HL1.out
    have h4 := HLEN.out
    unfold doneTo
    omega)
  clear hyes hp0 hkn hk2
  clear HNO HYES CS
  have HBk := Lib.hid (Below.refl w10.heap.size w10)
  go_wp2
  go_loopw [16, 17] (fun v16 vi wr => ∃ (j : Nat) (z : Int), vi = .int .i64 z ∧ z + 1 = j ∧ j ≤ k2 + 1 ∧ Hid (PV wr v16 (doneTo p ps j)) ∧ Below w10.heap.size w10 wr) (fun _ vi _ => (intOf vi + 1).toNat)
  case atStart => exact ⟨k2 + 1, k2, rfl, by omega, by omega, by show PV _ _ _; rw [← HK2.out, HD0.out]; exact HP10.out, Below.refl _ _⟩
  case round =>
    obtain ⟨j, z, rfl, hz, hj, HV, hbr⟩ := hrel
    rcases j with _ | j
    · obtain rfl : z = -1 := by omega
      have hdn : doneTo p ps 0 = Y := by unfold doneTo; rw [List.drop_zero]; exact HFL.out.2.1
      have HVY := Lib.hid (show PV wr u16 Y from by have h := HV.out; rw [hdn] at h; exact h)
      have HYX := Lib.hid (HY10.out.on hbr)
      obtain ⟨w5, hw5⟩ : ∃ wx, wx = wr := ⟨_, rfl⟩
      rw [← hw5] at HVY HYX hbr ⊢
      clear HV hdn hw5
      have HB5 := Lib.hid (HB10.out.trans (hbr.mono HB10.out.size))
      clear hbr HB10
      have ca := same_v HVY.out HYX.out (by have := HYL.out; unfold maxLen; omega)
      rw [decide_eq_true rfl] at ca
      go_wp2_with fail
      refine (ca).mono ?_
      clear ca HVY HYX
      rintro e w6 ⟨rfl, hb⟩
      have HB6 := Lib.hid (HB5.out.trans (hb.mono HB5.out.size))
      clear hb HB5
      go_wp2_with fail
      refine (awake_true _).mono ?_
      rintro e w9 ⟨rfl, hb9⟩
      have HB9 := Lib.hid (HB6.out.trans (hb9.mono HB6.out.size))
      clear hb9
      go_wp2
      go_ret
      exact ⟨rfl, HB9.out⟩
    · obtain rfl : z = (j : Int) := by omega
      have hjk : j < ps.length := by have h1 := HK1.out; have h2 := HK2.out; omega
      have hjk1 : j < k1 := by have h2 := HK2.out; omega
      have hbs := hbr.size
      obtain ⟨ad, B1, d1, rfl, hab, hc1, hp1⟩ := (HS10.out.on hbr).at_ hjk
      have hap := apply_v HV.out hp1 (by have h1 := HDL.out (j + 1); have h2 : (ps[j]'hjk).length ≤ 60 := (by
        have h3 : ps[j].length ≤ ps.flatten.length := (List.sublist_flatten_of_mem (List.getElem_mem hjk)).length_le
        rw [HFL.out.1] at h3; have := HL1.out; omega); omega)
      obtain ⟨e1, e2⟩ := apply_yes (HDW.out (j + 1)) (HFL.out.2.2 (ps[j]'hjk) (List.getElem_mem hjk))
      rw [e1, e2, ← done_step p hjk] at hap
      obtain ⟨a1, ha1⟩ : ∃ a, a = (ps[j]'hjk).length := ⟨_, rfl⟩
      rw [← ha1] at hap hc1
      clear ha1 hp1 e1 e2 HV
      go_wp2_with fail
      refine hap.mono ?_
      clear hap hc1 hab
      rintro e w7 ⟨v7, rfl, hv7, hb7⟩
      have HBR := Lib.hid (hbr.trans (hb7.mono hbs))
      have HV7 := Lib.hid hv7
      clear hbr hb7 hv7 hbs
      go_wp2
      go_roundw
      case rel => exact ⟨j, (j : Int) - 1, by first | rfl | go_num, by omega, by omega, HV7, HBR.out⟩
      case measure => first | (simp [intOf]; done) | (simp [intOf]; omega)

end Go.Proofs.Ytaboccbakicmhaa
