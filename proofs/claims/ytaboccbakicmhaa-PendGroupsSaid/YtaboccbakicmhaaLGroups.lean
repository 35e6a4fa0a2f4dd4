/- The walk of the law PendGroups. -/
import Derived.Test.YtaboccbakicmhaaFct
set_option linter.unusedVariables false
set_option linter.unusedSimpArgs false
namespace Go.Proofs.Ytaboccbakicmhaa
open Go.RowKit

set_option maxHeartbeats 8000000 in
set_option maxRecDepth 100000 in
theorem groups_walk (v1 v2 v3 : Value) (a b d : List Nt) (w0 : World) (hA : NV w0 v1 a) (hC : NV w0 v2 b) (hD : NV w0 v3 d) :
    Calls Try.prog 6 #[v1, v2, v3] w0 fun e w' => e = .returned (.bool true) ∧ Below w0.heap.size w0 w' := by
  have HA0 := Lib.hid hA
  have HC0 := Lib.hid hC
  have HD0 := Lib.hid hD
  obtain ⟨A, ca, rfl, _, _, hza⟩ := hA
  obtain ⟨C, cc, rfl, _, _, hzc⟩ := hC
  obtain ⟨D, cd, rfl, _, _, hzd⟩ := hD
  have HZA := Lib.hid hza
  have HZC := Lib.hid hzc
  have HZD := Lib.hid hzd
  have HB0 := Lib.hid (Below.refl w0.heap.size w0)
  obtain ⟨na, hla⟩ : ∃ n, a.length = n := ⟨_, rfl⟩
  obtain ⟨nc, hlc⟩ : ∃ n, b.length = n := ⟨_, rfl⟩
  obtain ⟨nd, hld⟩ : ∃ n, d.length = n := ⟨_, rfl⟩
  rw [hla] at HA0 ⊢
  rw [hlc] at HC0 ⊢
  rw [hld] at HD0 ⊢
  have HLA := Lib.hid hla
  have HLC := Lib.hid hlc
  have HLD := Lib.hid hld
  clear hla hlc hld hza hzc hzd
  go_enter Try.func6, Try.ntmps6
  by_cases hkna : na ≤ 20
  case neg =>
    have hd : decide (20 < (na : Int)) = true := by simp; omega
    have hd' : decide (20 < na) = true := by simp; omega
    go_wp2_with fail
    refine (awake_true _).mono ?_
    rintro e w9 ⟨rfl, hb9⟩
    have HB9 := Lib.hid (HB0.out.trans (hb9.mono HB0.out.size))
    clear hb9
    go_wp2
    go_ret
    exact ⟨rfl, HB9.out⟩
  have hdna : decide (20 < (na : Int)) = false := by simp; omega
  have hd'na : decide (20 < na) = false := by simp; omega
  by_cases hknc : nc ≤ 20
  case neg =>
    have hd : decide (20 < (nc : Int)) = true := by simp; omega
    have hd' : decide (20 < nc) = true := by simp; omega
    go_wp2_with fail
    refine (awake_true _).mono ?_
    rintro e w9 ⟨rfl, hb9⟩
    have HB9 := Lib.hid (HB0.out.trans (hb9.mono HB0.out.size))
    clear hb9
    go_wp2
    go_ret
    exact ⟨rfl, HB9.out⟩
  have hdnc : decide (20 < (nc : Int)) = false := by simp; omega
  have hd'nc : decide (20 < nc) = false := by simp; omega
  by_cases hknd : nd ≤ 20
  case neg =>
    have hd : decide (20 < (nd : Int)) = true := by simp; omega
    have hd' : decide (20 < nd) = true := by simp; omega
    go_wp2_with fail
    refine (awake_true _).mono ?_
    rintro e w9 ⟨rfl, hb9⟩
    have HB9 := Lib.hid (HB0.out.trans (hb9.mono HB0.out.size))
    clear hb9
    go_wp2
    go_ret
    exact ⟨rfl, HB9.out⟩
  have hdnd : decide (20 < (nd : Int)) = false := by simp; omega
  have hd'nd : decide (20 < nd) = false := by simp; omega
  have H20 := Lib.hid (And.intro hkna (And.intro hknc hknd))
  clear hkna hknc hknd
  go_wp2_with fail
  refine (few_v HA0.out).mono ?_
  rintro e w1 ⟨R, rfl, h60, hb⟩
  have HB1 := Lib.hid (HB0.out.trans (hb.mono HB0.out.size))
  have HA1 := Lib.hid (HA0.out.on hb)
  have HC1 := Lib.hid (HC0.out.on hb)
  have HD1 := Lib.hid (HD0.out.on hb)
  clear hb HB0 HA0 HC0 HD0
  clear h60
  cases R with
  | false =>
    go_wp2_with fail
    refine (awake_true _).mono ?_
    rintro e w9 ⟨rfl, hb9⟩
    have HB9 := Lib.hid (HB1.out.trans (hb9.mono HB1.out.size))
    clear hb9
    go_wp2
    go_ret
    exact ⟨rfl, HB9.out⟩
  | true =>
  go_wp2_with fail
  refine (few_v HC1.out).mono ?_
  rintro e w2 ⟨R, rfl, h60, hb⟩
  have HB2 := Lib.hid (HB1.out.trans (hb.mono HB1.out.size))
  have HA2 := Lib.hid (HA1.out.on hb)
  have HC2 := Lib.hid (HC1.out.on hb)
  have HD2 := Lib.hid (HD1.out.on hb)
  clear hb HB1 HA1 HC1 HD1
  clear h60
  cases R with
  | false =>
    go_wp2_with fail
    refine (awake_true _).mono ?_
    rintro e w9 ⟨rfl, hb9⟩
    have HB9 := Lib.hid (HB2.out.trans (hb9.mono HB2.out.size))
    clear hb9
    go_wp2
    go_ret
    exact ⟨rfl, HB9.out⟩
  | true =>
  go_wp2_with fail
  refine (few_v HD2.out).mono ?_
  rintro e w3 ⟨R, rfl, h60, hb⟩
  have HB3 := Lib.hid (HB2.out.trans (hb.mono HB2.out.size))
  have HA3 := Lib.hid (HA2.out.on hb)
  have HC3 := Lib.hid (HC2.out.on hb)
  have HD3 := Lib.hid (HD2.out.on hb)
  clear hb HB2 HA2 HC2 HD2
  clear h60
  cases R with
  | false =>
    go_wp2_with fail
    refine (awake_true _).mono ?_
    rintro e w9 ⟨rfl, hb9⟩
    have HB9 := Lib.hid (HB3.out.trans (hb9.mono HB3.out.size))
    clear hb9
    go_wp2
    go_ret
    exact ⟨rfl, HB9.out⟩
  | true =>
  have hlen : a.length ≤ 20 ∧ b.length ≤ 20 ∧ d.length ≤ 20 := by have h1 := HLA.out; have h2 := HLC.out; have h3 := HLD.out; have h4 := H20.out; omega
  obtain ⟨E, hE⟩ : ∃ E, E = pushE [] (a ++ b ++ d) := ⟨_, rfl⟩
  obtain ⟨X, hX⟩ : ∃ X, X = pushA [] (a ++ b ++ d) := ⟨_, rfl⟩
  obtain ⟨Ea, hEa⟩ : ∃ E, E = pushE [] a := ⟨_, rfl⟩
  obtain ⟨Ya, hYa⟩ : ∃ X, X = pushA [] a := ⟨_, rfl⟩
  obtain ⟨Eb, hEb⟩ : ∃ E, E = pushE [] b := ⟨_, rfl⟩
  obtain ⟨Zb, hZb⟩ : ∃ X, X = pushA [] b := ⟨_, rfl⟩
  obtain ⟨Ec, hEc⟩ : ∃ E, E = pushE Zb d := ⟨_, rfl⟩
  obtain ⟨Zc, hZc⟩ : ∃ X, X = pushA Zb d := ⟨_, rfl⟩
  obtain ⟨F, hF⟩ : ∃ E, E = pushE Ya Zc := ⟨_, rfl⟩
  obtain ⟨Y, hY⟩ : ∃ X, X = pushA Ya Zc := ⟨_, rfl⟩
  have l1 : Ya.length ≤ 20 := by have h := len_pushA [] a; rw [← hYa] at h; simp at h; omega
  have l2 : Zb.length ≤ 20 := by have h := len_pushA [] b; rw [← hZb] at h; simp at h; omega
  have l3 : Zc.length ≤ 40 := by have h := len_pushA Zb d; rw [← hZc] at h; omega
  have l4 : X.length ≤ 60 := by have h := len_pushA [] (a ++ b ++ d); rw [← hX] at h; simp at h; omega
  have C0 := Lib.hid (fun (wx : World) (vx : Value) (g : NV wx vx (a ++ b ++ d)) => show Calls Try.prog 11 #[.slice none 0 0, vx] wx fun e w' => ∃ v', e = .returned (.tuple #[v', .int .i64 E]) ∧ NV w' v' X ∧ Below wx.heap.size wx w' from by
    have h := ppush_v (NV.nil wx) g (by simp; omega)
    rw [← hE, ← hX] at h; exact h)
  have C1 := Lib.hid (fun (wx : World) (g : NV wx (.slice A na ca) a) => show Calls Try.prog 11 #[.slice none 0 0, .slice A na ca] wx fun e w' => ∃ v', e = .returned (.tuple #[v', .int .i64 Ea]) ∧ NV w' v' Ya ∧ Below wx.heap.size wx w' from by
    have h := ppush_v (NV.nil wx) g (by simp; omega)
    rw [← hEa, ← hYa] at h; exact h)
  have C2 := Lib.hid (fun (wx : World) (g : NV wx (.slice C nc cc) b) => show Calls Try.prog 11 #[.slice none 0 0, .slice C nc cc] wx fun e w' => ∃ v', e = .returned (.tuple #[v', .int .i64 Eb]) ∧ NV w' v' Zb ∧ Below wx.heap.size wx w' from by
    have h := ppush_v (NV.nil wx) g (by simp; omega)
    rw [← hEb, ← hZb] at h; exact h)
  have C3 := Lib.hid (fun (wx : World) (vx : Value) (h : NV wx vx Zb) (g : NV wx (.slice D nd cd) d) => show Calls Try.prog 11 #[vx, .slice D nd cd] wx fun e w' => ∃ v', e = .returned (.tuple #[v', .int .i64 Ec]) ∧ NV w' v' Zc ∧ Below wx.heap.size wx w' from by
    have h := ppush_v h g (by omega)
    rw [← hEc, ← hZc] at h; exact h)
  have C4 := Lib.hid (fun (wx : World) (vx ux : Value) (h : NV wx vx Ya) (g : NV wx ux Zc) => show Calls Try.prog 11 #[vx, ux] wx fun e w' => ∃ v', e = .returned (.tuple #[v', .int .i64 F]) ∧ NV w' v' Y ∧ Below wx.heap.size wx w' from by
    have h := ppush_v h g (by omega)
    rw [← hF, ← hY] at h; exact h)
  have HEE := Lib.hid (show (E = 1 ∧ X = []) ∨ (E = 0 ∧ F = 0 ∧ X = Y) from by
    by_cases h0 : pushE [] (a ++ b ++ d) = 0
    · obtain ⟨h1, h2, h3⟩ := push_yes h0
      rw [List.all_append, List.all_append, Bool.and_eq_true, Bool.and_eq_true] at h2
      obtain ⟨⟨ra, rb⟩, rd⟩ := h2
      have ya : Ya = pushL [] a := by rw [hYa]; unfold pushA; rw [well_nil, ra]; rfl
      have zb : Zb = pushL [] b := by rw [hZb]; unfold pushA; rw [well_nil, rb]; rfl
      have wb : wellN Zb = true := by rw [zb]; exact well_pushL well_nil rb
      have zc : Zc = pushL Zb d := by rw [hZc]; unfold pushA; rw [wb, rd]; rfl
      have wc : wellN Zc = true := by rw [zc]; exact well_pushL wb rd
      have wa : wellN Ya = true := by rw [ya]; exact well_pushL well_nil ra
      refine .inr ⟨hE.trans h0, ?_, ?_⟩
      · rw [hF]; unfold pushE; rw [wa, wellN_right wc]; rfl
      · rw [hX, h3, hY]
        unfold pushA
        rw [wa, wellN_right wc]
        show _ = pushL Ya Zc
        rw [ya, zc, zb, push_parts ra rb rd]
    · obtain ⟨h1, h2, h3⟩ := push_no h0
      exact .inl ⟨hE.trans h2, hX.trans h3⟩)
  have HL4 := Lib.hid l4
  clear hE hX hEa hYa hEb hZb hEc hZc hF hY l1 l2 l3 l4 hlen
  have HSA := Lib.hid (HA3.out.see)
  have HSC := Lib.hid (HC3.out.see)
  have HSD := Lib.hid (HD3.out.see)
  have hown0 : (w3.alloc (.cells #[] 32)).ownsRow w3.heap.size 32 4 (.slice (some ⟨w3.heap.size, 0, none⟩) 0 0) 0 [] := World.ownsRow_lit (size := 4) w3 #[] 0 (Nat.le_refl _) (by unfold maxLen; omega) rfl
  have hbx0 : Below w3.heap.size w3 (w3.alloc (.cells #[] 32)) := (Below.refl _ w3).alloc (Nat.le_refl _) _
  go_wp2_with (at_builtin; refine append_nts _ rfl _ _ rfl w3.heap.size (.slice (some ⟨w3.heap.size, 0, none⟩) 0 0) 0 ([]) rfl hown0 w3.heap.size A na ca a rfl ?d1 ?d2 ?d3 ?d4 ?d5 ?_)
  case d1 => exact HLA.out
  case d2 => exact HSA.out.below hbx0
  case d3 => exact HZA.out
  case d4 => have := H20.out; omega
  case d5 => exact hbx0.size
  intro vy1 wx1 howny hgy
  have hbx1 : Below w3.heap.size w3 wx1 := hbx0.grown hgy hbx0.size (by intro k hk; exact (own_lt hown0 hk).1)
  have hown1 : wx1.ownsRow w3.heap.size 32 4 vy1 na (a.flatMap Nt.cells) := by simpa using howny
  clear howny hgy hown0 hbx0
  go_wp2_with (at_builtin; refine append_nts _ rfl _ _ rfl w3.heap.size vy1 na (a.flatMap Nt.cells) rfl hown1 w3.heap.size C nc cc b rfl ?d1 ?d2 ?d3 ?d4 ?d5 ?_)
  case d1 => exact HLC.out
  case d2 => exact HSC.out.below hbx1
  case d3 => exact HZC.out
  case d4 => have := H20.out; omega
  case d5 => exact hbx1.size
  intro vy2 wx2 howny hgy
  have hbx2 : Below w3.heap.size w3 wx2 := hbx1.grown hgy hbx1.size (by intro k hk; exact (own_lt hown1 hk).1)
  have hown2 : wx2.ownsRow w3.heap.size 32 4 vy2 (na + nc) ((a ++ b).flatMap Nt.cells) := by simpa using howny
  clear howny hgy hown1 hbx1
  go_wp2_with (at_builtin; refine append_nts _ rfl _ _ rfl w3.heap.size vy2 (na + nc) ((a ++ b).flatMap Nt.cells) rfl hown2 w3.heap.size D nd cd d rfl ?d1 ?d2 ?d3 ?d4 ?d5 ?_)
  case d1 => exact HLD.out
  case d2 => exact HSD.out.below hbx2
  case d3 => exact HZD.out
  case d4 => have := H20.out; omega
  case d5 => exact hbx2.size
  intro vy3 w4 howny hgy
  have hbx3 : Below w3.heap.size w3 w4 := hbx2.grown hgy hbx2.size (by intro k hk; exact (own_lt hown2 hk).1)
  have hown3 : w4.ownsRow w3.heap.size 32 4 vy3 ((na + nc) + nd) (((a ++ b) ++ d).flatMap Nt.cells) := by simpa using howny
  clear howny hgy hown2 hbx2
  have HT := Lib.hid (show NV w4 vy3 ((a ++ b) ++ d) from NV.own (n := ((na + nc) + nd)) hown3 (by simp only [List.length_append, HLA.out, HLC.out, HLD.out]))
  have hb := hbx3
  clear hown3 hbx3
  have HB4 := Lib.hid (HB3.out.trans (hb.mono HB3.out.size))
  have HA4 := Lib.hid (HA3.out.on hb)
  have HC4 := Lib.hid (HC3.out.on hb)
  have HD4 := Lib.hid (HD3.out.on hb)
  clear hb HB3 HA3 HC3 HD3
  clear HSA HSC HSD
  go_wp2_with fail
  refine (C0.out _ _ HT.out).mono ?_
  clear C0 HT
  rintro e w5 ⟨vx, rfl, hx, hb⟩
  have HX5 := Lib.hid hx
  clear hx
  have HB5 := Lib.hid (HB4.out.trans (hb.mono HB4.out.size))
  have HA5 := Lib.hid (HA4.out.on hb)
  have HC5 := Lib.hid (HC4.out.on hb)
  have HD5 := Lib.hid (HD4.out.on hb)
  clear hb HB4 HA4 HC4 HD4
  go_wp2_with fail
  refine (C1.out _ HA5.out).mono ?_
  clear C1
  rintro e w6 ⟨vy, rfl, hx, hb⟩
  have HY6 := Lib.hid hx
  clear hx
  have HB6 := Lib.hid (HB5.out.trans (hb.mono HB5.out.size))
  have HA6 := Lib.hid (HA5.out.on hb)
  have HC6 := Lib.hid (HC5.out.on hb)
  have HD6 := Lib.hid (HD5.out.on hb)
  have HX6 := Lib.hid (HX5.out.on hb)
  clear hb HB5 HA5 HC5 HD5 HX5
  clear HA6
  go_wp2_with fail
  refine (C2.out _ HC6.out).mono ?_
  clear C2
  rintro e w7 ⟨vz, rfl, hx, hb⟩
  have HZ7 := Lib.hid hx
  clear hx
  have HB7 := Lib.hid (HB6.out.trans (hb.mono HB6.out.size))
  have HC7 := Lib.hid (HC6.out.on hb)
  have HD7 := Lib.hid (HD6.out.on hb)
  have HX7 := Lib.hid (HX6.out.on hb)
  have HY7 := Lib.hid (HY6.out.on hb)
  clear hb HB6 HC6 HD6 HX6 HY6
  clear HC7
  go_wp2_with fail
  refine (C3.out _ _ HZ7.out HD7.out).mono ?_
  clear C3
  rintro e w8 ⟨vw, rfl, hx, hb⟩
  have HW8 := Lib.hid hx
  clear hx
  have HB8 := Lib.hid (HB7.out.trans (hb.mono HB7.out.size))
  have HD8 := Lib.hid (HD7.out.on hb)
  have HX8 := Lib.hid (HX7.out.on hb)
  have HY8 := Lib.hid (HY7.out.on hb)
  have HZ8 := Lib.hid (HZ7.out.on hb)
  clear hb HB7 HD7 HX7 HY7 HZ7
  clear HD8 HZ8
  go_wp2_with fail
  refine (C4.out _ _ _ HY8.out HW8.out).mono ?_
  clear C4
  rintro e w9 ⟨vv, rfl, hx, hb⟩
  have HV9 := Lib.hid hx
  clear hx
  have HB9 := Lib.hid (HB8.out.trans (hb.mono HB8.out.size))
  have HX9 := Lib.hid (HX8.out.on hb)
  have HY9 := Lib.hid (HY8.out.on hb)
  have HW9 := Lib.hid (HW8.out.on hb)
  clear hb HB8 HX8 HY8 HW8
  clear HY9 HW9
  rcases HEE.out with ⟨hE, hXX⟩ | ⟨hE, hF, hXY⟩
  · subst hE
    have hx0 := HX9.out
    rw [hXX] at hx0
    obtain ⟨B1, d1, rfl⟩ := hx0.shape
    clear hXX hx0
    go_wp2_with fail
    refine (awake_true _).mono ?_
    rintro e w9 ⟨rfl, hb9⟩
    have HB9 := Lib.hid (HB9.out.trans (hb9.mono HB9.out.size))
    clear hb9
    go_wp2
    go_ret
    exact ⟨rfl, HB9.out⟩
  subst hE hF
  have ca := dsame_v HX9.out HV9.out (by have := HL4.out; unfold maxLen; omega)
  rw [decide_eq_true hXY] at ca
  clear hXY HEE
  go_wp2_with fail
  refine (ca).mono ?_
  clear ca
  rintro e w10 ⟨rfl, hb⟩
  have HB10 := Lib.hid (HB9.out.trans (hb.mono HB9.out.size))
  have HX10 := Lib.hid (HX9.out.on hb)
  have HV10 := Lib.hid (HV9.out.on hb)
  clear hb HB9 HX9 HV9
  go_wp2_with fail
  refine (awake_true _).mono ?_
  rintro e w9 ⟨rfl, hb9⟩
  have HB9 := Lib.hid (HB10.out.trans (hb9.mono HB10.out.size))
  clear hb9
  go_wp2
  go_ret
  exact ⟨rfl, HB9.out⟩

end Go.Proofs.Ytaboccbakicmhaa
