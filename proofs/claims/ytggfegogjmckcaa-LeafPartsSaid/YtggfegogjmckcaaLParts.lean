/- The walk of the law LeafParts. -/
import Derived.Test.YtggfegogjmckcaaAwk
import Derived.Test.YtggfegogjmckcaaFct
import Derived.Test.YtggfegogjmckcaaRStep
namespace Go.Proofs.Ytggfegogjmckcaa
open Go.RowKit

theorem NV.see {w : World} {B : Option Addr} {n d : Nat} {l : List Nt} (h : NV w (.slice B n d) l) : Nts w w.heap.size B l := by
  obtain ⟨B', d', e, h1, _⟩ := h
  injection e with e1 e2 e3
  subst e1
  exact h1

set_option maxHeartbeats 8000000 in
set_option maxRecDepth 100000 in
theorem parts_walk (v u t : Value) (l : List Pr) (a b : List Nt) (w0 : World) (hP : PV w0 v l) (hA : NV w0 u a) (hC : NV w0 t b) (hn : l.length ≤ maxLen) (hna : a.length ≤ maxLen) (hnb : b.length ≤ maxLen) :
    Calls Try.prog 6 #[v, u, t] w0 fun e w' => e = .returned (.bool true) ∧ Below w0.heap.size w0 w' := by
  have HP0 := Lib.hid hP
  have HA0 := Lib.hid hA
  have HC0 := Lib.hid hC
  obtain ⟨A, c, rfl, _, hlc, hzc⟩ := hA
  obtain ⟨B, d, rfl, _, hld, hzd⟩ := hC
  have HN := Lib.hid hn
  have HB0 := Lib.hid (Below.refl w0.heap.size w0)
  have HZA := Lib.hid hzc
  have HZB := Lib.hid hzd
  obtain ⟨n, hl⟩ : ∃ n, a.length = n := ⟨_, rfl⟩
  obtain ⟨m, hm⟩ : ∃ m, b.length = m := ⟨_, rfl⟩
  rw [hl] at HA0 ⊢
  rw [hm] at HC0 ⊢
  have HL := Lib.hid hl
  have HM := Lib.hid hm
  clear hl hm hn hna hnb hlc hzc hld hzd hP
  go_enter Try.func6, Try.ntmps6
  go_wp2_with fail
  refine (small_v HP0.out).mono ?_
  rintro e w1 ⟨R, rfl, h60, hb1⟩
  have H60 := Lib.hid h60
  clear h60
  have HB1 := Lib.hid (HB0.out.trans (hb1.mono HB0.out.size))
  have HP1 := Lib.hid (HP0.out.on hb1)
  have HA1 := Lib.hid (HA0.out.on hb1)
  have HC1 := Lib.hid (HC0.out.on hb1)
  clear hb1 HB0 HP0 HA0 HC0
  cases R with
  | false =>
    go_wp2_with fail
    refine (awake_true _).mono ?_
    rintro e w9 ⟨rfl, hb9⟩
    have HB9 := Lib.hid (HB1.out.trans (hb9.mono HB1.out.size))
    clear hb9
    go_wp2
    go_ret
    exact ⟨rfl, HB9.out⟩
  | true =>
  have hl60 : l.length ≤ 60 := H60.out rfl
  have HL60 := Lib.hid hl60
  clear hl60 H60
  go_wp2_with fail
  refine (few_v HA1.out).mono ?_
  rintro e w2 ⟨R, rfl, h60, hb2⟩
  have H60 := Lib.hid h60
  clear h60
  have HB2 := Lib.hid (HB1.out.trans (hb2.mono HB1.out.size))
  have HP2 := Lib.hid (HP1.out.on hb2)
  have HA2 := Lib.hid (HA1.out.on hb2)
  have HC2 := Lib.hid (HC1.out.on hb2)
  clear hb2 HB1 HP1 HA1 HC1
  cases R with
  | false =>
    go_wp2_with fail
    refine (awake_true _).mono ?_
    rintro e w9 ⟨rfl, hb9⟩
    have HB9 := Lib.hid (HB2.out.trans (hb9.mono HB2.out.size))
    clear hb9
    go_wp2
    go_ret
    exact ⟨rfl, HB9.out⟩
  | true =>
  clear H60
  go_wp2_with fail
  refine (few_v HC2.out).mono ?_
  rintro e w3 ⟨R, rfl, h60, hb3⟩
  have H60 := Lib.hid h60
  clear h60
  have HB3 := Lib.hid (HB2.out.trans (hb3.mono HB2.out.size))
  have HP3 := Lib.hid (HP2.out.on hb3)
  have HA3 := Lib.hid (HA2.out.on hb3)
  have HC3 := Lib.hid (HC2.out.on hb3)
  clear hb3 HB2 HP2 HA2 HC2
  cases R with
  | false =>
    go_wp2_with fail
    refine (awake_true _).mono ?_
    rintro e w9 ⟨rfl, hb9⟩
    have HB9 := Lib.hid (HB3.out.trans (hb9.mono HB3.out.size))
    clear hb9
    go_wp2
    go_ret
    exact ⟨rfl, HB9.out⟩
  | true =>
  clear H60
  by_cases hn30 : n ≤ 30
  case neg =>
    have hd1 : decide (30 < (n : Int)) = true := by simp; omega
    have hd1' : decide (30 < n) = true := by simp; omega
    clear hn30
    go_wp2_with fail
    refine (awake_true _).mono ?_
    rintro e w9 ⟨rfl, hb9⟩
    have HB9 := Lib.hid (HB3.out.trans (hb9.mono HB3.out.size))
    clear hb9
    go_wp2
    go_ret
    exact ⟨rfl, HB9.out⟩
  have hd1 : decide (30 < (n : Int)) = false := by simp; omega
  have hd1' : decide (30 < n) = false := by simp; omega
  by_cases hm30 : m ≤ 30
  case neg =>
    have hd2 : decide (30 < (m : Int)) = true := by simp; omega
    have hd2' : decide (30 < m) = true := by simp; omega
    clear hm30 hn30
    go_wp2_with fail
    refine (awake_true _).mono ?_
    rintro e w9 ⟨rfl, hb9⟩
    have HB9 := Lib.hid (HB3.out.trans (hb9.mono HB3.out.size))
    clear hb9
    go_wp2
    go_ret
    exact ⟨rfl, HB9.out⟩
  have hd2 : decide (30 < (m : Int)) = false := by simp; omega
  have hd2' : decide (30 < m) = false := by simp; omega
  have H30 := Lib.hid (And.intro hn30 hm30)
  clear hn30 hm30
  obtain ⟨E1, hE1⟩ : ∃ E, E = applyE l a := ⟨_, rfl⟩
  obtain ⟨X1, hX1⟩ : ∃ X, X = applyL l a := ⟨_, rfl⟩
  obtain ⟨E2, hE2⟩ : ∃ E, E = applyE X1 b := ⟨_, rfl⟩
  obtain ⟨X2, hX2⟩ : ∃ X, X = applyL X1 b := ⟨_, rfl⟩
  obtain ⟨E3, hE3⟩ : ∃ E, E = applyE l (a ++ b) := ⟨_, rfl⟩
  obtain ⟨Y, hY⟩ : ∃ X, X = applyL l (a ++ b) := ⟨_, rfl⟩
  have hXl : X1.length ≤ 90 := by have h0 := apply_len l a; rw [← hX1] at h0; have h1 := HL60.out; have h2 := HL.out; have h3 := H30.out.1; omega
  have hX2l : X2.length ≤ 120 := by have h0 := apply_len X1 b; rw [← hX2] at h0; have h2 := HM.out; have h3 := H30.out.2; omega
  have hYl : Y.length ≤ 120 := by have h0 := apply_len l (a ++ b); rw [← hY, List.length_append] at h0; have h1 := HL60.out; have h2 := HL.out; have h4 := HM.out; have h3 := H30.out; omega
  have HA1c := Lib.hid (fun (wx : World) (h : PV wx v l) (g : NV wx (.slice A n c) a) => show Calls Try.prog 12 #[v, .slice A n c] wx fun e w' => ∃ v', e = .returned (.tuple #[v', .int .i64 E1]) ∧ PV w' v' X1 ∧ Below wx.heap.size wx w' from by
    have h1 := apply_v h g (by have h1 := HL60.out; have h2 := HL.out; have h3 := H30.out.1; omega)
    rw [← hE1, ← hX1] at h1; exact h1)
  have HA2c := Lib.hid (fun (wx : World) (vx : Value) (h : PV wx vx X1) (g : NV wx (.slice B m d) b) => show Calls Try.prog 12 #[vx, .slice B m d] wx fun e w' => ∃ v', e = .returned (.tuple #[v', .int .i64 E2]) ∧ PV w' v' X2 ∧ Below wx.heap.size wx w' from by
    have h1 := apply_v h g (by have h2 := HM.out; have h3 := H30.out.2; omega)
    rw [← hE2, ← hX2] at h1; exact h1)
  have HA3c := Lib.hid (fun (wx : World) (vx : Value) (h : PV wx v l) (g : NV wx vx (a ++ b)) => show Calls Try.prog 12 #[v, vx] wx fun e w' => ∃ v', e = .returned (.tuple #[v', .int .i64 E3]) ∧ PV w' v' Y ∧ Below wx.heap.size wx w' from by
    have h1 := apply_v h g (by rw [List.length_append]; have h1 := HL60.out; have h2 := HL.out; have h4 := HM.out; have h3 := H30.out; omega)
    rw [← hE3, ← hY] at h1; exact h1)
  have HEE := Lib.hid (show (E3 = 1 ∧ (E1 = 1 ∨ E1 = 0 ∧ E2 = 1)) ∨ (E3 = 0 ∧ E1 = 0 ∧ E2 = 0 ∧ X2 = Y) from by
    by_cases h0 : applyE l (a ++ b) = 0
    · obtain ⟨h1, h2, h3⟩ := parts_yes h0
      exact .inr ⟨hE3.trans h0, hE1.trans h1, by rw [hE2, hX1]; exact h2, by rw [hX2, hX1, hY]; exact h3⟩
    · refine .inl ⟨hE3.trans (apply_no h0).1, ?_⟩
      by_cases h1 : applyE l a = 0
      · have h2 : applyE (applyL l a) b ≠ 0 := by
          rcases parts_no h0 with h | h
          · exact absurd h1 h
          · exact h
        exact .inr ⟨hE1.trans h1, by rw [hE2, hX1]; exact (apply_no h2).1⟩
      · exact .inl (hE1.trans (apply_no h1).1))
  have HSW := Lib.hid (fun (h0 : E3 = 0) (hk : ∀ x ∈ a, ∀ y ∈ b, x.key ≠ y.key) (wx : World) (vx : Value) (h : PV wx v l) (g : NV wx vx (b ++ a)) => show Calls Try.prog 12 #[v, vx] wx fun e w' => ∃ v', e = .returned (.tuple #[v', .int .i64 0]) ∧ PV w' v' Y ∧ Below wx.heap.size wx w' from by
    have h1 := apply_v h g (by rw [List.length_append]; have h1 := HL60.out; have h2 := HL.out; have h4 := HM.out; have h3 := H30.out; omega)
    obtain ⟨h2, h3⟩ := parts_swap (hE3.symm.trans h0) hk
    rw [h2, h3, ← hY] at h1; exact h1)
  have HLN := Lib.hid (And.intro hX2l hYl)
  clear hE1 hX1 hE2 hX2 hE3 hY hXl hX2l hYl
  go_wp2_with fail
  refine (HA1c.out _ HP3.out HA3.out).mono ?_
  clear HA1c
  rintro e w4 ⟨vx1, rfl, hp1, hb4⟩
  have HX1 := Lib.hid hp1
  clear hp1
  have HB4 := Lib.hid (HB3.out.trans (hb4.mono HB3.out.size))
  have HP4 := Lib.hid (HP3.out.on hb4)
  have HA4 := Lib.hid (HA3.out.on hb4)
  have HC4 := Lib.hid (HC3.out.on hb4)
  clear hb4 HB3 HP3 HA3 HC3
  go_wp2_with fail
  refine (HA2c.out _ _ HX1.out HC4.out).mono ?_
  clear HA2c HX1
  rintro e w5 ⟨vx2, rfl, hp2, hb5⟩
  have HX2 := Lib.hid hp2
  clear hp2
  have HB5 := Lib.hid (HB4.out.trans (hb5.mono HB4.out.size))
  have HP5 := Lib.hid (HP4.out.on hb5)
  have HA5 := Lib.hid (HA4.out.on hb5)
  have HC5 := Lib.hid (HC4.out.on hb5)
  clear hb5 HB4 HP4 HA4 HC4
  have HNA := Lib.hid (HA5.out.see)
  have HNC := Lib.hid (HC5.out.see)
  have hown0 : (w5.alloc (.cells #[] 46)).ownsRow w5.heap.size 46 4 (.slice (some ⟨w5.heap.size, 0, none⟩) 0 0) 0 [] := World.ownsRow_lit (size := 4) w5 #[] 0 (Nat.le_refl _) (by unfold maxLen; omega) rfl
  go_wp2_with (at_builtin; refine append_nts _ rfl _ _ rfl w5.heap.size (.slice (some ⟨w5.heap.size, 0, none⟩) 0 0) 0 [] rfl hown0 w5.heap.size A n c a rfl ?d1 ?d2 ?d3 ?d4 ?d5 ?_)
  case d1 => exact HL.out
  case d2 => exact HNA.out.below ((Below.refl _ w5).alloc (Nat.le_refl _) _)
  case d3 => exact HZA.out
  case d4 => have := H30.out; omega
  case d5 => simp
  intro vx wx hownx hgx
  have hbx : Below w5.heap.size w5 wx := ((Below.refl _ w5).alloc (Nat.le_refl _) _).grown hgx (by simp) (by intro k hk; simp [Value.ownBlock] at hk; omega)
  have hownx' : wx.ownsRow w5.heap.size 46 4 vx n (a.flatMap Nt.cells) := by simpa using hownx
  have HCX := Lib.hid (HNC.out.below hbx)
  have hbsx := hbx.size
  clear hownx hgx hown0
  go_wp2_with (at_builtin; refine append_nts _ rfl _ _ rfl w5.heap.size vx n (a.flatMap Nt.cells) rfl hownx' w5.heap.size B m d b rfl ?d1 ?d2 ?d3 ?d4 ?d5 ?_)
  case d1 => exact HM.out
  case d2 => exact HCX.out
  case d3 => exact HZB.out
  case d4 => have := H30.out; omega
  case d5 => exact hbsx
  intro vy w6 howny hgy
  have hb6 : Below w5.heap.size w5 w6 := hbx.grown hgy hbsx (by intro k hk; exact (own_lt hownx' hk).1)
  have HAB := Lib.hid (show NV w6 vy (a ++ b) from NV.own (n := n + m) (by rw [List.flatMap_append]; exact howny) (by rw [List.length_append, HL.out, HM.out]))
  clear hownx' howny hgy hbx hbsx HCX
  have HB6 := Lib.hid (HB5.out.trans (hb6.mono HB5.out.size))
  have HP6 := Lib.hid (HP5.out.on hb6)
  have HA6 := Lib.hid (HA5.out.on hb6)
  have HC6 := Lib.hid (HC5.out.on hb6)
  have HX26 := Lib.hid (HX2.out.on hb6)
  clear hb6 HB5 HP5 HA5 HC5 HX2
  clear HNA HNC
  go_wp2_with fail
  refine (HA3c.out _ _ HP6.out HAB.out).mono ?_
  clear HA3c HAB
  rintro e w7 ⟨vy3, rfl, hp3, hb7⟩
  have HY7 := Lib.hid hp3
  clear hp3
  have HB7 := Lib.hid (HB6.out.trans (hb7.mono HB6.out.size))
  have HP7 := Lib.hid (HP6.out.on hb7)
  have HA7 := Lib.hid (HA6.out.on hb7)
  have HC7 := Lib.hid (HC6.out.on hb7)
  have HX27 := Lib.hid (HX26.out.on hb7)
  clear hb7 HB6 HP6 HA6 HC6 HX26
  rcases HEE.out with ⟨h3, h12⟩ | ⟨h3, h1, h2, hxy⟩
  · subst h3
    rcases h12 with h1 | ⟨h1, h2⟩
    · subst h1
      go_wp2_with fail
      refine (awake_true _).mono ?_
      rintro e w9 ⟨rfl, hb9⟩
      have HB9 := Lib.hid (HB7.out.trans (hb9.mono HB7.out.size))
      clear hb9
      go_wp2
      go_ret
      exact ⟨rfl, HB9.out⟩
    · subst h1 h2
      go_wp2_with fail
      refine (awake_true _).mono ?_
      rintro e w9 ⟨rfl, hb9⟩
      have HB9 := Lib.hid (HB7.out.trans (hb9.mono HB7.out.size))
      clear hb9
      go_wp2
      go_ret
      exact ⟨rfl, HB9.out⟩
  have HE3 := Lib.hid h3
  subst h3 h1 h2
  have HXY := Lib.hid hxy
  clear hxy HEE
  have HSS := Lib.hid (fun (wx : World) (h : PV wx vx2 X2) (g : PV wx vy3 Y) => show Calls Try.prog 19 #[vx2, vy3] wx fun e w' => e = .returned (.bool true) ∧ Below wx.heap.size wx w' from by
    have h1 := same_v h g (by have := HLN.out.1; unfold maxLen; omega)
    rw [decide_eq_true HXY.out] at h1; exact h1)
  have HNA := Lib.hid (HA7.out.see)
  have HNC := Lib.hid (HC7.out.see)
  have hn30 : n ≤ 30 := H30.out.1
  have hm30 : m ≤ 30 := H30.out.2
  go_wp2
  go_loopw [77] (fun vi wr => ∃ i : Nat, vi = .int .i64 i ∧ i ≤ n ∧ Hid (∀ (j : Nat) (h : j < a.length), j < i → ∀ y ∈ b, a[j].key ≠ y.key) ∧ Below w7.heap.size w7 wr) (fun vi _ => (n - intOf vi).toNat)
  case atStart => exact ⟨0, rfl, by omega, fun j h h0 => by omega, Below.refl _ _⟩
  case round =>
    obtain ⟨i, rfl, hi, HK, hbr⟩ := hrel
    by_cases hlt : i < n
    · obtain ⟨ad, rfl, hab, hca⟩ := (HNA.out.below hbr).seeN (by rw [HL.out]; omega)
      have hil : i < a.length := by rw [HL.out]; exact hlt
      obtain ⟨c1, c2, c3, c4⟩ := hca i hil
      obtain ⟨x, hx⟩ : ∃ x, x = a[i]'hil := ⟨_, rfl⟩
      rw [← hx] at c1 c2 c3 c4
      have HX := Lib.hid hx
      clear hx hca
      obtain ⟨xk, xkey, xval, xn⟩ := x
      simp only at c1 c2 c3 c4
      have hlt3 : (ad.add (i * 4)).block < w7.heap.size := by rw [block_of_add]; exact hab
      have hbs := hbr.size
      obtain ⟨wA, hwA⟩ : ∃ wA, wA = wr.alloc (.cells #[.int .i64 xk, .string xkey, .string xval, .int .u64 (xn.toNat : Int)] 46) := ⟨_, rfl⟩
      obtain ⟨g, hg⟩ : ∃ g, g = wr.heap.size := ⟨_, rfl⟩
      have hbA : Below w7.heap.size w7 wA := by rw [hwA]; exact hbr.alloc hbs _
      have HBX := Lib.hid (show NBlk wA g ⟨xk, xkey, xval, xn⟩ from by rw [hwA]; exact Box.at_ wr _ _ hg)
      have HWA := Lib.hid hbA
      go_upto_region 11 with fail
      rw [← hg, ← hwA]
      clear hwA hg hbA hbr hbs c1 c2 c3 c4 hlt3 hab
      go_wp2
      go_loopw [83] (fun vj wr => ∃ j : Nat, vj = .int .i64 j ∧ j ≤ m ∧ Hid (∀ (q : Nat) (h : q < b.length), q < j → xkey ≠ b[q].key) ∧ Below wA.heap.size wA wr) (fun vj _ => (m - intOf vj).toNat)
      case atStart => exact ⟨0, rfl, by omega, fun j h h0 => by omega, Below.refl _ _⟩
      case round =>
        obtain ⟨j, rfl, hj, HJ, hbr⟩ := hrel
        have HB7r := Lib.hid (HWA.out.trans (hbr.mono HWA.out.size))
        by_cases hjt : j < m
        · obtain ⟨bd, rfl, hbb, hcb⟩ := (HNC.out.below HB7r.out).seeN (by rw [HM.out]; omega)
          have hjl : j < b.length := by rw [HM.out]; exact hjt
          obtain ⟨c1, c2, c3, c4⟩ := hcb j hjl
          obtain ⟨y, hy⟩ : ∃ y, y = b[j]'hjl := ⟨_, rfl⟩
          rw [← hy] at c1 c2 c3 c4
          have HYY := Lib.hid hy
          clear hy hcb
          obtain ⟨yk, ykey, yval, yn⟩ := y
          simp only at c1 c2 c3 c4
          have hbs := hbr.size
          obtain ⟨b1, b2, b3, b4⟩ := NBlk.cells (HBX.out.on hbr)
          simp only at b1 b2 b3 b4
          have hlg : g < wr.heap.size := lt_of_cell b2
          have hlb : (bd.add (j * 4)).block < wr.heap.size := lt_of_cell c1
          have hbr2 := hbr.alloc hbs (.cells #[.int .i64 yk, .string ykey, .string yval, .int .u64 (yn.toNat : Int)] 46)
          have HBR2 := Lib.hid hbr2
          by_cases hke : xkey = ykey
          · have hz := str_eq hke
            have HB2 := Lib.hid (HWA.out.trans (hbr2.mono HWA.out.size))
            clear hke hbr2
            go_wp2_with fail
            refine (HSS.out _ (HX27.out.on HB2.out) (HY7.out.on HB2.out)).mono ?_
            rintro e w8 ⟨rfl, hb8⟩
            have HBf := Lib.hid (HB7.out.trans ((HB2.out.trans (hb8.mono HB2.out.size)).mono HB7.out.size))
            clear hb8
            go_wp2_with fail
            refine (awake_true _).mono ?_
            rintro e w9 ⟨rfl, hb9⟩
            have HB9 := Lib.hid (HBf.out.trans (hb9.mono HBf.out.size))
            clear hb9
            go_wp2
            go_ret
            exact ⟨rfl, HB9.out⟩
          · have hz := str_ne hke
            have HJ2 := Lib.hid (show ∀ (q : Nat) (h : q < b.length), q < j + 1 → xkey ≠ b[q].key from fun q h h1 => by
              by_cases hq : q < j
              · exact HJ.out q h hq
              · have : q = j := by omega
                subst this
                rw [← HYY.out]; exact hke)
            clear hke hbr2
            go_wp2
            go_roundw
            case rel => exact ⟨j + 1, by first | rfl | go_num, by omega, HJ2, HBR2.out⟩
            case measure => simp [intOf]; omega
        · have HK2 := Lib.hid (show ∀ (q : Nat) (h : q < a.length), q < i + 1 → ∀ y ∈ b, a[q].key ≠ y.key from fun q h h1 y hy => by
            by_cases hq : q < i
            · exact HK.out q h hq y hy
            · have : q = i := by omega
              subst this
              obtain ⟨r, hr, rfl⟩ := List.getElem_of_mem hy
              rw [← HX.out]
              exact HJ.out r hr (by rw [HM.out] at hr; omega))
          clear HJ hbr
          go_wp2
          go_roundw
          case rel => exact ⟨i + 1, by first | rfl | go_num, by omega, HK2, HB7r.out⟩
          case measure => simp [intOf]; omega
    · have HKK := Lib.hid (show ∀ x ∈ a, ∀ y ∈ b, x.key ≠ y.key from fun x hx => by
        obtain ⟨j, hj, rfl⟩ := List.getElem_of_mem hx
        exact HK.out j hj (by rw [HL.out] at hj; omega))
      obtain ⟨w8, hw8⟩ : ∃ w8, w8 = wr := ⟨_, rfl⟩
      rw [← hw8] at hbr ⊢
      have HB8 := Lib.hid (HB7.out.trans (hbr.mono HB7.out.size))
      have HP8 := Lib.hid (HP7.out.on hbr)
      have HX28 := Lib.hid (HX27.out.on hbr)
      have HY8 := Lib.hid (HY7.out.on hbr)
      have HNA8 := Lib.hid ((HA7.out.on hbr).see)
      have HNC8 := Lib.hid ((HC7.out.on hbr).see)
      clear HK hbr hw8 HB7 HP7 HX27 HY7 HA7 HC7 HNA HNC
      have hown0 : (w8.alloc (.cells #[] 46)).ownsRow w8.heap.size 46 4 (.slice (some ⟨w8.heap.size, 0, none⟩) 0 0) 0 [] := World.ownsRow_lit (size := 4) w8 #[] 0 (Nat.le_refl _) (by unfold maxLen; omega) rfl
      go_wp2_with (at_builtin; refine append_nts _ rfl _ _ rfl w8.heap.size (.slice (some ⟨w8.heap.size, 0, none⟩) 0 0) 0 [] rfl hown0 w8.heap.size B m d b rfl ?d1 ?d2 ?d3 ?d4 ?d5 ?_)
      case d1 => exact HM.out
      case d2 => exact HNC8.out.below ((Below.refl _ w8).alloc (Nat.le_refl _) _)
      case d3 => exact HZB.out
      case d4 => have := H30.out; omega
      case d5 => simp
      intro vx wx hownx hgx
      have hbx : Below w8.heap.size w8 wx := ((Below.refl _ w8).alloc (Nat.le_refl _) _).grown hgx (by simp) (by intro k hk; simp [Value.ownBlock] at hk; omega)
      have hownx' : wx.ownsRow w8.heap.size 46 4 vx m (b.flatMap Nt.cells) := by simpa using hownx
      have HCX := Lib.hid (HNA8.out.below hbx)
      have hbsx := hbx.size
      clear hownx hgx hown0
      go_wp2_with (at_builtin; refine append_nts _ rfl _ _ rfl w8.heap.size vx m (b.flatMap Nt.cells) rfl hownx' w8.heap.size A n c a rfl ?d1 ?d2 ?d3 ?d4 ?d5 ?_)
      case d1 => exact HL.out
      case d2 => exact HCX.out
      case d3 => exact HZA.out
      case d4 => have := H30.out; omega
      case d5 => exact hbsx
      intro vy w9 howny hgy
      have hb9 : Below w8.heap.size w8 w9 := hbx.grown hgy hbsx (by intro k hk; exact (own_lt hownx' hk).1)
      have HBA := Lib.hid (show NV w9 vy (b ++ a) from NV.own (n := m + n) (by rw [List.flatMap_append]; exact howny) (by rw [List.length_append, HM.out, HL.out]))
      clear hownx' howny hgy hbx hbsx HCX
      have HB9b := Lib.hid (HB8.out.trans (hb9.mono HB8.out.size))
      have HP9 := Lib.hid (HP8.out.on hb9)
      have HX29 := Lib.hid (HX28.out.on hb9)
      have HY9 := Lib.hid (HY8.out.on hb9)
      clear hb9 HB8 HP8 HX28 HY8
      go_wp2_with fail
      refine (HSW.out HE3.out HKK.out _ _ HP9.out HBA.out).mono ?_
      clear HSW HBA HNA8 HNC8
      rintro e wa ⟨vz, rfl, hpz, hba⟩
      have HZa := Lib.hid hpz
      clear hpz
      have HBa := Lib.hid (HB9b.out.trans (hba.mono HB9b.out.size))
      have HX2a := Lib.hid (HX29.out.on hba)
      have HYa := Lib.hid (HY9.out.on hba)
      clear hba HB9b HX29 HY9
      go_wp2_with fail
      refine (HSS.out _ HX2a.out HYa.out).mono ?_
      rintro e wb ⟨rfl, hbb⟩
      have HBb := Lib.hid (HBa.out.trans (hbb.mono HBa.out.size))
      have HYb := Lib.hid (HYa.out.on hbb)
      have HZb := Lib.hid (HZa.out.on hbb)
      clear hbb HBa HYa HZa
      have ca := same_v HYb.out HZb.out (by have := HLN.out.2; unfold maxLen; omega)
      rw [decide_eq_true rfl] at ca
      go_wp2_with fail
      refine ca.mono ?_
      clear ca
      rintro e wc ⟨rfl, hbc⟩
      have HBc := Lib.hid (HBb.out.trans (hbc.mono HBb.out.size))
      clear hbc HBb
      go_wp2_with fail
      refine (awake_true _).mono ?_
      rintro e w9 ⟨rfl, hb9⟩
      have HB9 := Lib.hid (HBc.out.trans (hb9.mono HBc.out.size))
      clear hb9
      go_wp2
      go_ret
      exact ⟨rfl, HB9.out⟩

end Go.Proofs.Ytggfegogjmckcaa
