/- The walk of the law LeafPlaces. -/
import Derived.Test.YtggfegogjmckcaaAwk
import Derived.Test.YtggfegogjmckcaaFct
import Derived.Lib.MinMaxS
namespace Go.Proofs.Ytggfegogjmckcaa
open Go.RowKit

theorem min_le_max (a b : ByteArray) : Lib.minS a b ≤ Lib.maxS a b := by
  rw [minS_eq, maxS_eq]
  by_cases h : a < b
  · rw [if_pos h, if_pos (by grind)]; grind
  · rw [if_neg h]
    by_cases h2 : a ≤ b
    · rw [if_pos h2]; grind
    · rw [if_neg h2]; grind

set_option maxHeartbeats 8000000 in
set_option maxRecDepth 100000 in
theorem places_walk (v : Value) (l : List Pr) (a b : ByteArray) (w : World) (hP : PV w v l) (hn : l.length ≤ maxLen) :
    Calls Try.prog 7 #[v, .string a, .string b] w fun e w' => e = .returned (.bool true) ∧ Below w.heap.size w w' := by
  have HP0 := Lib.hid hP
  obtain ⟨A, c, rfl, _, _, _⟩ := hP
  have HN := Lib.hid hn
  have HB0 := Lib.hid (Below.refl w.heap.size w)
  obtain ⟨n, hl⟩ : ∃ n, l.length = n := ⟨_, rfl⟩
  rw [hl] at HP0 ⊢
  have HL := Lib.hid hl
  clear hl hn
  obtain ⟨x, hx⟩ : ∃ x, x = Lib.minS a b := ⟨_, rfl⟩
  obtain ⟨y, hy⟩ : ∃ y, y = Lib.maxS a b := ⟨_, rfl⟩
  have hmn : ∀ (w : World) (ts : Array TypeId) (t : TypeId), (Builtin.min_ ts t #[.string a, .string b]).run Try.prog w = .ok (.string x) w := fun w ts t => by rw [hx]; exact Lib.run_min_strs w ts t a b
  have hmx : ∀ (w : World) (ts : Array TypeId) (t : TypeId), (Builtin.max_ ts t #[.string a, .string b]).run Try.prog w = .ok (.string y) w := fun w ts t => by rw [hy]; exact Lib.run_max_strs w ts t a b
  have HXY := Lib.hid (show x ≤ y from by rw [hx, hy]; exact min_le_max a b)
  clear hx hy
  go_enter Try.func7, Try.ntmps7
  go_wp2_with fail
  refine (small_v HP0.out).mono ?_
  rintro e w1 ⟨R, rfl, h60, hb1⟩
  have H60 := Lib.hid h60
  clear h60
  have HB1 := Lib.hid (HB0.out.trans (hb1.mono HB0.out.size))
  have HP1 := Lib.hid (HP0.out.on hb1)
  clear hb1 HB0 HP0
  cases R with
  | false =>
    go_wp2_with fail
    refine (awake_true _).mono ?_
    rintro e w9 ⟨rfl, hb9⟩
    have HB9 := Lib.hid (HB1.out.trans (hb9.mono HB1.out.size))
    clear hb9
    go_wp2
    go_ret
    exact ⟨rfl, HB9.out⟩
  | true =>
  have hl60 : n ≤ 60 := by have := H60.out rfl; have := HL.out; omega
  have HL60 := Lib.hid hl60
  clear hl60 H60
  go_wp2_with fail
  refine (right_v HP1.out HN.out).mono ?_
  rintro e w2 ⟨rfl, hb2⟩
  have HB2 := Lib.hid (HB1.out.trans (hb2.mono HB1.out.size))
  have HP2 := Lib.hid (HP1.out.on hb2)
  clear hb2 HB1 HP1
  cases hwell : wellL l with
  | false =>
    clear hwell
    go_wp2_with fail
    refine (awake_true _).mono ?_
    rintro e w9 ⟨rfl, hb9⟩
    have HB9 := Lib.hid (HB2.out.trans (hb9.mono HB2.out.size))
    clear hb9
    go_wp2
    go_ret
    exact ⟨rfl, HB9.out⟩
  | true =>
  have HW := Lib.hid hwell
  clear hwell
  by_cases ha : a.size ≤ 300
  case neg =>
    have hd : decide (300 < (a.size : Int)) = true := by simp; omega
    clear ha
    go_wp2_with fail
    refine (awake_true _).mono ?_
    rintro e w9 ⟨rfl, hb9⟩
    have HB9 := Lib.hid (HB2.out.trans (hb9.mono HB2.out.size))
    clear hb9
    go_wp2
    go_ret
    exact ⟨rfl, HB9.out⟩
  have hda : decide (300 < (a.size : Int)) = false := by simp; omega
  clear ha
  by_cases hbz : b.size ≤ 300
  case neg =>
    have hd : decide (300 < (b.size : Int)) = true := by simp; omega
    clear hbz
    go_wp2_with fail
    refine (awake_true _).mono ?_
    rintro e w9 ⟨rfl, hb9⟩
    have HB9 := Lib.hid (HB2.out.trans (hb9.mono HB2.out.size))
    clear hb9
    go_wp2
    go_ret
    exact ⟨rfl, HB9.out⟩
  have hdb : decide (300 < (b.size : Int)) = false := by simp; omega
  clear hbz
  have HNX := Lib.hid (fun (k : ByteArray) (z : Nat) (hz : lessL l k = z) (wx : World) (h : PV wx (.slice A n c) l) => show Calls Try.prog 20 #[.slice A n c, .string k] wx fun e w' => e = .returned (.int .i64 (z : Int)) ∧ Below wx.heap.size wx w' from by
    have h1 := next_v h k (by have h1 := HL.out; have h3 := HL60.out; omega)
    rw [next_well HW.out, hz] at h1; exact h1)
  obtain ⟨p, hp⟩ : ∃ p, lessL l x = p := ⟨_, rfl⟩
  obtain ⟨q, hq⟩ : ∃ q, lessL l y = q := ⟨_, rfl⟩
  obtain ⟨r, hr⟩ : ∃ r, lessL l a = r := ⟨_, rfl⟩
  have hpq : p ≤ q := by rw [← hp, ← hq]; exact less_mono HXY.out
  have hqn : q ≤ n := by rw [← hq, ← HL.out]; exact lessL_le l y
  have hrn : r ≤ n := by rw [← hr, ← HL.out]; exact lessL_le l a
  have CX := Lib.hid (HNX.out x p hp)
  have CY := Lib.hid (HNX.out y q hq)
  have CA := Lib.hid (HNX.out a r hr)
  have C0 := Lib.hid (HNX.out noB 0 (less_noS l))
  have HR := Lib.hid hr
  clear hp hq hr
  have hd1 : decide ((q : Int) < (p : Int)) = false := by simp; omega
  have hd1' : decide (q < p) = false := by simp; omega
  have hd2 : decide ((n : Int) < (q : Int)) = false := by simp; omega
  have hd2' : decide (n < q) = false := by simp; omega
  clear hpq hqn
  go_wp2_with fail
  refine (CX.out _ HP2.out).mono ?_
  rintro e w3 ⟨rfl, hbqw3⟩
  have HB3 := Lib.hid (HB2.out.trans (hbqw3.mono HB2.out.size))
  have HP3 := Lib.hid (HP2.out.on hbqw3)
  clear hbqw3 HB2 HP2
  go_wp2_with fail
  refine (CY.out _ HP3.out).mono ?_
  rintro e w4 ⟨rfl, hbqw4⟩
  have HB4 := Lib.hid (HB3.out.trans (hbqw4.mono HB3.out.size))
  have HP4 := Lib.hid (HP3.out.on hbqw4)
  clear hbqw4 HB3 HP3
  go_wp2_with fail
  refine (CY.out _ HP4.out).mono ?_
  rintro e w5 ⟨rfl, hbqw5⟩
  have HB5 := Lib.hid (HB4.out.trans (hbqw5.mono HB4.out.size))
  have HP5 := Lib.hid (HP4.out.on hbqw5)
  clear hbqw5 HB4 HP4
  go_wp2_with fail
  refine (C0.out _ HP5.out).mono ?_
  rintro e w6 ⟨rfl, hbqw6⟩
  have HB6 := Lib.hid (HB5.out.trans (hbqw6.mono HB5.out.size))
  have HP6 := Lib.hid (HP5.out.on hbqw6)
  clear hbqw6 HB5 HP5
  have hl60 := HL60.out
  go_wp2
  go_loopw [63] (fun vi wr => ∃ i : Nat, vi = .int .i64 i ∧ i ≤ n ∧ Below w6.heap.size w6 wr) (fun vi _ => (n - intOf vi).toNat)
  case atStart => exact ⟨0, rfl, by omega, Below.refl _ _⟩
  case round =>
    obtain ⟨i, rfl, hi, hbr⟩ := hrel
    by_cases hlt : i < n
    · have hil : i < l.length := by rw [HL.out]; exact hlt
      obtain ⟨A', c', e', hpl, _, _⟩ := HP6.out.on hbr
      injection e' with e1 e2 e3
      subst e1 e3
      obtain ⟨ad, rfl, hab, hca⟩ := hpl.seeP (by rw [HL.out]; omega)
      obtain ⟨c1, c2⟩ := hca i hil
      have hgp := get_place HW.out i hil
      have hlp : lessL l (l[i]'hil).k = i := less_place (well_sorted HW.out) i hil
      obtain ⟨z, hz⟩ : ∃ z, z = l[i]'hil := ⟨_, rfl⟩
      rw [← hz] at c1 c2 hgp hlp
      clear hz hca e2 hpl
      obtain ⟨zk, zv⟩ := z
      simp only at c1 c2 hgp hlp
      have hbs := hbr.size
      obtain ⟨g, hg⟩ : ∃ g, g = wr.heap.size := ⟨_, rfl⟩
      obtain ⟨wA, hwA⟩ : ∃ wA, wA = wr.alloc (.cells #[.string zk, .string zv] 36) := ⟨_, rfl⟩
      have hbA : Below w6.heap.size w6 wA := by rw [hwA]; exact hbr.alloc hbs _
      have HBX := Lib.hid (show Box wA g 36 #[.string zk, .string zv] from by rw [hwA]; exact Box.at_ wr _ _ hg)
      have HC := Lib.hid (show ∀ wx, Below wA.heap.size wA wx → wx.cell? ⟨g, 0, none⟩ = some (.string zk) ∧ wx.cell? ⟨g, 1, none⟩ = some (.string zv) from fun wx hS => ⟨Box.cell (Box.on HBX.out hS) 0 rfl, Box.cell (Box.on HBX.out hS) 1 rfl⟩)
      have CG := Lib.hid (fun (wx : World) (h : PV wx (.slice (some ad) n c) l) => show Calls Try.prog 14 #[.slice (some ad) n c, .string zk] wx fun e w' => e = .returned (.tuple #[.string zv, .bool true]) ∧ Below wx.heap.size wx w' from by
        have h1 := get_v h zk (by have h1 := HL.out; omega)
        rw [hgp] at h1; exact h1)
      have CN := Lib.hid (HNX.out zk i hlp)
      have HBA := Lib.hid (HB6.out.trans (hbA.mono HB6.out.size))
      have HPA := Lib.hid (HP6.out.on hbA)
      have H6A := Lib.hid hbA
      have HAA := Lib.hid (Below.refl wA.heap.size wA)
      go_upto_region 9 with fail
      rw [← hg, ← hwA]
      clear hwA hg hbA hbr hbs c1 c2 hgp hlp hab
      obtain ⟨z1, z2⟩ := HC.out wA HAA.out
      go_wp2_with fail
      refine (CG.out _ HPA.out).mono ?_
      clear z1 z2
      rintro e w7 ⟨rfl, hb7⟩
      have HB7 := Lib.hid (HBA.out.trans (hb7.mono HBA.out.size))
      have H67 := Lib.hid (H6A.out.trans (hb7.mono H6A.out.size))
      have HA7 := Lib.hid (HAA.out.trans (hb7.mono HAA.out.size))
      have HP7 := Lib.hid (HPA.out.on hb7)
      clear hb7 HBA H6A HAA HPA
      obtain ⟨z1, z2⟩ := HC.out w7 HA7.out
      go_wp2_with fail
      refine (CN.out _ HP7.out).mono ?_
      clear z1 z2
      rintro e w8 ⟨rfl, hb8⟩
      have HB8 := Lib.hid (HB7.out.trans (hb8.mono HB7.out.size))
      have H68 := Lib.hid (H67.out.trans (hb8.mono H67.out.size))
      have HA8 := Lib.hid (HA7.out.trans (hb8.mono HA7.out.size))
      have HP8 := Lib.hid (HP7.out.on hb8)
      clear hb8 HB7 H67 HA7 HP7
      obtain ⟨z1, z2⟩ := HC.out w8 HA8.out
      have hii : ((i : Int) != (i : Int)) = false := by simp
      have hzz : (zv.toList == zv.toList) = true := by simp
      go_wp2
      go_roundw
      case rel => exact ⟨i + 1, by first | rfl | go_num, by omega, H68.out⟩
      case measure => simp [intOf]; omega
    · obtain ⟨w7, hw7⟩ : ∃ w7, w7 = wr := ⟨_, rfl⟩
      rw [← hw7] at hbr ⊢
      have HB7 := Lib.hid (HB6.out.trans (hbr.mono HB6.out.size))
      have HP7 := Lib.hid (HP6.out.on hbr)
      clear hbr hw7 HB6 HP6
      obtain ⟨gv, hgv⟩ : ∃ gv, gv = (getA l a).1 := ⟨_, rfl⟩
      obtain ⟨gh, hgh⟩ : ∃ gh, gh = (getA l a).2 := ⟨_, rfl⟩
      have CG := Lib.hid (fun (wx : World) (h : PV wx (.slice A n c) l) => show Calls Try.prog 14 #[.slice A n c, .string a] wx fun e w' => e = .returned (.tuple #[.string gv, .bool gh]) ∧ Below wx.heap.size wx w' from by
        have h1 := get_v h a (by have h1 := HL.out; omega)
        rw [← hgv, ← hgh] at h1; exact h1)
      have hiff := has_place HW.out a
      rw [← hgh] at hiff
      have HIF := Lib.hid hiff
      clear hgv hgh hiff
      go_wp2_with fail
      refine (CG.out _ HP7.out).mono ?_
      clear CG
      rintro e w8 ⟨rfl, hb8⟩
      have HB8 := Lib.hid (HB7.out.trans (hb8.mono HB7.out.size))
      have HP8 := Lib.hid (HP7.out.on hb8)
      clear hb8 HB7 HP7
      go_wp2_with fail
      refine (CA.out _ HP8.out).mono ?_
      rintro e w9 ⟨rfl, hb9⟩
      have HB9z := Lib.hid (HB8.out.trans (hb9.mono HB8.out.size))
      have HP9 := Lib.hid (HP8.out.on hb9)
      clear hb9 HB8 HP8
      by_cases hrl : r < n
      · have hrd : decide (r < n) = true := decide_eq_true hrl
        have hrd' : decide ((r : Int) < (n : Int)) = true := by simp; omega
        obtain ⟨A', c', e', hpl, _, _⟩ := HP9.out
        injection e' with e1 e2 e3
        subst e1 e3
        obtain ⟨ad, rfl, hab, hca⟩ := hpl.seeP (by rw [HL.out]; omega)
        have hrlen : r < l.length := by rw [HL.out]; exact hrl
        obtain ⟨c1, c2⟩ := hca r hrlen
        obtain ⟨z, hz⟩ : ∃ z, z = (l[r]'hrlen).k := ⟨_, rfl⟩
        rw [← hz] at c1
        have HGH := Lib.hid (show gh = true ↔ z = a from by
          rw [HIF.out, hz]
          have hr := HR.out
          constructor
          · rintro ⟨h1, h2⟩
            have e : (l[r]'hrlen) = l[lessL l a]'h1 := by congr 1; exact hr.symm
            rw [e]; exact h2
          · intro h1
            refine ⟨by omega, ?_⟩
            have e : (l[lessL l a]'(by omega)) = l[r]'hrlen := by congr 1
            rw [e]; exact h1)
        clear hz hca c2 hpl e2
        by_cases hza : z = a
        · have hgt : gh = true := HGH.out.2 hza
          have hzz := str_eq hza
          subst hgt
          clear hza
          go_wp2_with fail
          refine (awake_true _).mono ?_
          rintro e w9 ⟨rfl, hb9⟩
          have HB9 := Lib.hid (HB9z.out.trans (hb9.mono HB9z.out.size))
          clear hb9
          go_wp2
          go_ret
          exact ⟨rfl, HB9.out⟩
        · have hgt : gh = false := by
            cases gh with
            | false => rfl
            | true => exact absurd (HGH.out.1 rfl) hza
          have hzz := str_ne hza
          subst hgt
          clear hza
          go_wp2_with fail
          refine (awake_true _).mono ?_
          rintro e w9 ⟨rfl, hb9⟩
          have HB9 := Lib.hid (HB9z.out.trans (hb9.mono HB9z.out.size))
          clear hb9
          go_wp2
          go_ret
          exact ⟨rfl, HB9.out⟩
      · have hrd : decide (r < n) = false := decide_eq_false hrl
        have hrd' : decide ((r : Int) < (n : Int)) = false := by simp; omega
        have hgt : gh = false := by
          cases gh with
          | false => rfl
          | true =>
            obtain ⟨h1, _⟩ := HIF.out.1 rfl
            have h2 := HR.out; have h3 := HL.out
            omega
        subst hgt
        clear hrl
        go_wp2_with fail
        refine (awake_true _).mono ?_
        rintro e w9 ⟨rfl, hb9⟩
        have HB9 := Lib.hid (HB9z.out.trans (hb9.mono HB9z.out.size))
        clear hb9
        go_wp2
        go_ret
        exact ⟨rfl, HB9.out⟩

end Go.Proofs.Ytggfegogjmckcaa
