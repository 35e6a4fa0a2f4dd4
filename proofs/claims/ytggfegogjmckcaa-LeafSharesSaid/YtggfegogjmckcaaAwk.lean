/- The walk of awake. -/
import Derived.Test.YtggfegogjmckcaaAwake
namespace Go.Proofs.Ytggfegogjmckcaa
open Go.RowKit

/-- A part of a value that is a slice of slices of pairs. -/
theorem SV.part {w : World} {v : Value} {ps : List (List Pr)} (h : SV w v ps) : ∃ (A : Option Addr) (c : Nat), v = .slice A ps.length c ∧ ∀ (i : Nat) (hi : i < ps.length), ∃ (ad : Addr) (u : Value), A = some ad ∧ ad.block < w.heap.size ∧ w.cell? (ad.add i) = some u ∧ PV w u ps[i] := by
  obtain ⟨A, c, vs, e, hl, hp, h2⟩ := h
  refine ⟨A, c, e, fun i hi => ?_⟩
  obtain ⟨u, h3, h4⟩ := h2 i hi
  obtain ⟨ad, e1, hB, hc⟩ := hp (by rw [hl]; omega)
  obtain ⟨hi2, h5⟩ := List.getElem?_eq_some_iff.1 h3
  have h6 := hc i hi2 0 u (by rw [h5]; rfl)
  rw [Addr.add_zero', Nat.mul_one] at h6
  exact ⟨ad, u, e1, hB, h6, h4⟩

theorem PV.shape {w : World} {u : Value} {p : List Pr} (h : PV w u p) : ∃ B d, u = .slice B p.length d := let ⟨B, d, e, _⟩ := h; ⟨B, d, e⟩
theorem three_open {w : World} {v : Value} (h : SV w v (shareL five 2)) : ∃ (ad : Addr) (c : Nat) (B1 B2 : Option Addr) (e1 e2 : Nat), v = .slice (some ad) 3 c ∧ ad.block < w.heap.size ∧ w.cell? ⟨ad.block, ad.off + 1, none⟩ = some (.slice B1 2 e1) ∧ w.cell? ⟨ad.block, ad.off + 2, none⟩ = some (.slice B2 1 e2) := by
  obtain ⟨A, c, e, hp⟩ := h.part
  have hl : (shareL five 2).length = 3 := rfl
  obtain ⟨ad, u1, rfl, hab, hu1, hp1⟩ := hp 1 (by rw [hl]; decide)
  obtain ⟨ad2, u2, e5, _, hu2, hp2⟩ := hp 2 (by rw [hl]; decide)
  injection e5 with e5
  subst e5
  obtain ⟨B1, e1, rfl⟩ := hp1.shape
  obtain ⟨B2, e2, rfl⟩ := hp2.shape
  rw [hl] at e
  exact ⟨ad, c, B1, B2, e1, e2, e, hab, hu1, hu2⟩
theorem two_open {w : World} {v : Value} (h : PV w v ps2) : ∃ (ad : Addr) (c : Nat), v = .slice (some ad) 2 c ∧ ad.block < w.heap.size ∧ w.cell? ⟨ad.block, ad.off + 2, none⟩ = some (.string kB) ∧ w.cell? ⟨ad.block, ad.off + 3, none⟩ = some (.string d2) := by
  obtain ⟨A, c, rfl, hp, _, _⟩ := h
  obtain ⟨ad, rfl, hab, hca⟩ := hp.seeP (by decide)
  have h1 := hca 1 (by decide)
  exact ⟨ad, c, rfl, hab, h1.1, h1.2⟩

set_option maxHeartbeats 4000000 in
set_option maxRecDepth 100000 in
theorem awake_true (w : World) : Calls Try.prog 11 #[] w fun e w' => e = .returned (.bool true) ∧ Below w.heap.size w w' := by
  have hap := fun wx (v u : Value) (h : PV wx v []) (g : NV wx u ns3) => apply_v h g (by decide)
  rw [apply3.1, apply3.2] at hap
  have hge := fun wx (v : Value) (h : PV wx v ps2) => get_v h kA (by decide)
  rw [get2] at hge
  have hsh := fun wx (v : Value) (h : PV wx v five) => share_v h 2 (by decide) (by decide)
  have hap2 := fun wx (v u : Value) (h : PV wx v bad2) (g : NV wx u []) => apply_v h g (by decide)
  rw [badE] at hap2
  have hne := fun wx (v : Value) (h : PV wx v ps2) => next_v h kB (by decide)
  rw [next2] at hne
  have hri := fun wx (v : Value) (h : PV wx v ps2) => right_v h (by unfold maxLen; decide)
  rw [well2] at hri
  have HAP := Lib.hid hap
  have HGE := Lib.hid hge
  have HSH := Lib.hid hsh
  have HA2 := Lib.hid hap2
  have HNE := Lib.hid hne
  have HRI := Lib.hid hri
  clear hap hge hsh hap2 hne hri
  go_enter Try.func11, Try.ntmps11
  go_wp2_with fail
  have c1 := HAP.out (w.alloc (.cells #[.int .i64 1, .string kB, .string d2, .int .u64 0, .int .i64 1, .string kA, .string d1, .int .u64 0, .int .i64 2, .string kC, .string noB, .int .u64 0] 46)) (.slice none 0 0) (.slice (some ⟨w.heap.size, 0, none⟩) 3 3) (PV.nil _) (NV.lit rfl rfl rfl)
  refine c1.mono ?_
  clear c1 HAP
  rintro e w1 ⟨v1, rfl, hp1, hb1⟩
  have hbw1 : Below w.heap.size w w1 := ((Below.refl _ w).alloc (Nat.le_refl _) _).trans (hb1.mono (by simp))
  have HB1 := Lib.hid hbw1
  have HP1 := Lib.hid hp1
  clear hb1 hp1 hbw1
  go_wp2_with fail
  have c2 := HGE.out w1 v1 HP1.out
  refine c2.mono ?_
  clear c2 HGE
  rintro e w2 ⟨rfl, hb2⟩
  have HB2 := Lib.hid (HB1.out.trans (hb2.mono HB1.out.size))
  have HP2 := Lib.hid (HP1.out.on hb2)
  clear hb2 HB1 HP1
  go_wp2_with fail
  have c3 := HSH.out (w2.alloc (.cells #[.string noB, .string noB, .string noB, .string noB, .string noB, .string noB, .string noB, .string noB, .string noB, .string noB] 36)) (.slice (some ⟨w2.heap.size, 0, none⟩) 5 5) (PV.lit rfl rfl rfl)
  refine c3.mono ?_
  clear c3 HSH
  rintro e w3 ⟨v3, rfl, hs3, hb3⟩
  have hb23 : Below w2.heap.size w2 w3 := ((Below.refl _ w2).alloc (Nat.le_refl _) _).trans (hb3.mono (by simp))
  have HB3 := Lib.hid (HB2.out.trans (hb23.mono HB2.out.size))
  have HP3 := Lib.hid (HP2.out.on hb23)
  have HS3 := Lib.hid hs3
  clear hb23 hb3 HB2 HP2 hs3
  go_wp2_with fail
  have c4 := HA2.out (w3.alloc (.cells #[.string kB, .string noB, .string kA, .string noB] 36)) (.slice (some ⟨w3.heap.size, 0, none⟩) 2 2) (.slice none 0 0) (PV.lit rfl rfl rfl) (NV.nil _)
  refine c4.mono ?_
  clear c4 HA2
  rintro e w4 ⟨v4, rfl, _, hb4⟩
  have hb34 : Below w3.heap.size w3 w4 := ((Below.refl _ w3).alloc (Nat.le_refl _) _).trans (hb4.mono (by simp))
  have HB4 := Lib.hid (HB3.out.trans (hb34.mono HB3.out.size))
  have HP4 := Lib.hid (HP3.out.on hb34)
  obtain ⟨ad3, c3, B1, B2, e1, e2, rfl, hab3, h31, h32⟩ := three_open (HS3.out.on hb34)
  obtain ⟨ad4, c4, rfl, hab4, h41, h42⟩ := two_open HP4.out
  clear hb34 hb4 HB3 HP3 HS3
  go_wp2_with fail
  refine (HNE.out w4 _ HP4.out).mono ?_
  clear HNE
  rintro e w5 ⟨rfl, hb5⟩
  have HB5 := Lib.hid (HB4.out.trans (hb5.mono HB4.out.size))
  have HP5 := Lib.hid (HP4.out.on hb5)
  clear hb5 HB4 HP4 h31 h32 h41 h42 hab3 hab4
  go_wp2_with fail
  refine (HRI.out w5 _ HP5.out).mono ?_
  clear HRI
  rintro e w6 ⟨rfl, hb6⟩
  have HB6 := Lib.hid (HB5.out.trans (hb6.mono HB5.out.size))
  clear hb6 HB5 HP5
  go_wp2
  go_ret
  exact ⟨rfl, HB6.out⟩

end Go.Proofs.Ytggfegogjmckcaa
