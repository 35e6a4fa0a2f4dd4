/- The walk of awake. -/
import Derived.Test.YtaboccbakicmhaaPn
set_option linter.unusedVariables false
set_option linter.unusedSimpArgs false
namespace Go.Proofs.Ytaboccbakicmhaa
open Go.RowKit

abbrev kA : ByteArray := ⟨#[97]⟩
abbrev kB : ByteArray := ⟨#[98]⟩
abbrev kC : ByteArray := ⟨#[99]⟩
abbrev kK : ByteArray := ⟨#[107]⟩
def an3 : List Nt := [⟨3, kK, noB, 1⟩, ⟨2, kA, noB, 0⟩, ⟨3, kK, noB, 2⟩]
def an2 : List Nt := [⟨2, kA, noB, 0⟩, ⟨3, kK, noB, 3⟩]
theorem ak_lt : kA < kK := by show ltS _ _ = true; unfold ltS; rw [ByteArray.toList_eq, ByteArray.toList_eq]; rfl
theorem ab_lt : kA < kB := by show ltS _ _ = true; unfold ltS; rw [ByteArray.toList_eq, ByteArray.toList_eq]; rfl
theorem bc_lt : kB < kC := by show ltS _ _ = true; unfold ltS; rw [ByteArray.toList_eq, ByteArray.toList_eq]; rfl
theorem ck_lt : kC < kK := by show ltS _ _ = true; unfold ltS; rw [ByteArray.toList_eq, ByteArray.toList_eq]; rfl
theorem oa_lt : noB < kA := by show ltS _ _ = true; unfold ltS; rw [ByteArray.toList_eq, ByteArray.toList_eq]; rfl
theorem ob_lt : noB < kB := by show ltS _ _ = true; unfold ltS; rw [ByteArray.toList_eq, ByteArray.toList_eq]; rfl
theorem push3 : pushL [] an3 = an2 := by
  have h1 : ¬ kK < kA := by have := ak_lt; grind
  have h2 : ¬ kK < kK := by grind
  have n1 : kK ≠ kA := by decide
  have n2 : kA ≠ kK := by decide
  unfold pushL an3 an2
  simp only [List.foldl_cons, List.foldl_nil]
  have e1 : pushOne [] ⟨3, kK, noB, 1⟩ = [⟨3, kK, noB, 1⟩] := rfl
  rw [e1]
  have e2 : pushOne [⟨3, kK, noB, 1⟩] ⟨2, kA, noB, 0⟩ = [⟨2, kA, noB, 0⟩, ⟨3, kK, noB, 1⟩] := by
    unfold pushOne
    rw [getN_cons, if_neg n1, getN_nil]
    simp only [List.filter_cons, List.filter_nil, decide_eq_false h1, decide_eq_true ak_lt]
    rfl
  rw [e2]
  unfold pushOne
  rw [getN_cons, if_neg n2, getN_cons, if_pos rfl]
  simp only [List.filter_cons, List.filter_nil, decide_eq_false h1, decide_eq_false h2, decide_eq_true ak_lt]
  rfl
theorem rightA : an3.all rightN = true := by decide
theorem pushA3 : pushA [] an3 = an2 ∧ pushE [] an3 = 0 := by
  unfold pushA pushE
  rw [rightA, well_nil]
  exact ⟨push3, rfl⟩
theorem wellA : wellN an2 = true := by rw [← push3]; exact well_pushL well_nil rightA
theorem findA3 : findA an2 kK = (⟨3, kK, noB, 3⟩, true) := by
  unfold findA
  rw [wellA, if_pos rfl]
  have h : getN an2 kK = some ⟨3, kK, noB, 3⟩ := rfl
  rw [h]
theorem part2 (k a b : ByteArray) : partN' k [a, b] = if b ≤ k then 1 else 0 := by
  have e : partN' k [a, b] = if b ≤ k then 1 else partTo k [a, b] 1 := rfl
  have e1 : partTo k [a, b] 1 = 0 := by
    unfold partTo
    split <;> rfl
  rw [e, e1]
theorem rises2 {a b : ByteArray} (h : a < b) : risesS [a, b] = true := by
  rw [risesS_iff]
  intro i hi h0
  match i, hi, h0 with
  | 1, _, _ => exact h
theorem splitA2 : splitA an2 [noB, kB] = [[⟨2, kA, noB, 0⟩], [⟨3, kK, noB, 3⟩]] := by
  have h1 : ¬ kB ≤ kA := by have := ab_lt; grind
  have h2 : kB ≤ kK := by have := bc_lt; have := ck_lt; grind
  unfold splitA
  rw [wellA, rises2 ob_lt]
  show splitL _ _ = _
  unfold splitL an2
  simp only [List.length_cons, List.length_nil, List.range_succ, List.range_zero, List.nil_append, List.cons_append, List.map_cons, List.map_nil, List.filter_cons, List.filter_nil, part2, if_neg h1, if_pos h2]
  rfl
theorem splitB2 : splitA an2 [kB, kC] = [[⟨2, kA, noB, 0⟩], [⟨3, kK, noB, 3⟩]] := by
  have h1 : ¬ kC ≤ kA := by have := ab_lt; have := bc_lt; grind
  have h2 : kC ≤ kK := by have := ck_lt; grind
  unfold splitA
  rw [wellA, rises2 bc_lt]
  show splitL _ _ = _
  unfold splitL an2
  simp only [List.length_cons, List.length_nil, List.range_succ, List.range_zero, List.nil_append, List.cons_append, List.map_cons, List.map_nil, List.filter_cons, List.filter_nil, part2, if_neg h1, if_pos h2]
  rfl
theorem mostA2 {m : Nat} (h : MostA an2 [kB, kC] m) : m = 0 := by
  unfold MostA at h
  rw [splitB2] at h
  rcases h with ⟨_, h⟩ | h
  · exact h
  · refine most_uniq h ⟨by decide, fun i hi => ?_⟩
    match i, hi with
    | 0, _ => exact ⟨Nat.le_refl _, fun h => absurd h (by decide)⟩
    | 1, _ => exact ⟨Nat.le_refl _, fun h => absurd h (by decide)⟩
theorem badA (ns : List Nt) : pushE [nt0] ns = 1 := by
  have h : wellN [nt0] = false := by
    cases e : wellN [nt0] with
    | false => rfl
    | true => have h1 := wellN_right e; exact absurd h1 (by decide)
  unfold pushE
  rw [h]; rfl
theorem parts_open {w : World} {v : Value} (h : NVV w v [[⟨2, kA, noB, 0⟩], [⟨3, kK, noB, 3⟩]]) : ∃ (ad : Addr) (c : Nat) (B1 B2 : Option Addr) (e1 e2 : Nat), v = .slice (some ad) 2 c ∧ ad.block < w.heap.size ∧ w.cell? ad = some (.slice B1 1 e1) ∧ w.cell? ⟨ad.block, ad.off + 1, none⟩ = some (.slice B2 1 e2) := by
  obtain ⟨A, c, e, hp⟩ := h.part
  obtain ⟨ad, u1, rfl, hab, hu1, hp1⟩ := hp 0 (by decide)
  obtain ⟨ad2, u2, e5, _, hu2, hp2⟩ := hp 1 (by decide)
  injection e5 with e5
  subst e5
  obtain ⟨B1, e1, rfl⟩ := hp1.shape
  obtain ⟨B2, e2, rfl⟩ := hp2.shape
  exact ⟨ad, c, B1, B2, e1, e2, e, hab, by rwa [Addr.add_zero'] at hu1, hu2⟩
theorem notes_open2 {w : World} {v : Value} (h : NV w v an2) : ∃ (A : Option Addr) (c : Nat), v = .slice A 2 c := by
  obtain ⟨A, c, rfl, _, _, _⟩ := h
  exact ⟨A, c, rfl⟩

set_option maxHeartbeats 4000000 in
set_option maxRecDepth 100000 in
theorem awake_true (w : World) : Calls Try.prog 10 #[] w fun e w' => e = .returned (.bool true) ∧ Below w.heap.size w w' := by
  have hap := fun wx (v u : Value) (h : NV wx v []) (g : NV wx u an3) => ppush_v h g (by decide)
  rw [pushA3.1, pushA3.2] at hap
  have hfi := fun wx (v : Value) (h : NV wx v an2) => show Calls Try.prog 13 #[v, .string kK] wx fun e w' => e = .returned (.tuple #[.agg #[.int .i64 3, .string kK, .string noB, .int .u64 3], .bool true]) ∧ Below wx.heap.size wx w' from by
    have h1 := pfind_v h kK (by decide)
    rw [findA3] at h1
    exact h1
  have hsp := fun wx (v u : Value) (h : NV wx v an2) (g : SSV wx u [noB, kB]) => psplit_v h g (by decide) (by decide)
  rw [splitA2] at hsp
  have hba := fun wx (v u : Value) (h : NV wx v [nt0]) (g : NV wx u []) => ppush_v h g (by decide)
  rw [badA] at hba
  have hmo := fun wx (v u : Value) (h : NV wx v an2) (g : SSV wx u [kB, kC]) => pmost_v h g (by decide) (by decide)
  have hri := fun wx (v : Value) (h : NV wx v an2) => pright_v h (by unfold maxLen; decide)
  rw [wellA] at hri
  have HAP := Lib.hid hap
  have HFI := Lib.hid hfi
  have HSP := Lib.hid hsp
  have HBA := Lib.hid hba
  have HMO := Lib.hid hmo
  have HRI := Lib.hid hri
  clear hap hfi hsp hba hmo hri
  go_enter Try.func10, Try.ntmps10
  go_wp2_with fail
  have c1 := HAP.out (w.alloc (.cells #[.int .i64 3, .string kK, .string noB, .int .u64 1, .int .i64 2, .string kA, .string noB, .int .u64 0, .int .i64 3, .string kK, .string noB, .int .u64 2] 32)) (.slice none 0 0) (.slice (some ⟨w.heap.size, 0, none⟩) 3 3) (NV.nil _) (NV.lit rfl rfl rfl)
  refine c1.mono ?_
  clear c1 HAP
  rintro e w1 ⟨v1, rfl, hp1, hb1⟩
  have hbw1 : Below w.heap.size w w1 := ((Below.refl _ w).alloc (Nat.le_refl _) _).trans (hb1.mono (by simp))
  have HB1 := Lib.hid hbw1
  have HP1 := Lib.hid hp1
  clear hb1 hp1 hbw1
  go_wp2_with fail
  have c2 := HFI.out w1 v1 HP1.out
  refine c2.mono ?_
  clear c2 HFI
  rintro e w2 ⟨rfl, hb2⟩
  have HB2 := Lib.hid (HB1.out.trans (hb2.mono HB1.out.size))
  have HP2 := Lib.hid (HP1.out.on hb2)
  clear hb2 HB1 HP1
  go_upto_region 3 with fail
  obtain ⟨g, hg⟩ : ∃ g, g = w2.heap.size := ⟨_, rfl⟩
  obtain ⟨w3, hw3⟩ : ∃ w3, w3 = w2.alloc (.cells #[.int .i64 3, .string kK, .string noB, .int .u64 3] 32) := ⟨_, rfl⟩
  have HBX := Lib.hid (show NBlk w3 g ⟨3, kK, noB, 3⟩ by rw [hw3]; exact Box.at_ w2 _ _ hg)
  have hbw3 : Below w2.heap.size w2 w3 := by rw [hw3]; exact (Below.refl _ _).alloc (Nat.le_refl _) _
  have HB3 := Lib.hid (HB2.out.trans (hbw3.mono HB2.out.size))
  have HP3 := Lib.hid (HP2.out.on hbw3)
  first | rw [← hg, ← hw3] | rw [← hw3, ← hg] | skip
  clear hg hw3 hbw3 HB2 HP2
  go_wp2_with fail
  have c3 := HSP.out (w3.alloc (.cells #[.string noB, .string kB] 9)) v1 (.slice (some ⟨w3.heap.size, 0, none⟩) 2 2) (HP3.out.push _) (SSV.two _ _ _ rfl)
  refine c3.mono ?_
  clear c3 HSP
  rintro e w4 ⟨v4, rfl, hs4, hb4⟩
  have hbw4 := below1 hb4
  have HB4 := Lib.hid (HB3.out.trans (hbw4.mono HB3.out.size))
  have HP4 := Lib.hid (HP3.out.on hbw4)
  have HBX4 := Lib.hid (HBX.out.on hbw4)
  have HS4 := Lib.hid hs4
  clear hb4 hbw4 HB3 HP3 hs4 HBX
  go_wp2_with fail
  have c4 := HBA.out (w4.alloc (.cells #[.int .i64 0, .string noB, .string noB, .int .u64 0] 32)) (.slice (some ⟨w4.heap.size, 0, none⟩) 1 1) (.slice none 0 0) (NV.lit rfl rfl rfl) (NV.nil _)
  refine c4.mono ?_
  clear c4 HBA
  rintro e w5 ⟨v5, rfl, _, hb5⟩
  have hbw5 := below1 hb5
  have HB5 := Lib.hid (HB4.out.trans (hbw5.mono HB4.out.size))
  have HP5 := Lib.hid (HP4.out.on hbw5)
  have HBX5 := Lib.hid (HBX4.out.on hbw5)
  obtain ⟨ad, cc, B1, B2, e1, e2, rfl, hab, h31, h32⟩ := parts_open (HS4.out.on hbw5)
  obtain ⟨A1, c1, rfl⟩ := notes_open2 HP5.out
  obtain ⟨b1, b2, b3, b4⟩ := NBlk.cells HBX5.out
  simp only at b1 b2 b3 b4
  have hss := str_eq (rfl : kK = kK)
  clear hb5 hbw5 HB4 HP4 HS4 HBX4
  go_wp2_with fail
  have c6 := HMO.out (w5.alloc (.cells #[.string kB, .string kC] 9)) _ (.slice (some ⟨w5.heap.size, 0, none⟩) 2 2) (HP5.out.push _) (SSV.two _ _ _ rfl)
  refine c6.mono ?_
  clear c6 HMO
  rintro e w6 ⟨m, rfl, hm, hb6⟩
  obtain rfl := mostA2 hm
  have hbw6 := below1 hb6
  have HB6 := Lib.hid (HB5.out.trans (hbw6.mono HB5.out.size))
  have HP6 := Lib.hid (HP5.out.on hbw6)
  clear hb6 hbw6 HB5 HP5 HBX5 h31 h32 b1 b2 b3 b4 hab hm
  go_wp2_with fail
  refine (HRI.out w6 _ HP6.out).mono ?_
  clear HRI
  rintro e w7 ⟨rfl, hb7⟩
  have HB7 := Lib.hid (HB6.out.trans (hb7.mono HB6.out.size))
  clear hb7 HB6 HP6
  go_wp2
  go_ret
  exact ⟨rfl, HB7.out⟩

end Go.Proofs.Ytaboccbakicmhaa
