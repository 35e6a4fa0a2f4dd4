/- The walk of the law LeafTwice. -/
import Derived.Test.YtggfegogjmckcaaAwk
import Derived.Test.YtggfegogjmckcaaFct
namespace Go.Proofs.Ytggfegogjmckcaa
open Go.RowKit

set_option maxHeartbeats 4000000 in
set_option maxRecDepth 100000 in
theorem twice_walk (v : Value) (l : List Pr) (nk : Int) (key nv : ByteArray) (nn : UInt64) (w : World) (hP : PV w v l) (hn : l.length ≤ maxLen) :
    Calls Try.prog 8 #[v, .agg #[.int .i64 nk, .string key, .string nv, .int .u64 (nn.toNat : Int)]] w fun e w' => e = .returned (.bool true) ∧ Below w.heap.size w w' := by
  obtain ⟨g, hg⟩ : ∃ g, g = w.heap.size := ⟨_, rfl⟩
  obtain ⟨w1, hw1⟩ : ∃ w1, w1 = w.alloc (.cells #[.int .i64 nk, .string key, .string nv, .int .u64 (nn.toNat : Int)] 46) := ⟨_, rfl⟩
  have hb1 : Below w.heap.size w w1 := by rw [hw1]; exact (Below.refl _ _).alloc (Nat.le_refl _) _
  have HBX := Lib.hid (show NBlk w1 g ⟨nk, key, nv, nn⟩ from by rw [hw1]; exact Box.at_ w _ _ hg)
  have HP1 := Lib.hid (hP.on hb1)
  have HB1 := Lib.hid hb1
  have HN := Lib.hid hn
  have HC := Lib.hid (show ∀ wx, Below w1.heap.size w1 wx → wx.cell? ⟨g, 0, none⟩ = some (.int .i64 nk) ∧ wx.cell? ⟨g, 1, none⟩ = some (.string key) ∧ wx.cell? ⟨g, 2, none⟩ = some (.string nv) ∧ wx.cell? ⟨g, 3, none⟩ = some (.int .u64 (nn.toNat : Int)) from fun wx hS => NBlk.cells (HBX.out.on hS))
  clear hP hb1 hn
  go_enter Try.func8, Try.ntmps8
  go_upto_region 1 with fail
  rw [← hg, ← hw1]
  clear hg hw1
  go_wp2_with fail
  refine (small_v HP1.out).mono ?_
  rintro e w2 ⟨R, rfl, h60, hb2⟩
  have HB12 := Lib.hid hb2
  have HB2 := Lib.hid (HB1.out.trans (hb2.mono HB1.out.size))
  have HP2 := Lib.hid (HP1.out.on hb2)
  have H60 := Lib.hid h60
  clear hb2 h60
  cases R with
  | false =>
    go_wp2_with fail
    refine (awake_true _).mono ?_
    rintro e w9 ⟨rfl, hb9⟩
    have HB9 := Lib.hid (HB2.out.trans (hb9.mono HB2.out.size))
    clear hb9
    go_wp2
    go_ret
    exact ⟨rfl, HB9.out⟩
  | true =>
  have hl60 : l.length ≤ 60 := H60.out rfl
  have HL := Lib.hid hl60
  clear hl60
  go_wp2_with fail
  refine (right_v HP2.out HN.out).mono ?_
  rintro e w3 ⟨rfl, hb3⟩
  have HB13 := Lib.hid (HB12.out.trans (hb3.mono HB12.out.size))
  have HB3 := Lib.hid (HB2.out.trans (hb3.mono HB2.out.size))
  have HP3 := Lib.hid (HP2.out.on hb3)
  clear hb3
  cases hwell : wellL l with
  | false =>
    clear hwell
    go_wp2_with fail
    refine (awake_true _).mono ?_
    rintro e w9 ⟨rfl, hb9⟩
    have HB9 := Lib.hid (HB3.out.trans (hb9.mono HB3.out.size))
    clear hb9
    go_wp2
    go_ret
    exact ⟨rfl, HB9.out⟩
  | true =>
  have HW := Lib.hid hwell
  clear hwell
  obtain ⟨c1, c2, c3, c4⟩ := HC.out w3 HB13.out
  go_wp2_with fail
  refine (few_v (l := [⟨nk, key, nv, nn⟩]) (NV.lit rfl rfl rfl)).mono ?_
  clear c1 c2 c3 c4
  rintro e w4 ⟨R, rfl, _, hb4⟩
  have hb34 : Below w3.heap.size w3 w4 := ((Below.refl _ w3).alloc (Nat.le_refl _) _).trans (hb4.mono (by simp))
  have HB14 := Lib.hid (HB13.out.trans (hb34.mono HB13.out.size))
  have HB4 := Lib.hid (HB3.out.trans (hb34.mono HB3.out.size))
  have HP4 := Lib.hid (HP3.out.on hb34)
  clear hb4 hb34
  obtain ⟨c1, c2, c3, c4⟩ := HC.out w4 HB14.out
  cases R with
  | false =>
    go_wp2_with fail
    refine (awake_true _).mono ?_
    rintro e w9 ⟨rfl, hb9⟩
    have HB9 := Lib.hid (HB4.out.trans (hb9.mono HB4.out.size))
    clear hb9
    go_wp2
    go_ret
    exact ⟨rfl, HB9.out⟩
  | true =>
  by_cases hk : nk = 1 ∨ nk = 2
  case neg =>
    have hk1 : ((nk : Int) != 1) = true := by simp; omega
    have hk2 : ((nk : Int) != 2) = true := by simp; omega
    have hk3 : ¬ nk = 1 := by omega
    have hk4 : ¬ nk = 2 := by omega
    clear hk
    go_wp2_with fail
    refine (awake_true _).mono ?_
    rintro e w9 ⟨rfl, hb9⟩
    have HB9 := Lib.hid (HB4.out.trans (hb9.mono HB4.out.size))
    clear hb9
    go_wp2
    go_ret
    exact ⟨rfl, HB9.out⟩
  have HTW := Lib.hid (twice_apply l (n := ⟨nk, key, nv, nn⟩) hk)
  rcases hk with rfl | rfl
  · obtain ⟨E1, hE1⟩ : ∃ E1, E1 = applyE l [⟨1, key, nv, nn⟩] := ⟨_, rfl⟩
    obtain ⟨L1, hL1⟩ : ∃ L1, L1 = applyL l [⟨1, key, nv, nn⟩] := ⟨_, rfl⟩
    obtain ⟨E3, hE3⟩ : ∃ E3, E3 = applyE L1 [⟨2, key, noB, 0⟩] := ⟨_, rfl⟩
    obtain ⟨L3, hL3⟩ : ∃ L3, L3 = applyL L1 [⟨2, key, noB, 0⟩] := ⟨_, rfl⟩
    obtain ⟨gv, hgv⟩ : ∃ gv, gv = (getA l key).1 := ⟨_, rfl⟩
    obtain ⟨gh, hgh⟩ : ∃ gh, gh = (getA l key).2 := ⟨_, rfl⟩
    have hLL : L1.length ≤ 61 := by have h1 := apply_len l [⟨1, key, nv, nn⟩]; rw [← hL1] at h1; have h2 := HL.out; simp at h1; omega
    have HA1 := Lib.hid (fun (wx : World) (u : Value) (h : PV wx v l) (g : NV wx u [⟨1, key, nv, nn⟩]) => show Calls Try.prog 12 #[v, u] wx fun e w' => ∃ v', e = .returned (.tuple #[v', .int .i64 E1]) ∧ PV w' v' L1 ∧ Below wx.heap.size wx w' from by
      have h1 := apply_v h g (by have := HL.out; simp; omega)
      rw [← hE1, ← hL1] at h1; exact h1)
    have HA2 := Lib.hid (fun (wx : World) (u : Value) (h : PV wx v l) (g : NV wx u [⟨1, key, nv, nn⟩, ⟨1, key, nv, nn⟩]) => show Calls Try.prog 12 #[v, u] wx fun e w' => ∃ v', e = .returned (.tuple #[v', .int .i64 E1]) ∧ PV w' v' L1 ∧ Below wx.heap.size wx w' from by
      have h1 := apply_v h g (by have := HL.out; simp; omega)
      rw [HTW.out.1, HTW.out.2, ← hE1, ← hL1] at h1; exact h1)
    have HA3 := Lib.hid (fun (wx : World) (v1 u : Value) (h : PV wx v1 L1) (g : NV wx u [⟨2, key, noB, 0⟩]) => show Calls Try.prog 12 #[v1, u] wx fun e w' => ∃ v', e = .returned (.tuple #[v', .int .i64 E3]) ∧ PV w' v' L3 ∧ Below wx.heap.size wx w' from by
      have h1 := apply_v h g (by simp; omega)
      rw [← hE3, ← hL3] at h1; exact h1)
    have HGE := Lib.hid (fun (wx : World) (h : PV wx v l) => show Calls Try.prog 14 #[v, .string key] wx fun e w' => e = .returned (.tuple #[.string gv, .bool gh]) ∧ Below wx.heap.size wx w' from by
      have h1 := get_v h key (by have := HL.out; omega)
      rw [← hgv, ← hgh] at h1; exact h1)
    have HE := Lib.hid (show E1 = 0 ∨ E1 = 1 from by rw [hE1]; exact apply_two _ _)
    have HD := Lib.hid (show gh = false → E1 = 0 → E3 = 0 ∧ L3 = l from fun h1 h2 => by
      have h3 : getL l key = none := by
        rw [hgh] at h1
        unfold getA at h1
        rw [HW.out, if_pos rfl] at h1
        cases e : getL l key with
        | none => rfl
        | some x => rw [e] at h1; cases h1
      rw [hE3, hL3, hL1]
      exact del_back (n := ⟨1, key, nv, nn⟩) h3 (by rw [← hE1]; exact h2))
    have HLL := Lib.hid hLL
    clear hE1 hL1 hE3 hL3 hgv hgh hLL
    have hee : (E1 != E1) = false := by simp
    go_wp2_with fail
    have ca := HA1.out (w4.alloc (.cells #[.int .i64 1, .string key, .string nv, .int .u64 (nn.toNat : Int)] 46)) (.slice (some ⟨w4.heap.size, 0, none⟩) 1 1) (HP4.out.push _) (NV.lit rfl rfl rfl)
    refine ca.mono ?_
    clear ca HA1 c1 c2 c3 c4
    rintro e w5 ⟨va, rfl, hpa, hb5⟩
    have HPA := Lib.hid hpa
    clear hpa
    have hbq : Below w4.heap.size w4 w5 := ((Below.refl _ w4).alloc (Nat.le_refl _) _).trans (hb5.mono (by simp))
    have HB15 := Lib.hid (HB14.out.trans (hbq.mono HB14.out.size))
    have HB5 := Lib.hid (HB4.out.trans (hbq.mono HB4.out.size))
    have HP5 := Lib.hid (HP4.out.on hbq)
    clear hb5 hbq HB14 HB4 HP4
    obtain ⟨c1, c2, c3, c4⟩ := HC.out w5 HB15.out
    go_wp2_with fail
    have ca := HA2.out (w5.alloc (.cells #[.int .i64 1, .string key, .string nv, .int .u64 (nn.toNat : Int), .int .i64 1, .string key, .string nv, .int .u64 (nn.toNat : Int)] 46)) (.slice (some ⟨w5.heap.size, 0, none⟩) 2 2) (HP5.out.push _) (NV.lit rfl rfl rfl)
    refine ca.mono ?_
    clear ca HA2 c1 c2 c3 c4
    rintro e w6 ⟨vb, rfl, hpb, hb6⟩
    have HPB := Lib.hid hpb
    clear hpb
    have hbq : Below w5.heap.size w5 w6 := ((Below.refl _ w5).alloc (Nat.le_refl _) _).trans (hb6.mono (by simp))
    have HB16 := Lib.hid (HB15.out.trans (hbq.mono HB15.out.size))
    have HB6 := Lib.hid (HB5.out.trans (hbq.mono HB5.out.size))
    have HP6 := Lib.hid (HP5.out.on hbq)
    have HPA6 := Lib.hid (HPA.out.on hbq)
    clear hb6 hbq HB15 HB5 HP5 HPA
    obtain ⟨c1, c2, c3, c4⟩ := HC.out w6 HB16.out
    go_wp2_with fail
    have ca := same_v HPA6.out HPB.out (by have := HLL.out; unfold maxLen; omega)
    rw [decide_eq_true rfl] at ca
    refine ca.mono ?_
    clear ca c1 c2 c3 c4 HPB
    rintro e w7 ⟨rfl, hb7⟩
    have HB17 := Lib.hid (HB16.out.trans (hb7.mono HB16.out.size))
    have HB7 := Lib.hid (HB6.out.trans (hb7.mono HB6.out.size))
    have HP7 := Lib.hid (HP6.out.on hb7)
    have HPA7 := Lib.hid (HPA6.out.on hb7)
    clear hb7 HB16 HB6 HP6 HPA6
    obtain ⟨c1, c2, c3, c4⟩ := HC.out w7 HB17.out
    go_wp2_with fail
    refine (HGE.out _ HP7.out).mono ?_
    clear HGE c1 c2 c3 c4
    rintro e w8 ⟨rfl, hb8⟩
    have HB18 := Lib.hid (HB17.out.trans (hb8.mono HB17.out.size))
    have HB8 := Lib.hid (HB7.out.trans (hb8.mono HB7.out.size))
    have HP8 := Lib.hid (HP7.out.on hb8)
    have HPA8 := Lib.hid (HPA7.out.on hb8)
    clear hb8 HB17 HB7 HP7 HPA7
    obtain ⟨c1, c2, c3, c4⟩ := HC.out w8 HB18.out
    go_wp2_with fail
    have ca := HA3.out (w8.alloc (.cells #[.int .i64 2, .string key, .string noB, .int .u64 0] 46)) va (.slice (some ⟨w8.heap.size, 0, none⟩) 1 1) (HPA8.out.push _) (NV.lit rfl rfl rfl)
    refine ca.mono ?_
    clear ca HA3 c1 c2 c3 c4
    rintro e wa ⟨vc, rfl, hpc, hba⟩
    have HPC := Lib.hid hpc
    clear hpc
    have hbq : Below w8.heap.size w8 wa := ((Below.refl _ w8).alloc (Nat.le_refl _) _).trans (hba.mono (by simp))
    have HB1a := Lib.hid (HB18.out.trans (hbq.mono HB18.out.size))
    have HBa := Lib.hid (HB8.out.trans (hbq.mono HB8.out.size))
    have HPa := Lib.hid (HP8.out.on hbq)
    clear hba hbq HB18 HB8 HP8
    cases gh with
    | true =>
      go_wp2_with fail
      refine (awake_true _).mono ?_
      rintro e w9 ⟨rfl, hb9⟩
      have HB9 := Lib.hid (HBa.out.trans (hb9.mono HBa.out.size))
      clear hb9
      go_wp2
      go_ret
      exact ⟨rfl, HB9.out⟩
    | false =>
    have hde := HD.out rfl
    rcases HE.out with hE | hE
    case inr =>
      subst hE
      go_wp2_with fail
      refine (awake_true _).mono ?_
      rintro e w9 ⟨rfl, hb9⟩
      have HB9 := Lib.hid (HBa.out.trans (hb9.mono HBa.out.size))
      clear hb9
      go_wp2
      go_ret
      exact ⟨rfl, HB9.out⟩
    subst hE
    obtain ⟨hE3, hL3⟩ := hde rfl
    subst hE3 hL3
    go_wp2_with fail
    have ca := same_v HPC.out HPa.out HN.out
    rw [decide_eq_true rfl] at ca
    refine ca.mono ?_
    clear ca HPC
    rintro e wb ⟨rfl, hbb⟩
    have HBb := Lib.hid (HBa.out.trans (hbb.mono HBa.out.size))
    clear hbb HBa
    go_wp2_with fail
    refine (awake_true _).mono ?_
    rintro e w9 ⟨rfl, hb9⟩
    have HB9 := Lib.hid (HBb.out.trans (hb9.mono HBb.out.size))
    clear hb9
    go_wp2
    go_ret
    exact ⟨rfl, HB9.out⟩
  · obtain ⟨E1, hE1⟩ : ∃ E1, E1 = applyE l [⟨2, key, nv, nn⟩] := ⟨_, rfl⟩
    obtain ⟨L1, hL1⟩ : ∃ L1, L1 = applyL l [⟨2, key, nv, nn⟩] := ⟨_, rfl⟩
    obtain ⟨E3, hE3⟩ : ∃ E3, E3 = applyE L1 [⟨2, key, noB, 0⟩] := ⟨_, rfl⟩
    obtain ⟨L3, hL3⟩ : ∃ L3, L3 = applyL L1 [⟨2, key, noB, 0⟩] := ⟨_, rfl⟩
    obtain ⟨gv, hgv⟩ : ∃ gv, gv = (getA l key).1 := ⟨_, rfl⟩
    obtain ⟨gh, hgh⟩ : ∃ gh, gh = (getA l key).2 := ⟨_, rfl⟩
    have hLL : L1.length ≤ 61 := by have h1 := apply_len l [⟨2, key, nv, nn⟩]; rw [← hL1] at h1; have h2 := HL.out; simp at h1; omega
    have HA1 := Lib.hid (fun (wx : World) (u : Value) (h : PV wx v l) (g : NV wx u [⟨2, key, nv, nn⟩]) => show Calls Try.prog 12 #[v, u] wx fun e w' => ∃ v', e = .returned (.tuple #[v', .int .i64 E1]) ∧ PV w' v' L1 ∧ Below wx.heap.size wx w' from by
      have h1 := apply_v h g (by have := HL.out; simp; omega)
      rw [← hE1, ← hL1] at h1; exact h1)
    have HA2 := Lib.hid (fun (wx : World) (u : Value) (h : PV wx v l) (g : NV wx u [⟨2, key, nv, nn⟩, ⟨2, key, nv, nn⟩]) => show Calls Try.prog 12 #[v, u] wx fun e w' => ∃ v', e = .returned (.tuple #[v', .int .i64 E1]) ∧ PV w' v' L1 ∧ Below wx.heap.size wx w' from by
      have h1 := apply_v h g (by have := HL.out; simp; omega)
      rw [HTW.out.1, HTW.out.2, ← hE1, ← hL1] at h1; exact h1)
    have HA3 := Lib.hid (fun (wx : World) (v1 u : Value) (h : PV wx v1 L1) (g : NV wx u [⟨2, key, noB, 0⟩]) => show Calls Try.prog 12 #[v1, u] wx fun e w' => ∃ v', e = .returned (.tuple #[v', .int .i64 E3]) ∧ PV w' v' L3 ∧ Below wx.heap.size wx w' from by
      have h1 := apply_v h g (by simp; omega)
      rw [← hE3, ← hL3] at h1; exact h1)
    have HGE := Lib.hid (fun (wx : World) (h : PV wx v l) => show Calls Try.prog 14 #[v, .string key] wx fun e w' => e = .returned (.tuple #[.string gv, .bool gh]) ∧ Below wx.heap.size wx w' from by
      have h1 := get_v h key (by have := HL.out; omega)
      rw [← hgv, ← hgh] at h1; exact h1)
    have HE := Lib.hid (show E1 = 0 ∨ E1 = 1 from by rw [hE1]; exact apply_two _ _)
    have HD := Lib.hid (show gh = false → E1 = 0 → E3 = 0 ∧ L3 = l from fun h1 h2 => by
      have h3 : getL l key = none := by
        rw [hgh] at h1
        unfold getA at h1
        rw [HW.out, if_pos rfl] at h1
        cases e : getL l key with
        | none => rfl
        | some x => rw [e] at h1; cases h1
      rw [hE3, hL3, hL1]
      exact del_back (n := ⟨2, key, nv, nn⟩) h3 (by rw [← hE1]; exact h2))
    have HLL := Lib.hid hLL
    clear hE1 hL1 hE3 hL3 hgv hgh hLL
    have hee : (E1 != E1) = false := by simp
    go_wp2_with fail
    have ca := HA1.out (w4.alloc (.cells #[.int .i64 2, .string key, .string nv, .int .u64 (nn.toNat : Int)] 46)) (.slice (some ⟨w4.heap.size, 0, none⟩) 1 1) (HP4.out.push _) (NV.lit rfl rfl rfl)
    refine ca.mono ?_
    clear ca HA1 c1 c2 c3 c4
    rintro e w5 ⟨va, rfl, hpa, hb5⟩
    have HPA := Lib.hid hpa
    clear hpa
    have hbq : Below w4.heap.size w4 w5 := ((Below.refl _ w4).alloc (Nat.le_refl _) _).trans (hb5.mono (by simp))
    have HB15 := Lib.hid (HB14.out.trans (hbq.mono HB14.out.size))
    have HB5 := Lib.hid (HB4.out.trans (hbq.mono HB4.out.size))
    have HP5 := Lib.hid (HP4.out.on hbq)
    clear hb5 hbq HB14 HB4 HP4
    obtain ⟨c1, c2, c3, c4⟩ := HC.out w5 HB15.out
    go_wp2_with fail
    have ca := HA2.out (w5.alloc (.cells #[.int .i64 2, .string key, .string nv, .int .u64 (nn.toNat : Int), .int .i64 2, .string key, .string nv, .int .u64 (nn.toNat : Int)] 46)) (.slice (some ⟨w5.heap.size, 0, none⟩) 2 2) (HP5.out.push _) (NV.lit rfl rfl rfl)
    refine ca.mono ?_
    clear ca HA2 c1 c2 c3 c4
    rintro e w6 ⟨vb, rfl, hpb, hb6⟩
    have HPB := Lib.hid hpb
    clear hpb
    have hbq : Below w5.heap.size w5 w6 := ((Below.refl _ w5).alloc (Nat.le_refl _) _).trans (hb6.mono (by simp))
    have HB16 := Lib.hid (HB15.out.trans (hbq.mono HB15.out.size))
    have HB6 := Lib.hid (HB5.out.trans (hbq.mono HB5.out.size))
    have HP6 := Lib.hid (HP5.out.on hbq)
    have HPA6 := Lib.hid (HPA.out.on hbq)
    clear hb6 hbq HB15 HB5 HP5 HPA
    obtain ⟨c1, c2, c3, c4⟩ := HC.out w6 HB16.out
    go_wp2_with fail
    have ca := same_v HPA6.out HPB.out (by have := HLL.out; unfold maxLen; omega)
    rw [decide_eq_true rfl] at ca
    refine ca.mono ?_
    clear ca c1 c2 c3 c4 HPB
    rintro e w7 ⟨rfl, hb7⟩
    have HB17 := Lib.hid (HB16.out.trans (hb7.mono HB16.out.size))
    have HB7 := Lib.hid (HB6.out.trans (hb7.mono HB6.out.size))
    have HP7 := Lib.hid (HP6.out.on hb7)
    have HPA7 := Lib.hid (HPA6.out.on hb7)
    clear hb7 HB16 HB6 HP6 HPA6
    obtain ⟨c1, c2, c3, c4⟩ := HC.out w7 HB17.out
    go_wp2_with fail
    refine (HGE.out _ HP7.out).mono ?_
    clear HGE c1 c2 c3 c4
    rintro e w8 ⟨rfl, hb8⟩
    have HB18 := Lib.hid (HB17.out.trans (hb8.mono HB17.out.size))
    have HB8 := Lib.hid (HB7.out.trans (hb8.mono HB7.out.size))
    have HP8 := Lib.hid (HP7.out.on hb8)
    have HPA8 := Lib.hid (HPA7.out.on hb8)
    clear hb8 HB17 HB7 HP7 HPA7
    obtain ⟨c1, c2, c3, c4⟩ := HC.out w8 HB18.out
    go_wp2_with fail
    have ca := HA3.out (w8.alloc (.cells #[.int .i64 2, .string key, .string noB, .int .u64 0] 46)) va (.slice (some ⟨w8.heap.size, 0, none⟩) 1 1) (HPA8.out.push _) (NV.lit rfl rfl rfl)
    refine ca.mono ?_
    clear ca HA3 c1 c2 c3 c4
    rintro e wa ⟨vc, rfl, hpc, hba⟩
    have HPC := Lib.hid hpc
    clear hpc
    have hbq : Below w8.heap.size w8 wa := ((Below.refl _ w8).alloc (Nat.le_refl _) _).trans (hba.mono (by simp))
    have HB1a := Lib.hid (HB18.out.trans (hbq.mono HB18.out.size))
    have HBa := Lib.hid (HB8.out.trans (hbq.mono HB8.out.size))
    have HPa := Lib.hid (HP8.out.on hbq)
    clear hba hbq HB18 HB8 HP8
    cases gh with
    | true =>
      go_wp2_with fail
      refine (awake_true _).mono ?_
      rintro e w9 ⟨rfl, hb9⟩
      have HB9 := Lib.hid (HBa.out.trans (hb9.mono HBa.out.size))
      clear hb9
      go_wp2
      go_ret
      exact ⟨rfl, HB9.out⟩
    | false =>
    have hde := HD.out rfl
    rcases HE.out with hE | hE
    case inr =>
      subst hE
      go_wp2_with fail
      refine (awake_true _).mono ?_
      rintro e w9 ⟨rfl, hb9⟩
      have HB9 := Lib.hid (HBa.out.trans (hb9.mono HBa.out.size))
      clear hb9
      go_wp2
      go_ret
      exact ⟨rfl, HB9.out⟩
    subst hE
    obtain ⟨hE3, hL3⟩ := hde rfl
    subst hE3 hL3
    go_wp2_with fail
    have ca := same_v HPC.out HPa.out HN.out
    rw [decide_eq_true rfl] at ca
    refine ca.mono ?_
    clear ca HPC
    rintro e wb ⟨rfl, hbb⟩
    have HBb := Lib.hid (HBa.out.trans (hbb.mono HBa.out.size))
    clear hbb HBa
    go_wp2_with fail
    refine (awake_true _).mono ?_
    rintro e w9 ⟨rfl, hb9⟩
    have HB9 := Lib.hid (HBb.out.trans (hb9.mono HBb.out.size))
    clear hb9
    go_wp2
    go_ret
    exact ⟨rfl, HB9.out⟩

end Go.Proofs.Ytggfegogjmckcaa
