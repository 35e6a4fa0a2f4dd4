/- The walk of Get. -/
import Derived.Test.YthoffknkpogfhaaWUse
set_option linter.unusedVariables false
set_option linter.unusedSimpArgs false
namespace Go.Proofs.Ythoffknkpogfhaa
open Go.RowKit

def getB (m : Int) (l : List It) (a : Int) : Bool := rightL m l && decide (a ∈ l.map It.a)
def getI (m : Int) (l : List It) (a : Int) : It := if getB m l a then (l[atL l a]?).getD zI else zI
def getL (m : Int) (l : List It) (a : Int) : List It := if getB m l a then front l (getI m l a) else l
theorem getI_at {m : Int} {l : List It} {a : Int} (h : getB m l a = true) : ∃ hi : atL l a < l.length, getI m l a = l[atL l a] ∧ (getI m l a).a = a := by
  have h1 : a ∈ l.map It.a := by
    unfold getB at h
    rw [Bool.and_eq_true, decide_eq_true_eq] at h
    exact h.2
  have h2 := atL_lt.2 h1
  refine ⟨h2, ?_, ?_⟩
  · unfold getI
    rw [if_pos h, List.getElem?_eq_getElem h2]
    rfl
  · unfold getI
    rw [if_pos h, List.getElem?_eq_getElem h2]
    exact atL_has h2
theorem getL_len {m : Int} {l : List It} {a : Int} : (getL m l a).length = l.length := by
  unfold getL
  split
  · rename_i h
    obtain ⟨hi, _, e⟩ := getI_at h
    rw [front_len, if_pos (by rw [e]; exact atL_lt.1 hi)]
    omega
  · rfl
theorem get_use {m : Int} {l : List It} {a : Int} (h : getB m l a = true) : useL m l (getI m l a) = getL m l a := by
  have h1 : (getL m l a).length = l.length := getL_len
  unfold getL at h1
  rw [if_pos h] at h1
  unfold useL cutL getL
  rw [if_pos h, if_pos]
  unfold getB at h
  rw [Bool.and_eq_true, right_iff] at h
  omega

theorem own_far {w : World} {base n k : Nat} {v : Value} {e : TypeId} {xs : List Value} (h : w.ownsRow base e 3 v n xs) (hk : k < base) : v.ownBlock ≠ some k := fun e => by have := (own_lt h e).1; omega

/-- An answer of a cache and an item is written. -/
theorem ans_get {w0 w : World} {q4 q5 : Nat} {T4 T5 : TypeId} {a0 b0 : Value} {C : Array Value} (h4 : Box w q4 T4 #[a0, b0]) (h5 : Box w q5 T5 C) (hC : C.size = 3) (hne : q4 ≠ q5) (hB : Below w0.heap.size w0 w) (l4 : w0.heap.size ≤ q4) (l5 : w0.heap.size ≤ q5) (a b c d e : Value) :
    ∃ W, W = (((((w.setCell ⟨q4, 0, none⟩ a).setCell ⟨q4, 1, none⟩ b).setCell ⟨q5, 0, none⟩ c).setCell ⟨q5, 1, none⟩ d).setCell ⟨q5, 2, none⟩ e) ∧
      (W.cell? ⟨q4, 0, none⟩ = some a ∧ W.cell? ⟨q4, 1, none⟩ = some b ∧ W.cell? ⟨q5, 0, none⟩ = some c ∧ W.cell? ⟨q5, 1, none⟩ = some d ∧ W.cell? ⟨q5, 2, none⟩ = some e) ∧
      Below w0.heap.size w0 W ∧ ∀ (base n k : Nat) (t : TypeId) (v : Value) (xs : List Value), w.ownsRow base t k v n xs → v.ownBlock ≠ some q4 → v.ownBlock ≠ some q5 → W.ownsRow base t k v n xs := by
  have e4 : Ex q4 w ((w.setCell ⟨q4, 0, none⟩ a).setCell ⟨q4, 1, none⟩ b) := (Ex.set (g := q4) (i := 0) w a).trans (Ex.set (i := 1) _ b)
  have b4 := (h4.set 0 a).set 1 b
  have b5 := e4.box h5 hne.symm
  generalize (w.setCell ⟨q4, 0, none⟩ a).setCell ⟨q4, 1, none⟩ b = w1 at *
  have e5 : Ex q5 w1 (((w1.setCell ⟨q5, 0, none⟩ c).setCell ⟨q5, 1, none⟩ d).setCell ⟨q5, 2, none⟩ e) := ((Ex.set (g := q5) (i := 0) w1 c).trans (Ex.set (i := 1) _ d)).trans (Ex.set (i := 2) _ e)
  have c4 := e5.box b4 hne
  refine ⟨_, rfl, ⟨Box.cell c4 0 rfl, Box.cell c4 1 rfl, ans_three c d e b5 hC⟩, Ex.below (Ex.below hB e4 l4 hB.size) e5 l5 (Nat.le_trans hB.size e4.size), fun base n k t v xs ho h1 h2 => own_ex e5 (own_ex e4 ho h1) h2⟩

set_option maxHeartbeats 4000000 in
set_option maxRecDepth 100000 in
theorem get_any {s : Value} {l : List It} (m a : Int) (w : World) (hv : IV w s l) (hn : l.length ≤ 1000) :
    Calls Try.prog 10 #[.agg #[.int .i64 m, s], .int .i64 a] w fun e w' => ∃ s', e = .returned (.tuple #[.agg #[.int .i64 m, s'], (getI m l a).v, .bool (getB m l a)]) ∧ IV w' s' (getL m l a) ∧ Below w.heap.size w w' := by
  obtain ⟨A, c, rfl, hv⟩ := (show ∃ A c, s = .slice A l.length c ∧ IV w (.slice A l.length c) l from by obtain ⟨A, c, e, h⟩ := hv; exact ⟨A, c, e, A, c, rfl, h⟩)
  obtain ⟨n, hl⟩ : ∃ n, l.length = n := ⟨_, rfl⟩
  rw [hl] at hv hn ⊢
  have HL := Lib.hid hl
  obtain ⟨I, hI⟩ : ∃ I, I = getI m l a := ⟨_, rfl⟩
  obtain ⟨G, hG⟩ : ∃ G, G = getB m l a := ⟨_, rfl⟩
  obtain ⟨E, hE⟩ : ∃ E, E = getL m l a := ⟨_, rfl⟩
  rw [← hI, ← hG, ← hE]
  have HI := Lib.hid hI
  have HG := Lib.hid hG
  have HE := Lib.hid hE
  obtain ⟨R, hR⟩ : ∃ R, R = rightL m l := ⟨_, rfl⟩
  have HR := Lib.hid hR
  obtain ⟨w1, hw1⟩ : ∃ w1, w1 = w.alloc (.cells #[.int .i64 m, .slice A n c] 24) := ⟨_, rfl⟩
  obtain ⟨w2, hw2⟩ : ∃ w2, w2 = w1.alloc (.cells #[.int .i64 0, .slice none 0 0] 24) := ⟨_, rfl⟩
  obtain ⟨w3, hw3⟩ : ∃ w3, w3 = w2.alloc (.cells #[.int .i64 0, .string ⟨#[]⟩, .bool false] 27) := ⟨_, rfl⟩
  obtain ⟨g, hg⟩ : ∃ g, g = w.heap.size := ⟨_, rfl⟩
  obtain ⟨q4, hq4⟩ : ∃ q, q = w1.heap.size := ⟨_, rfl⟩
  obtain ⟨q5, hq5⟩ : ∃ q, q = w2.heap.size := ⟨_, rfl⟩
  have e4 : g + 1 = q4 := by rw [hq4, hw1, hg]; simp
  have e5 : q4 + 1 = q5 := by rw [hq5, hw2, hq4]; simp
  have BX0 := Lib.hid (show Box w3 g 24 #[.int .i64 m, .slice A n c] from by rw [hw3, hw2]; exact Box.push (Box.push (by rw [hw1]; exact Box.at_ w _ _ hg) _) _)
  have B40 := Lib.hid (show Box w3 q4 24 #[.int .i64 0, .slice none 0 0] from by rw [hw3]; exact Box.push (by rw [hw2]; exact Box.at_ w1 _ _ hq4) _)
  have B50 := Lib.hid (show Box w3 q5 27 #[.int .i64 0, .string ⟨#[]⟩, .bool false] from by rw [hw3]; exact Box.at_ w2 _ _ hq5)
  have hb3 : Below w.heap.size w w3 := by rw [hw3, hw2, hw1]; exact (((Below.refl _ _).alloc (Nat.le_refl _) _).alloc (by simp) _).alloc (by simp; omega) _
  have HV0 := Lib.hid (hv.on hb3)
  have HB0 := Lib.hid hb3
  have HQ := Lib.hid (show w.heap.size ≤ q4 ∧ w.heap.size ≤ q5 ∧ q4 ≠ q5 ∧ q5 < w3.heap.size ∧ q4 < w3.heap.size from ⟨by omega, by omega, by omega, Box.lt B50.out, Box.lt B40.out⟩)
  have hc1 := fun (wx : World) (h : IV wx (.slice A n c) l) => copied_any m wx h (by omega)
  rw [hl] at hc1
  have HC1 := Lib.hid hc1
  have hc2 := fun (wx : World) (h : IV wx (.slice A n c) l) => right_any m wx h (by omega)
  rw [← hR] at hc2
  have HC2 := Lib.hid hc2
  obtain ⟨Z, hZ⟩ : ∃ Z, Z = idxL l a := ⟨_, rfl⟩
  have hc3 := fun (wx : World) (h : IV wx (.slice A n c) l) => find_any a wx h (by unfold maxLen; omega)
  rw [← hZ] at hc3
  have HC3 := Lib.hid hc3
  have HZ := Lib.hid hZ
  have k0 := Box.cell BX0.out 0 rfl
  have k1 := Box.cell BX0.out 1 rfl
  have HN := Lib.hid hn
  clear hI hG hE hR hv hn hc1 hc2 hc3 hZ hl hb3
  go_enter Try.func10, Try.ntmps10
  go_upto_region 1 with fail
  rw [← hg, e4, e5, ← hw1, ← hw2, ← hw3]
  clear hg hq4 hq5 e4 e5 hw1 hw2 hw3
  go_wp2_with fail
  refine (HC1.out _ HV0.out).mono ?_
  rintro e w4 ⟨s4, rfl, ho, hb⟩
  obtain ⟨A4, c4, rfl⟩ := own_shape ho
  go_upto_region 2 with fail
  obtain ⟨g7, hg7⟩ : ∃ g7, g7 = w4.heap.size := ⟨_, rfl⟩
  obtain ⟨w5, hw5⟩ : ∃ w5, w5 = w4.alloc (.cells #[.int .i64 m, .slice A4 n c4] 24) := ⟨_, rfl⟩
  rw [← hg7, ← hw5]
  have h5 : Below w4.heap.size w4 w5 := by rw [hw5]; exact (Below.refl _ _).alloc (Nat.le_refl _) _
  have h35 := hb.trans (h5.mono hb.size)
  have HO5 := Lib.hid (own_on ho h5)
  have HB5 := Lib.hid (HB0.out.trans (h35.mono HB0.out.size))
  have BX5 := Lib.hid (BX0.out.on h35)
  have B45 := Lib.hid (B40.out.on h35)
  have B55 := Lib.hid (B50.out.on h35)
  have HV5 := Lib.hid (HV0.out.on h35)
  have B75 := Lib.hid (show Box w5 g7 24 #[.int .i64 m, .slice A4 n c4] from by rw [hw5]; exact Box.at_ w4 _ _ hg7)
  have HQ7 := Lib.hid (show w3.heap.size ≤ g7 ∧ w3.heap.size ≤ w5.heap.size from ⟨by rw [hg7]; exact hb.size, h35.size⟩)
  have k0 := Box.cell BX5.out 0 rfl
  have k1 := Box.cell BX5.out 1 rfl
  clear hb ho h5 h35 hg7 hw5 BX0 B40 B50 HV0 HB0 HC1
  go_wp2_with fail
  refine (HC2.out _ HV5.out).mono ?_
  rintro e w6 ⟨rfl, hb⟩
  have HO6 := Lib.hid (own_on HO5.out hb)
  have HB6 := Lib.hid (HB5.out.trans (hb.mono HB5.out.size))
  have BX6 := Lib.hid (BX5.out.on hb)
  have B46 := Lib.hid (B45.out.on hb)
  have B56 := Lib.hid (B55.out.on hb)
  have HV6 := Lib.hid (HV5.out.on hb)
  have B76 := Lib.hid (B75.out.on hb)
  have HS6 := Lib.hid (Nat.le_trans HQ7.out.2 hb.size)
  clear hb k0 k1 HO5 HB5 BX5 B45 B55 HV5 B75 HC2
  cases R with
  | false =>
    have hF := Lib.hid (show G = false ∧ I = zI ∧ E = l from by
      have h1 : getB m l a = false := by unfold getB; rw [← HR.out]; rfl
      refine ⟨by rw [HG.out, h1], ?_, ?_⟩
      · rw [HI.out]; unfold getI; rw [h1]; rfl
      · rw [HE.out]; unfold getL; rw [h1]; rfl)
    have k0 := Box.cell B76.out 0 rfl
    have k1 := Box.cell B76.out 1 rfl
    obtain ⟨W, hW, hcs, hbW, hoW⟩ := ans_get B46.out B56.out rfl HQ.out.2.2.1 HB6.out HQ.out.1 HQ.out.2.1 (.int .i64 m) (.slice A4 n c4) (.int .i64 0) (.string ⟨#[]⟩) (.bool false)
    have HW := Lib.hid hW
    have HCS := Lib.hid hcs
    have HBW := Lib.hid hbW
    have HOW := Lib.hid (hoW _ _ _ _ _ _ HO6.out (own_far HO6.out HQ.out.2.2.2.2) (own_far HO6.out HQ.out.2.2.2.1))
    have m0 := Box.cell B46.out 0 rfl
    have m1 := Box.cell B46.out 1 rfl
    have f0 := Box.free B46.out 0
    have f1 := Box.free B46.out 1
    have j0 := Box.cell B56.out 0 rfl
    have j1 := Box.cell B56.out 1 rfl
    have j2 := Box.cell B56.out 2 rfl
    have i0 := Box.free B56.out 0
    have i1 := Box.free B56.out 1
    have i2 := Box.free B56.out 2
    have hne := HQ.out.2.2.1
    clear hW hcs hbW hoW
    go_wp2
    rw [← HW.out, hF.out.1, hF.out.2.1, hF.out.2.2]
    obtain ⟨p0, p1, p2, p3, p4⟩ := HCS.out
    exact bodyPost_ret (v := .tuple #[.agg #[.int .i64 m, .slice A4 n c4], .agg #[.int .i64 0, .string ⟨#[]⟩, .bool false], .bool false]) (by simp [results, Try.results10, go_sem, p0, p1, p2, p3, p4]) rfl ⟨_, rfl, IV.own HOW.out HL.out.symm, HBW.out⟩
  | true =>
    have k0 := Box.cell BX6.out 0 rfl
    have k1 := Box.cell BX6.out 1 rfl
    go_wp2_with fail
    refine (HC3.out _ HV6.out).mono ?_
    rintro e w7 ⟨rfl, hb⟩
    have HO7 := Lib.hid (own_on HO6.out hb)
    have HB7 := Lib.hid (HB6.out.trans (hb.mono HB6.out.size))
    have BX7 := Lib.hid (BX6.out.on hb)
    have B47 := Lib.hid (B46.out.on hb)
    have B57 := Lib.hid (B56.out.on hb)
    have HV7 := Lib.hid (HV6.out.on hb)
    have B77 := Lib.hid (B76.out.on hb)
    have HS7 := Lib.hid (Nat.le_trans HS6.out hb.size)
    clear hb k0 k1 HO6 HB6 BX6 B46 B56 HV6 B76 HC3 HS6
    by_cases hz : 0 ≤ Z
    · obtain ⟨i, rfl⟩ := Int.eq_ofNat_of_zero_le hz
      have hG : getB m l a = true := by
        unfold getB
        rw [← HR.out, Bool.true_and]
        refine decide_eq_true (idxL_ge.1 ?_)
        rw [← HZ.out]; exact hz
      obtain ⟨hi0, hI2, hI3⟩ := getI_at hG
      have hia : atL l a = i := by
        have h1 := HZ.out
        unfold idxL at h1
        rw [if_pos hi0] at h1
        omega
      have hi : i < l.length := by rw [← hia]; exact hi0
      have hiI : I = l[i]'hi := by rw [HI.out, hI2]; simp only [hia]
      have hzd : decide ((i : Int) < 0) = false := by simp
      have hin : i < n := by rw [← HL.out]; exact hi
      have HGT := Lib.hid (show G = true from by rw [HG.out, hG])
      have B98n := Lib.hid (show q4 < w7.heap.size from B47.out.lt)
      have HUS := Lib.hid (show useL m l I = E ∧ E.length = n ∧ (goneL m l I) = none from by
        rw [HI.out, HE.out]
        refine ⟨get_use hG, by rw [getL_len, HL.out], ?_⟩
        have h1 : (getL m l a).length = l.length := getL_len
        have h2 := HR.out
        rw [eq_comm, right_iff] at h2
        unfold getL at h1
        rw [if_pos hG] at h1
        unfold goneL gone
        rw [if_pos (by omega)])
      obtain ⟨ad, rfl, hab, hca⟩ := (show Its w7 w7.heap.size A l from by obtain ⟨A', c', e, h, _⟩ := HV7.out; injection e with e1 _ _; rw [e1]; exact h).seeI (by omega)
      obtain ⟨c1, c2, c3⟩ := hca i hi
      rw [← hiI] at c1 c2 c3
      have k0 := Box.cell BX7.out 0 rfl
      have k1 := Box.cell BX7.out 1 rfl
      clear hca hiI hia hi0 hI2 hI3 hG hi hab hz
      obtain ⟨xa, xt, xd⟩ := I
      simp only at c1 c2 c3
      go_upto_region 8 with fail
      obtain ⟨g9, hg9⟩ : ∃ g9, g9 = w7.heap.size := ⟨_, rfl⟩
      obtain ⟨w8, hw8⟩ : ∃ w8, w8 = w7.alloc (.cells #[.int .i64 xa, .string xt, .bool xd] 27) := ⟨_, rfl⟩
      rw [← hg9, ← hw8]
      have hb : Below w7.heap.size w7 w8 := by rw [hw8]; exact (Below.refl _ _).alloc (Nat.le_refl _) _
      have HO8 := Lib.hid (own_on HO7.out hb)
      have HB8 := Lib.hid (HB7.out.trans (hb.mono HB7.out.size))
      have B48 := Lib.hid (B47.out.on hb)
      have B58 := Lib.hid (B57.out.on hb)
      have B78 := Lib.hid (B77.out.on hb)
      have B98 := Lib.hid (show Box w8 g9 27 #[.int .i64 xa, .string xt, .bool xd] from by rw [hw8]; exact Box.at_ w7 _ _ hg9)
      have hS8 := Nat.le_trans HS7.out hb.size
      have B98n := Lib.hid (show q4 < g9 from by rw [hg9]; exact B98n.out)
      have HX := Lib.hid (show g9 ≠ g7 ∧ Value.ownBlock (.slice A4 n c4) ≠ some g9 from ⟨by have := B77.out.lt; omega, fun e => by have := (own_lt HO7.out e).2; omega⟩)
      have hu := use_any w8 w3.heap.size g7 n (.slice A4 n c4) m l ⟨xa, xt, xd⟩ HL.out B78.out HO8.out hS8 HN.out
      rw [HUS.out.1, HUS.out.2.2, HUS.out.2.1] at hu
      have HU := Lib.hid hu
      have k0 := Box.cell B98.out 0 rfl
      have k1 := Box.cell B98.out 1 rfl
      have k2 := Box.cell B98.out 2 rfl
      clear hb hu hS8 hg9 hw8 c1 c2 c3 BX7 HV7 HO7 HB7 B47 B57 B77 HS7
      go_wp2_with fail
      refine HU.out.mono ?_
      rintro e w9 ⟨rfl, v', hbc, ho, hk, ha⟩
      obtain ⟨A9, c9, rfl⟩ := own_shape ho
      have HO9 := Lib.hid ho
      have B79 := Lib.hid hbc
      have B99 := Lib.hid (hk.box B98.out HX.out.1 HX.out.2.symm)
      have B49 := Lib.hid (hk.box B48.out (by have := HQ.out; have := HQ7.out; omega) (own_far HO8.out HQ.out.2.2.2.2).symm)
      have B59 := Lib.hid (hk.box B58.out (by have := HQ.out; have := HQ7.out; omega) (own_far HO8.out HQ.out.2.2.2.1).symm)
      have HB9 := Lib.hid (K2.below HB8.out hk (by have := HQ.out; have := HQ7.out; omega) (fun q e => by have := (own_lt HO8.out e).1; have := HQ.out; omega) HB8.out.size)
      clear hbc ho hk ha k0 k1 k2 HO8 HB8 B48 B58 B78 B98 HU
      obtain ⟨W, hW, hcs, hbW, hoW⟩ := ans_get B49.out B59.out rfl HQ.out.2.2.1 HB9.out HQ.out.1 HQ.out.2.1 (.int .i64 m) (.slice A9 n c9) (.int .i64 xa) (.string xt) (.bool xd)
      have HW := Lib.hid hW
      have HCS := Lib.hid hcs
      have HBW := Lib.hid hbW
      have HOW := Lib.hid (hoW _ _ _ _ _ _ HO9.out (own_far HO9.out HQ.out.2.2.2.2) (own_far HO9.out HQ.out.2.2.2.1))
      have k0 := Box.cell B79.out 0 rfl
      have k1 := Box.cell B79.out 1 rfl
      have l0 := Box.cell B99.out 0 rfl
      have l1 := Box.cell B99.out 1 rfl
      have l2 := Box.cell B99.out 2 rfl
      have m0 := Box.cell B49.out 0 rfl
      have m1 := Box.cell B49.out 1 rfl
      have f0 := Box.free B49.out 0
      have f1 := Box.free B49.out 1
      have j0 := Box.cell B59.out 0 rfl
      have j1 := Box.cell B59.out 1 rfl
      have j2 := Box.cell B59.out 2 rfl
      have i0 := Box.free B59.out 0
      have i1 := Box.free B59.out 1
      have i2 := Box.free B59.out 2
      have hne := HQ.out.2.2.1
      clear hW hcs hbW hoW
      go_upto_region 9 with fail
      have hn1 : ¬ q4 = g9 := by have := B98n.out; omega
      have hn2 : ¬ g9 = q4 := fun e => hn1 e.symm
      have hn3 : ¬ q4 = g7 := by have := HQ.out; have := HQ7.out; omega
      have hn4 : ¬ g7 = q4 := fun e => hn3 e.symm
      go_region
      all_goals
        go_wp2
        rw [← HW.out, HGT.out]
        obtain ⟨p0, p1, p2, p3, p4⟩ := HCS.out
        exact bodyPost_ret (v := .tuple #[.agg #[.int .i64 m, .slice A9 n c9], .agg #[.int .i64 xa, .string xt, .bool xd], .bool true]) (by simp [results, Try.results10, go_sem, p0, p1, p2, p3, p4]) rfl ⟨_, rfl, IV.own HOW.out HUS.out.2.1.symm, HBW.out.drew⟩
    · have hzd : decide (Z < 0) = true := by simp; omega
      have hF := Lib.hid (show G = false ∧ I = zI ∧ E = l from by
        have h1 : getB m l a = false := by unfold getB; rw [← HR.out, Bool.true_and]; refine decide_eq_false fun h => hz ?_; rw [HZ.out]; exact idxL_ge.2 h
        refine ⟨by rw [HG.out, h1], ?_, ?_⟩
        · rw [HI.out]; unfold getI; rw [h1]; rfl
        · rw [HE.out]; unfold getL; rw [h1]; rfl)
      have k0 := Box.cell B77.out 0 rfl
      have k1 := Box.cell B77.out 1 rfl
      obtain ⟨W, hW, hcs, hbW, hoW⟩ := ans_get B47.out B57.out rfl HQ.out.2.2.1 HB7.out HQ.out.1 HQ.out.2.1 (.int .i64 m) (.slice A4 n c4) (.int .i64 0) (.string ⟨#[]⟩) (.bool false)
      have HW := Lib.hid hW
      have HCS := Lib.hid hcs
      have HBW := Lib.hid hbW
      have HOW := Lib.hid (hoW _ _ _ _ _ _ HO7.out (own_far HO7.out HQ.out.2.2.2.2) (own_far HO7.out HQ.out.2.2.2.1))
      have m0 := Box.cell B47.out 0 rfl
      have m1 := Box.cell B47.out 1 rfl
      have f0 := Box.free B47.out 0
      have f1 := Box.free B47.out 1
      have j0 := Box.cell B57.out 0 rfl
      have j1 := Box.cell B57.out 1 rfl
      have j2 := Box.cell B57.out 2 rfl
      have i0 := Box.free B57.out 0
      have i1 := Box.free B57.out 1
      have i2 := Box.free B57.out 2
      have hne := HQ.out.2.2.1
      clear hW hcs hbW hoW
      go_wp2
      rw [← HW.out, hF.out.1, hF.out.2.1, hF.out.2.2]
      obtain ⟨p0, p1, p2, p3, p4⟩ := HCS.out
      exact bodyPost_ret (v := .tuple #[.agg #[.int .i64 m, .slice A4 n c4], .agg #[.int .i64 0, .string ⟨#[]⟩, .bool false], .bool false]) (by simp [results, Try.results10, go_sem, p0, p1, p2, p3, p4]) rfl ⟨_, rfl, IV.own HOW.out HL.out.symm, HBW.out⟩

end Go.Proofs.Ythoffknkpogfhaa
