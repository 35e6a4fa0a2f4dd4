/- The walks of flat's reader: a note, a pair, a change and a range, taken off part by part. -/
import Derived.Test.YtfbcmcckgjfdhaaFd
import Derived.Test.YtfbcmcckgjfdhaaVals
set_option linter.unusedVariables false
set_option linter.unusedSimpArgs false
namespace Go.Proofs.Ytfbcmcckgjfdhaa
open Go.RowKit

theorem rNum_le {k : Nat} {a : Rd} {n : Nat} {b : Rd} (h : rNum k a = (n, b)) : b.1.size ≤ a.1.size := by
  have e : b = (rNum k a).2 := by rw [h]
  rw [e]; exact takeR_le _ _
theorem rNum_lt {k : Nat} {a : Rd} {n : Nat} {b : Rd} (h8 : k ≤ 8) (h : rNum k a = (n, b)) : n < 256 ^ k := by
  have e : n = (rNum k a).1 := by rw [h]
  rw [e]; exact takeN_lt _ _ h8
theorem rText_le {a : Rd} {t : ByteArray} {b : Rd} (h : rText a = (t, b)) : b.1.size ≤ a.1.size ∧ t.size ≤ a.1.size := by
  have e : b = (rText a).2 := by rw [h]
  have e2 : t = (rText a).1 := by rw [h]
  rw [e, e2]; exact ⟨ttR_le _, ttT_le _⟩
theorem rFlag_le {a : Rd} {x : Bool} {b : Rd} (h : rFlag a = (x, b)) : b.1.size ≤ a.1.size := by
  have e : b = (rFlag a).2 := by rw [h]
  rw [e]; exact takeR_le _ _
theorem Ex.setNew {g q i : Nat} {w w' : World} (h : Ex g w w') (hq : w.heap.size ≤ q) (v : Value) : Ex g w (w'.setCell ⟨q, i, none⟩ v) :=
  ⟨h.os, h.tape, h.output, by have := h.size; simpa [World.setCell] using this, fun k hk hn => (Below.heap_setCell _ _ _ _ (fun e => by have e' : k = q := e; omega)).trans (h.block k hk hn)⟩
theorem RdB.away {w : World} {g q i : Nat} {a : Rd} (h : RdB w g a) (hq : g ≠ q) (v : Value) : RdB (w.setCell ⟨q, i, none⟩ v) g a := Box.away h hq v
theorem i64_nat (q : Nat) (h : q < 1000000000000) : IntKind.i64.wrap (q : Int) = (q : Int) := IntWalk.i64_in _ (by omega)
/-- What a value of a change, or a range, is. -/
def Ch.v (c : Ch) : Value := .agg #[.int .i64 c.seq, .string c.key, .bool c.had, .string c.before, .bool c.has, .string c.after]
def Pr.v' (p : Pr) : Value := .agg #[.string p.k, .string p.v]

set_option maxRecDepth 100000 in
set_option maxHeartbeats 2000000 in
theorem rdnote_any (g : Nat) (a : Rd) (x : Nt) (b : Rd) (w : World) (h : RdB w g a) (hs : a.1.size ≤ maxLen) (e : rNote a = (x, b)) :
    Calls Try.prog 57 #[.pointer (some ⟨g, 0, none⟩)] w fun y w' => y = .returned x.v ∧ RdB w' g b ∧ Ex g w w' := by
  obtain ⟨x0, b0, h0⟩ : ∃ y c, rNum 1 a = (y, c) := ⟨_, _, rfl⟩
  obtain ⟨x1, b1, h1⟩ : ∃ y c, rText b0 = (y, c) := ⟨_, _, rfl⟩
  obtain ⟨x2, b2, h2⟩ : ∃ y c, rText b1 = (y, c) := ⟨_, _, rfl⟩
  obtain ⟨x3, b3, h3⟩ : ∃ y c, rNum 8 b2 = (y, c) := ⟨_, _, rfl⟩
  have e1 : x = (⟨(x0 : Int), x1, x2, UInt64.ofNat x3⟩ : Nt) ∧ b3 = b := by
    unfold rNote at e
    simp only [h0, h1, h2, h3] at e
    injection e with e1 e2
    exact ⟨e1.symm, e2⟩
  obtain ⟨rfl, rfl⟩ := e1
  clear e
  have hgl := h.lt
  have HS0 := Lib.hid (show b0.1.size ≤ maxLen from Nat.le_trans (rNum_le h0) hs)
  have l0 := rNum_lt (by decide) h0
  have HC0 := Lib.hid (fun w h => rdnum_any g 1 a x0 b0 w h h0)
  have HS1 := Lib.hid (show b1.1.size ≤ maxLen from Nat.le_trans ((rText_le h1).1) HS0.out)
  have HC1 := Lib.hid (fun w h => rdtext_any g b0 x1 b1 w h HS0.out h1)
  have HS2 := Lib.hid (show b2.1.size ≤ maxLen from Nat.le_trans ((rText_le h2).1) HS1.out)
  have HC2 := Lib.hid (fun w h => rdtext_any g b1 x2 b2 w h HS1.out h2)
  have HS3 := Lib.hid (show b3.1.size ≤ maxLen from Nat.le_trans (rNum_le h3) HS2.out)
  have l3 := rNum_lt (by decide) h3
  have HC3 := Lib.hid (fun w h => rdnum_any g 8 b2 x3 b3 w h h3)
  have hv : (⟨(x0 : Int), x1, x2, UInt64.ofNat x3⟩ : Nt).v = .agg #[.int .i64 (x0 : Int), .string x1, .string x2, .int .u64 (x3 : Int)] := by
    unfold Nt.v
    simp only
    rw [UInt64.toNat_ofNat_of_lt' (by simpa using l3)]
  rw [hv]
  have hi := i64_nat x0 (by omega)
  clear hv l3
  obtain ⟨w1, hw1⟩ : ∃ w1, w1 = w.alloc (.cells #[.int .i64 0, .string ⟨#[]⟩, .string ⟨#[]⟩, .int .u64 0] 62) := ⟨_, rfl⟩
  obtain ⟨q, hq⟩ : ∃ q, q = w.heap.size := ⟨_, rfl⟩
  have hbx : Box w1 q 62 #[.int .i64 0, .string ⟨#[]⟩, .string ⟨#[]⟩, .int .u64 0] := by rw [hw1]; exact Box.at_ w _ _ hq
  have hrd : RdB w1 g a := by rw [hw1]; exact Box.push h _
  have hex : Ex g w w1 := by rw [hw1]; exact World.grownBy_alloc w _ _
  have X0 := Lib.hid hbx
  have R0 := Lib.hid hrd
  have E0 := Lib.hid hex
  have HNE := Lib.hid (show q ≠ g from by omega)
  have HQ := Lib.hid (show w.heap.size ≤ q from by omega)
  clear hbx hrd hex h hs hgl h0 h1 h2 h3
  go_enter Try.func57, Try.ntmps57
  go_upto_region 1 with fail
  rw [← hq, ← hw1]
  clear hq hw1
  go_wp2_with fail
  refine (HC0.out _ R0.out).mono ?_
  rintro e w2 ⟨rfl, hr, hx⟩
  have R1 := Lib.hid hr
  have X1 := Lib.hid (hx.box X0.out HNE.out)
  have E1 := Lib.hid (E0.out.trans hx)
  clear hr hx
  go_wp2_with fail
  refine (HC1.out _ R1.out).mono ?_
  rintro e w3 ⟨rfl, hr, hx⟩
  have R2 := Lib.hid hr
  have X2 := Lib.hid (hx.box X1.out HNE.out)
  have E2 := Lib.hid (E1.out.trans hx)
  clear hr hx
  go_wp2_with fail
  refine (HC2.out _ R2.out).mono ?_
  rintro e w4 ⟨rfl, hr, hx⟩
  have R3 := Lib.hid hr
  have X3 := Lib.hid (hx.box X2.out HNE.out)
  have E3 := Lib.hid (E2.out.trans hx)
  clear hr hx
  go_wp2_with fail
  refine (HC3.out _ R3.out).mono ?_
  rintro e w5 ⟨rfl, hr, hx⟩
  have R4 := Lib.hid hr
  have X4 := Lib.hid (hx.box X3.out HNE.out)
  have E4 := Lib.hid (E3.out.trans hx)
  clear hr hx
  obtain ⟨k0, k1, k2, k3⟩ : _ ∧ _ ∧ _ ∧ _ := ⟨Box.free X4.out 0, Box.free X4.out 1, Box.free X4.out 2, Box.free X4.out 3⟩
  obtain ⟨j0, j1, j2, j3⟩ : _ ∧ _ ∧ _ ∧ _ := ⟨Box.cell X4.out 0 rfl, Box.cell X4.out 1 rfl, Box.cell X4.out 2 rfl, Box.cell X4.out 3 rfl⟩
  have BZ := Lib.hid (Box.set (Box.set (Box.set (Box.set X4.out 0 (.int .i64 (x0 : Int))) 1 (.string x1)) 2 (.string x2)) 3 (.int .u64 (x3 : Int)))
  have RZ := Lib.hid (RdB.away (i := 3) (RdB.away (i := 2) (RdB.away (i := 1) (RdB.away (i := 0) R4.out (fun e => HNE.out e.symm) (.int .i64 (x0 : Int))) (fun e => HNE.out e.symm) (.string x1)) (fun e => HNE.out e.symm) (.string x2)) (fun e => HNE.out e.symm) (.int .u64 (x3 : Int)))
  have EZ := Lib.hid (Ex.setNew (i := 3) (Ex.setNew (i := 2) (Ex.setNew (i := 1) (Ex.setNew (i := 0) E4.out HQ.out (.int .i64 (x0 : Int))) HQ.out (.string x1)) HQ.out (.string x2)) HQ.out (.int .u64 (x3 : Int)))
  go_wp2
  obtain ⟨wz, hz⟩ : ∃ wz, wz = ((((w5.setCell ⟨q, 0, none⟩ (.int .i64 (x0 : Int))).setCell ⟨q, 1, none⟩ (.string x1)).setCell ⟨q, 2, none⟩ (.string x2)).setCell ⟨q, 3, none⟩ (.int .u64 (x3 : Int))) := ⟨_, rfl⟩
  rw [← hz]
  have hbz : Box wz q 62 #[.int .i64 (x0 : Int), .string x1, .string x2, .int .u64 (x3 : Int)] := by rw [hz]; exact BZ.out
  have hrz : RdB wz g b3 := by rw [hz]; exact RZ.out
  have hez : Ex g w wz := by rw [hz]; exact EZ.out
  obtain ⟨p0, p1, p2, p3⟩ : _ ∧ _ ∧ _ ∧ _ := ⟨Box.cell hbz 0 rfl, Box.cell hbz 1 rfl, Box.cell hbz 2 rfl, Box.cell hbz 3 rfl⟩
  clear hz
  exact bodyPost_ret (v := .agg #[.int .i64 (x0 : Int), .string x1, .string x2, .int .u64 (x3 : Int)]) (by simp [results, Try.results57, go_sem, p0, p1, p2, p3]) rfl ⟨rfl, hrz, hez⟩

set_option maxRecDepth 100000 in
set_option maxHeartbeats 2000000 in
theorem rdpair_any (g : Nat) (a : Rd) (x : Pr) (b : Rd) (w : World) (h : RdB w g a) (hs : a.1.size ≤ maxLen) (e : rPair a = (x, b)) :
    Calls Try.prog 59 #[.pointer (some ⟨g, 0, none⟩)] w fun y w' => y = .returned (Pr.v' x) ∧ RdB w' g b ∧ Ex g w w' := by
  obtain ⟨x0, b0, h0⟩ : ∃ y c, rText a = (y, c) := ⟨_, _, rfl⟩
  obtain ⟨x1, b1, h1⟩ : ∃ y c, rText b0 = (y, c) := ⟨_, _, rfl⟩
  have e1 : x = (⟨x0, x1⟩ : Pr) ∧ b1 = b := by
    unfold rPair at e
    simp only [h0, h1] at e
    injection e with e1 e2
    exact ⟨e1.symm, e2⟩
  obtain ⟨rfl, rfl⟩ := e1
  clear e
  have hgl := h.lt
  have HS0 := Lib.hid (show b0.1.size ≤ maxLen from Nat.le_trans ((rText_le h0).1) hs)
  have HC0 := Lib.hid (fun w h => rdtext_any g a x0 b0 w h hs h0)
  have HS1 := Lib.hid (show b1.1.size ≤ maxLen from Nat.le_trans ((rText_le h1).1) HS0.out)
  have HC1 := Lib.hid (fun w h => rdtext_any g b0 x1 b1 w h HS0.out h1)
  unfold Pr.v'
  simp only
  obtain ⟨w1, hw1⟩ : ∃ w1, w1 = w.alloc (.cells #[.string ⟨#[]⟩, .string ⟨#[]⟩] 66) := ⟨_, rfl⟩
  obtain ⟨q, hq⟩ : ∃ q, q = w.heap.size := ⟨_, rfl⟩
  have hbx : Box w1 q 66 #[.string ⟨#[]⟩, .string ⟨#[]⟩] := by rw [hw1]; exact Box.at_ w _ _ hq
  have hrd : RdB w1 g a := by rw [hw1]; exact Box.push h _
  have hex : Ex g w w1 := by rw [hw1]; exact World.grownBy_alloc w _ _
  have X0 := Lib.hid hbx
  have R0 := Lib.hid hrd
  have E0 := Lib.hid hex
  have HNE := Lib.hid (show q ≠ g from by omega)
  have HQ := Lib.hid (show w.heap.size ≤ q from by omega)
  clear hbx hrd hex h hs hgl h0 h1
  go_enter Try.func59, Try.ntmps59
  go_upto_region 1 with fail
  rw [← hq, ← hw1]
  clear hq hw1
  go_wp2_with fail
  refine (HC0.out _ R0.out).mono ?_
  rintro e w2 ⟨rfl, hr, hx⟩
  have R1 := Lib.hid hr
  have X1 := Lib.hid (hx.box X0.out HNE.out)
  have E1 := Lib.hid (E0.out.trans hx)
  clear hr hx
  go_wp2_with fail
  refine (HC1.out _ R1.out).mono ?_
  rintro e w3 ⟨rfl, hr, hx⟩
  have R2 := Lib.hid hr
  have X2 := Lib.hid (hx.box X1.out HNE.out)
  have E2 := Lib.hid (E1.out.trans hx)
  clear hr hx
  obtain ⟨k0, k1⟩ : _ ∧ _ := ⟨Box.free X2.out 0, Box.free X2.out 1⟩
  obtain ⟨j0, j1⟩ : _ ∧ _ := ⟨Box.cell X2.out 0 rfl, Box.cell X2.out 1 rfl⟩
  have BZ := Lib.hid (Box.set (Box.set X2.out 0 (.string x0)) 1 (.string x1))
  have RZ := Lib.hid (RdB.away (i := 1) (RdB.away (i := 0) R2.out (fun e => HNE.out e.symm) (.string x0)) (fun e => HNE.out e.symm) (.string x1))
  have EZ := Lib.hid (Ex.setNew (i := 1) (Ex.setNew (i := 0) E2.out HQ.out (.string x0)) HQ.out (.string x1))
  go_wp2
  obtain ⟨wz, hz⟩ : ∃ wz, wz = ((w3.setCell ⟨q, 0, none⟩ (.string x0)).setCell ⟨q, 1, none⟩ (.string x1)) := ⟨_, rfl⟩
  rw [← hz]
  have hbz : Box wz q 66 #[.string x0, .string x1] := by rw [hz]; exact BZ.out
  have hrz : RdB wz g b1 := by rw [hz]; exact RZ.out
  have hez : Ex g w wz := by rw [hz]; exact EZ.out
  obtain ⟨p0, p1⟩ : _ ∧ _ := ⟨Box.cell hbz 0 rfl, Box.cell hbz 1 rfl⟩
  clear hz
  exact bodyPost_ret (v := .agg #[.string x0, .string x1]) (by simp [results, Try.results59, go_sem, p0, p1]) rfl ⟨rfl, hrz, hez⟩

set_option maxRecDepth 100000 in
set_option maxHeartbeats 2000000 in
theorem rdch_any (g : Nat) (a : Rd) (x : Ch) (b : Rd) (w : World) (h : RdB w g a) (hs : a.1.size ≤ maxLen) (e : rCh a = (x, b)) :
    Calls Try.prog 61 #[.pointer (some ⟨g, 0, none⟩)] w fun y w' => y = .returned x.v ∧ RdB w' g b ∧ Ex g w w' := by
  obtain ⟨x0, b0, h0⟩ : ∃ y c, rNum 4 a = (y, c) := ⟨_, _, rfl⟩
  obtain ⟨x1, b1, h1⟩ : ∃ y c, rText b0 = (y, c) := ⟨_, _, rfl⟩
  obtain ⟨x2, b2, h2⟩ : ∃ y c, rFlag b1 = (y, c) := ⟨_, _, rfl⟩
  obtain ⟨x3, b3, h3⟩ : ∃ y c, rText b2 = (y, c) := ⟨_, _, rfl⟩
  obtain ⟨x4, b4, h4⟩ : ∃ y c, rFlag b3 = (y, c) := ⟨_, _, rfl⟩
  obtain ⟨x5, b5, h5⟩ : ∃ y c, rText b4 = (y, c) := ⟨_, _, rfl⟩
  have e1 : x = (⟨(x0 : Int), x1, x2, x3, x4, x5⟩ : Ch) ∧ b5 = b := by
    unfold rCh at e
    simp only [h0, h1, h2, h3, h4, h5] at e
    injection e with e1 e2
    exact ⟨e1.symm, e2⟩
  obtain ⟨rfl, rfl⟩ := e1
  clear e
  have hgl := h.lt
  have HS0 := Lib.hid (show b0.1.size ≤ maxLen from Nat.le_trans (rNum_le h0) hs)
  have l0 := rNum_lt (by decide) h0
  have HC0 := Lib.hid (fun w h => rdnum_any g 4 a x0 b0 w h h0)
  have HS1 := Lib.hid (show b1.1.size ≤ maxLen from Nat.le_trans ((rText_le h1).1) HS0.out)
  have HC1 := Lib.hid (fun w h => rdtext_any g b0 x1 b1 w h HS0.out h1)
  have HS2 := Lib.hid (show b2.1.size ≤ maxLen from Nat.le_trans (rFlag_le h2) HS1.out)
  have HC2 := Lib.hid (fun w h => rdflag_any g b1 x2 b2 w h h2)
  have HS3 := Lib.hid (show b3.1.size ≤ maxLen from Nat.le_trans ((rText_le h3).1) HS2.out)
  have HC3 := Lib.hid (fun w h => rdtext_any g b2 x3 b3 w h HS2.out h3)
  have HS4 := Lib.hid (show b4.1.size ≤ maxLen from Nat.le_trans (rFlag_le h4) HS3.out)
  have HC4 := Lib.hid (fun w h => rdflag_any g b3 x4 b4 w h h4)
  have HS5 := Lib.hid (show b5.1.size ≤ maxLen from Nat.le_trans ((rText_le h5).1) HS4.out)
  have HC5 := Lib.hid (fun w h => rdtext_any g b4 x5 b5 w h HS4.out h5)
  unfold Ch.v
  simp only
  have hi := i64_nat x0 (by omega)
  obtain ⟨w1, hw1⟩ : ∃ w1, w1 = w.alloc (.cells #[.int .i64 0, .string ⟨#[]⟩, .bool false, .string ⟨#[]⟩, .bool false, .string ⟨#[]⟩] 42) := ⟨_, rfl⟩
  obtain ⟨q, hq⟩ : ∃ q, q = w.heap.size := ⟨_, rfl⟩
  have hbx : Box w1 q 42 #[.int .i64 0, .string ⟨#[]⟩, .bool false, .string ⟨#[]⟩, .bool false, .string ⟨#[]⟩] := by rw [hw1]; exact Box.at_ w _ _ hq
  have hrd : RdB w1 g a := by rw [hw1]; exact Box.push h _
  have hex : Ex g w w1 := by rw [hw1]; exact World.grownBy_alloc w _ _
  have X0 := Lib.hid hbx
  have R0 := Lib.hid hrd
  have E0 := Lib.hid hex
  have HNE := Lib.hid (show q ≠ g from by omega)
  have HQ := Lib.hid (show w.heap.size ≤ q from by omega)
  clear hbx hrd hex h hs hgl h0 h1 h2 h3 h4 h5
  go_enter Try.func61, Try.ntmps61
  go_upto_region 1 with fail
  rw [← hq, ← hw1]
  clear hq hw1
  go_wp2_with fail
  refine (HC0.out _ R0.out).mono ?_
  rintro e w2 ⟨rfl, hr, hx⟩
  have R1 := Lib.hid hr
  have X1 := Lib.hid (hx.box X0.out HNE.out)
  have E1 := Lib.hid (E0.out.trans hx)
  clear hr hx
  go_wp2_with fail
  refine (HC1.out _ R1.out).mono ?_
  rintro e w3 ⟨rfl, hr, hx⟩
  have R2 := Lib.hid hr
  have X2 := Lib.hid (hx.box X1.out HNE.out)
  have E2 := Lib.hid (E1.out.trans hx)
  clear hr hx
  go_wp2_with fail
  refine (HC2.out _ R2.out).mono ?_
  rintro e w4 ⟨rfl, hr, hx⟩
  have R3 := Lib.hid hr
  have X3 := Lib.hid (hx.box X2.out HNE.out)
  have E3 := Lib.hid (E2.out.trans hx)
  clear hr hx
  go_wp2_with fail
  refine (HC3.out _ R3.out).mono ?_
  rintro e w5 ⟨rfl, hr, hx⟩
  have R4 := Lib.hid hr
  have X4 := Lib.hid (hx.box X3.out HNE.out)
  have E4 := Lib.hid (E3.out.trans hx)
  clear hr hx
  go_wp2_with fail
  refine (HC4.out _ R4.out).mono ?_
  rintro e w6 ⟨rfl, hr, hx⟩
  have R5 := Lib.hid hr
  have X5 := Lib.hid (hx.box X4.out HNE.out)
  have E5 := Lib.hid (E4.out.trans hx)
  clear hr hx
  go_wp2_with fail
  refine (HC5.out _ R5.out).mono ?_
  rintro e w7 ⟨rfl, hr, hx⟩
  have R6 := Lib.hid hr
  have X6 := Lib.hid (hx.box X5.out HNE.out)
  have E6 := Lib.hid (E5.out.trans hx)
  clear hr hx
  obtain ⟨k0, k1, k2, k3, k4, k5⟩ : _ ∧ _ ∧ _ ∧ _ ∧ _ ∧ _ := ⟨Box.free X6.out 0, Box.free X6.out 1, Box.free X6.out 2, Box.free X6.out 3, Box.free X6.out 4, Box.free X6.out 5⟩
  obtain ⟨j0, j1, j2, j3, j4, j5⟩ : _ ∧ _ ∧ _ ∧ _ ∧ _ ∧ _ := ⟨Box.cell X6.out 0 rfl, Box.cell X6.out 1 rfl, Box.cell X6.out 2 rfl, Box.cell X6.out 3 rfl, Box.cell X6.out 4 rfl, Box.cell X6.out 5 rfl⟩
  have BZ := Lib.hid (Box.set (Box.set (Box.set (Box.set (Box.set (Box.set X6.out 0 (.int .i64 (x0 : Int))) 1 (.string x1)) 2 (.bool x2)) 3 (.string x3)) 4 (.bool x4)) 5 (.string x5))
  have RZ := Lib.hid (RdB.away (i := 5) (RdB.away (i := 4) (RdB.away (i := 3) (RdB.away (i := 2) (RdB.away (i := 1) (RdB.away (i := 0) R6.out (fun e => HNE.out e.symm) (.int .i64 (x0 : Int))) (fun e => HNE.out e.symm) (.string x1)) (fun e => HNE.out e.symm) (.bool x2)) (fun e => HNE.out e.symm) (.string x3)) (fun e => HNE.out e.symm) (.bool x4)) (fun e => HNE.out e.symm) (.string x5))
  have EZ := Lib.hid (Ex.setNew (i := 5) (Ex.setNew (i := 4) (Ex.setNew (i := 3) (Ex.setNew (i := 2) (Ex.setNew (i := 1) (Ex.setNew (i := 0) E6.out HQ.out (.int .i64 (x0 : Int))) HQ.out (.string x1)) HQ.out (.bool x2)) HQ.out (.string x3)) HQ.out (.bool x4)) HQ.out (.string x5))
  go_wp2
  obtain ⟨wz, hz⟩ : ∃ wz, wz = ((((((w7.setCell ⟨q, 0, none⟩ (.int .i64 (x0 : Int))).setCell ⟨q, 1, none⟩ (.string x1)).setCell ⟨q, 2, none⟩ (.bool x2)).setCell ⟨q, 3, none⟩ (.string x3)).setCell ⟨q, 4, none⟩ (.bool x4)).setCell ⟨q, 5, none⟩ (.string x5)) := ⟨_, rfl⟩
  rw [← hz]
  have hbz : Box wz q 42 #[.int .i64 (x0 : Int), .string x1, .bool x2, .string x3, .bool x4, .string x5] := by rw [hz]; exact BZ.out
  have hrz : RdB wz g b5 := by rw [hz]; exact RZ.out
  have hez : Ex g w wz := by rw [hz]; exact EZ.out
  obtain ⟨p0, p1, p2, p3, p4, p5⟩ : _ ∧ _ ∧ _ ∧ _ ∧ _ ∧ _ := ⟨Box.cell hbz 0 rfl, Box.cell hbz 1 rfl, Box.cell hbz 2 rfl, Box.cell hbz 3 rfl, Box.cell hbz 4 rfl, Box.cell hbz 5 rfl⟩
  clear hz
  exact bodyPost_ret (v := .agg #[.int .i64 (x0 : Int), .string x1, .bool x2, .string x3, .bool x4, .string x5]) (by simp [results, Try.results61, go_sem, p0, p1, p2, p3, p4, p5]) rfl ⟨rfl, hrz, hez⟩

set_option maxRecDepth 100000 in
set_option maxHeartbeats 2000000 in
theorem rdrng_any (g : Nat) (a : Rd) (x : Rng) (b : Rd) (w : World) (h : RdB w g a) (hs : a.1.size ≤ maxLen) (e : rRng a = (x, b)) :
    Calls Try.prog 62 #[.pointer (some ⟨g, 0, none⟩)] w fun y w' => y = .returned x.v ∧ RdB w' g b ∧ Ex g w w' := by
  obtain ⟨x0, b0, h0⟩ : ∃ y c, rText a = (y, c) := ⟨_, _, rfl⟩
  obtain ⟨x1, b1, h1⟩ : ∃ y c, rText b0 = (y, c) := ⟨_, _, rfl⟩
  obtain ⟨x2, b2, h2⟩ : ∃ y c, rFlag b1 = (y, c) := ⟨_, _, rfl⟩
  have e1 : x = (⟨x0, x1, x2⟩ : Rng) ∧ b2 = b := by
    unfold rRng at e
    simp only [h0, h1, h2] at e
    injection e with e1 e2
    exact ⟨e1.symm, e2⟩
  obtain ⟨rfl, rfl⟩ := e1
  clear e
  have hgl := h.lt
  have HS0 := Lib.hid (show b0.1.size ≤ maxLen from Nat.le_trans ((rText_le h0).1) hs)
  have HC0 := Lib.hid (fun w h => rdtext_any g a x0 b0 w h hs h0)
  have HS1 := Lib.hid (show b1.1.size ≤ maxLen from Nat.le_trans ((rText_le h1).1) HS0.out)
  have HC1 := Lib.hid (fun w h => rdtext_any g b0 x1 b1 w h HS0.out h1)
  have HS2 := Lib.hid (show b2.1.size ≤ maxLen from Nat.le_trans (rFlag_le h2) HS1.out)
  have HC2 := Lib.hid (fun w h => rdflag_any g b1 x2 b2 w h h2)
  unfold Rng.v
  simp only
  obtain ⟨w1, hw1⟩ : ∃ w1, w1 = w.alloc (.cells #[.string ⟨#[]⟩, .string ⟨#[]⟩, .bool false] 26) := ⟨_, rfl⟩
  obtain ⟨q, hq⟩ : ∃ q, q = w.heap.size := ⟨_, rfl⟩
  have hbx : Box w1 q 26 #[.string ⟨#[]⟩, .string ⟨#[]⟩, .bool false] := by rw [hw1]; exact Box.at_ w _ _ hq
  have hrd : RdB w1 g a := by rw [hw1]; exact Box.push h _
  have hex : Ex g w w1 := by rw [hw1]; exact World.grownBy_alloc w _ _
  have X0 := Lib.hid hbx
  have R0 := Lib.hid hrd
  have E0 := Lib.hid hex
  have HNE := Lib.hid (show q ≠ g from by omega)
  have HQ := Lib.hid (show w.heap.size ≤ q from by omega)
  clear hbx hrd hex h hs hgl h0 h1 h2
  go_enter Try.func62, Try.ntmps62
  go_upto_region 1 with fail
  rw [← hq, ← hw1]
  clear hq hw1
  go_wp2_with fail
  refine (HC0.out _ R0.out).mono ?_
  rintro e w2 ⟨rfl, hr, hx⟩
  have R1 := Lib.hid hr
  have X1 := Lib.hid (hx.box X0.out HNE.out)
  have E1 := Lib.hid (E0.out.trans hx)
  clear hr hx
  go_wp2_with fail
  refine (HC1.out _ R1.out).mono ?_
  rintro e w3 ⟨rfl, hr, hx⟩
  have R2 := Lib.hid hr
  have X2 := Lib.hid (hx.box X1.out HNE.out)
  have E2 := Lib.hid (E1.out.trans hx)
  clear hr hx
  go_wp2_with fail
  refine (HC2.out _ R2.out).mono ?_
  rintro e w4 ⟨rfl, hr, hx⟩
  have R3 := Lib.hid hr
  have X3 := Lib.hid (hx.box X2.out HNE.out)
  have E3 := Lib.hid (E2.out.trans hx)
  clear hr hx
  obtain ⟨k0, k1, k2⟩ : _ ∧ _ ∧ _ := ⟨Box.free X3.out 0, Box.free X3.out 1, Box.free X3.out 2⟩
  obtain ⟨j0, j1, j2⟩ : _ ∧ _ ∧ _ := ⟨Box.cell X3.out 0 rfl, Box.cell X3.out 1 rfl, Box.cell X3.out 2 rfl⟩
  have BZ := Lib.hid (Box.set (Box.set (Box.set X3.out 0 (.string x0)) 1 (.string x1)) 2 (.bool x2))
  have RZ := Lib.hid (RdB.away (i := 2) (RdB.away (i := 1) (RdB.away (i := 0) R3.out (fun e => HNE.out e.symm) (.string x0)) (fun e => HNE.out e.symm) (.string x1)) (fun e => HNE.out e.symm) (.bool x2))
  have EZ := Lib.hid (Ex.setNew (i := 2) (Ex.setNew (i := 1) (Ex.setNew (i := 0) E3.out HQ.out (.string x0)) HQ.out (.string x1)) HQ.out (.bool x2))
  go_wp2
  obtain ⟨wz, hz⟩ : ∃ wz, wz = (((w4.setCell ⟨q, 0, none⟩ (.string x0)).setCell ⟨q, 1, none⟩ (.string x1)).setCell ⟨q, 2, none⟩ (.bool x2)) := ⟨_, rfl⟩
  rw [← hz]
  have hbz : Box wz q 26 #[.string x0, .string x1, .bool x2] := by rw [hz]; exact BZ.out
  have hrz : RdB wz g b2 := by rw [hz]; exact RZ.out
  have hez : Ex g w wz := by rw [hz]; exact EZ.out
  obtain ⟨p0, p1, p2⟩ : _ ∧ _ ∧ _ := ⟨Box.cell hbz 0 rfl, Box.cell hbz 1 rfl, Box.cell hbz 2 rfl⟩
  clear hz
  exact bodyPost_ret (v := .agg #[.string x0, .string x1, .bool x2]) (by simp [results, Try.results62, go_sem, p0, p1, p2]) rfl ⟨rfl, hrz, hez⟩

end Go.Proofs.Ytfbcmcckgjfdhaa
