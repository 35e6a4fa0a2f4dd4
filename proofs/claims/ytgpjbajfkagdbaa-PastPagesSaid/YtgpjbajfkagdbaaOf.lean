/- The walk of Of. -/
import Derived.Test.YtgpjbajfkagdbaaSml
import Derived.Test.YtgpjbajfkagdbaaPh
import Derived.Test.YtgpjbajfkagdbaaApp
set_option linter.unusedVariables false
set_option linter.unusedSimpArgs false
namespace Go.Proofs.Ytgpjbajfkagdbaa
open Go.RowKit

def noC : Ch := ⟨0, noB, false, noB, false, noB⟩

/-- The change that a note makes. -/
def ofOk (l : List Pr) (s : Int) (x : Nt) : Bool := wellL l && rightN x && decide (1 ≤ s) && decide (s ≤ 2147483647)
def ofC (l : List Pr) (s : Int) (x : Nt) : Ch := ⟨s, x.key, (hasOf (getL l x.key)).2, (hasOf (getL l x.key)).1, (hasOf (stepsO (getL l x.key) [x])).2, (hasOf (stepsO (getL l x.key) [x])).1⟩
def ofE (l : List Pr) (s : Int) (x : Nt) : Int := if ofOk l s x then (if !(ofC l s x).had && !(ofC l s x).has then 3 else 0) else 1
def ofA (l : List Pr) (s : Int) (x : Nt) : Ch := if ofE l s x = 0 then ofC l s x else noC
theorem of_no {l : List Pr} {s : Int} {x : Nt} (h : ofOk l s x = false) : ofE l s x = 1 ∧ ofA l s x = noC := by
  have h1 : ofE l s x = 1 := by unfold ofE; rw [h]; rfl
  exact ⟨h1, by unfold ofA; rw [h1]; rfl⟩

set_option maxRecDepth 100000 in
set_option maxHeartbeats 4000000 in
theorem of_w0 {v : Value} {l : List Pr} (s : Int) (nk : Int) (nkey nval : ByteArray) (nn : UInt64) (w : World) (hv : PV w v l) (hn : l.length ≤ 100000) (hw : wellL l = false) :
    Calls Try.prog 57 #[v, .int .i64 s, .agg #[.int .i64 nk, .string nkey, .string nval, .int .u64 (nn.toNat : Int)]] w fun e w' => e = .returned (.tuple #[.agg #[.int .i64 0, .string ⟨#[]⟩, .bool false, .string ⟨#[]⟩, .bool false, .string ⟨#[]⟩], .int .i64 1]) ∧ Below w.heap.size w w' := by
  have hrn := fun w => right_any nk nkey nval nn w
  obtain ⟨xn, hxn⟩ : ∃ xn : Int, ((nn.toNat : Nat) : Int) = xn := ⟨_, rfl⟩
  rw [hxn] at hrn ⊢
  obtain ⟨w1, hw1⟩ : ∃ q, q = w.alloc (.cells #[.int .i64 nk, .string nkey, .string nval, .int .u64 xn] 48) := ⟨_, rfl⟩
  obtain ⟨w2, hw2⟩ : ∃ q, q = w1.alloc (.cells #[.int .i64 0, .string ⟨#[]⟩, .bool false, .string ⟨#[]⟩, .bool false, .string ⟨#[]⟩] 55) := ⟨_, rfl⟩
  obtain ⟨g, hg⟩ : ∃ q, q = w.heap.size := ⟨_, rfl⟩
  have e1 : w1.heap.size = g + 1 := by rw [hw1, hg]; simp
  have hb2 : Below g w w2 := by rw [hw2, hw1, hg]; exact ((Below.refl _ _).alloc (Nat.le_refl _) _).alloc (by simp) _
  have hbn : Box w2 g 48 #[.int .i64 nk, .string nkey, .string nval, .int .u64 xn] := by rw [hw2]; exact Box.push (by rw [hw1]; exact Box.at_ w _ _ hg) _
  have hbq : Box w2 (g + 1) 55 #[.int .i64 0, .string ⟨#[]⟩, .bool false, .string ⟨#[]⟩, .bool false, .string ⟨#[]⟩] := by rw [hw2]; exact Box.at_ w1 _ _ e1.symm
  have hr := right_v (hv.on (by rw [← hg]; exact hb2)) (by unfold maxLen; omega)
  have HG := Lib.hid hg
  have HR := Lib.hid hr
  have HRN := Lib.hid hrn
  have HVV := Lib.hid hv
  have FIN := Lib.hid (show ∀ w', Below w2.heap.size w2 w' → Box w' g 48 #[.int .i64 nk, .string nkey, .string nval, .int .u64 xn] ∧ Box w' (g + 1) 55 #[.int .i64 0, .string ⟨#[]⟩, .bool false, .string ⟨#[]⟩, .bool false, .string ⟨#[]⟩] ∧ Below g w w' from fun w' hb => ⟨hbn.on hb, hbq.on hb, hb2.trans (hb.mono (by have := hb2.size; have := Box.lt hbn; omega))⟩)
  clear hb2 hbn hbq hr hrn hv
  rw [hw] at HR
  clear hw
  go_enter Try.func57, Try.ntmps57
  go_wp2_with fail
  rw [← hg, ← hw1, ← hw2]
  clear hw1 hw2 e1 hg
  refine HR.out.mono ?_
  rintro e w3 ⟨rfl, hb3⟩
  have HB3 := Lib.hid hb3
  obtain ⟨x1, x2, x3⟩ := FIN.out _ hb3
  clear hb3
  obtain ⟨f0, f1, f2, f3, f4, f5⟩ := (⟨x2.free 0, x2.free 1, x2.free 2, x2.free 3, x2.free 4, x2.free 5⟩ : _ ∧ _ ∧ _ ∧ _ ∧ _ ∧ _)
  obtain ⟨m0, m1, m2, m3, m4, m5⟩ := (⟨x2.cell 0 rfl, x2.cell 1 rfl, x2.cell 2 rfl, x2.cell 3 rfl, x2.cell 4 rfl, x2.cell 5 rfl⟩ : _ ∧ _ ∧ _ ∧ _ ∧ _ ∧ _)
  obtain ⟨wz, hz⟩ : ∃ wz, wz = ((((((w3.setCell ⟨g + 1, 0, none⟩ (.int .i64 0)).setCell ⟨g + 1, 1, none⟩ (.string ⟨#[]⟩)).setCell ⟨g + 1, 2, none⟩ (.bool false)).setCell ⟨g + 1, 3, none⟩ (.string ⟨#[]⟩)).setCell ⟨g + 1, 4, none⟩ (.bool false)).setCell ⟨g + 1, 5, none⟩ (.string ⟨#[]⟩)) := ⟨_, rfl⟩
  have hqz : Box wz (g + 1) 55 #[.int .i64 0, .string ⟨#[]⟩, .bool false, .string ⟨#[]⟩, .bool false, .string ⟨#[]⟩] := by rw [hz]; exact ((((((Box.set x2 0 _).set 1 _).set 2 _).set 3 _).set 4 _).set 5 _)
  have hbz : Below g w wz := by rw [hz]; exact ((((((x3.setCell (p := ⟨g + 1, 0, none⟩) (by simp) _).setCell (p := ⟨g + 1, 1, none⟩) (by simp) _).setCell (p := ⟨g + 1, 2, none⟩) (by simp) _).setCell (p := ⟨g + 1, 3, none⟩) (by simp) _).setCell (p := ⟨g + 1, 4, none⟩) (by simp) _).setCell (p := ⟨g + 1, 5, none⟩) (by simp) _)
  obtain ⟨p0, p1, p2, p3, p4, p5⟩ : _ ∧ _ ∧ _ ∧ _ ∧ _ ∧ _ := ⟨hqz.cell 0 rfl, hqz.cell 1 rfl, hqz.cell 2 rfl, hqz.cell 3 rfl, hqz.cell 4 rfl, hqz.cell 5 rfl⟩
  have HBZ := Lib.hid (show Below w.heap.size w wz from by rw [← HG.out]; exact hbz)
  clear x1 x2 x3 hqz hbz
  go_wp2
  rw [← hz]
  exact bodyPost_ret (v := .tuple #[.agg #[.int .i64 0, .string ⟨#[]⟩, .bool false, .string ⟨#[]⟩, .bool false, .string ⟨#[]⟩], .int .i64 1]) (by simp [results, Try.results57, go_sem, p0, p1, p2, p3, p4, p5]) rfl ⟨rfl, HBZ.out⟩

set_option maxRecDepth 100000 in
set_option maxHeartbeats 4000000 in
theorem of_w1 {v : Value} {l : List Pr} (s : Int) (nk : Int) (nkey nval : ByteArray) (nn : UInt64) (w : World) (hv : PV w v l) (hn : l.length ≤ 100000) (hw : wellL l = true) (hr0 : rightN ⟨nk, nkey, nval, nn⟩ = false) :
    Calls Try.prog 57 #[v, .int .i64 s, .agg #[.int .i64 nk, .string nkey, .string nval, .int .u64 (nn.toNat : Int)]] w fun e w' => e = .returned (.tuple #[.agg #[.int .i64 0, .string ⟨#[]⟩, .bool false, .string ⟨#[]⟩, .bool false, .string ⟨#[]⟩], .int .i64 1]) ∧ Below w.heap.size w w' := by
  have hrn := fun w => right_any nk nkey nval nn w
  rw [hr0] at hrn
  obtain ⟨xn, hxn⟩ : ∃ xn : Int, ((nn.toNat : Nat) : Int) = xn := ⟨_, rfl⟩
  rw [hxn] at hrn ⊢
  obtain ⟨w1, hw1⟩ : ∃ q, q = w.alloc (.cells #[.int .i64 nk, .string nkey, .string nval, .int .u64 xn] 48) := ⟨_, rfl⟩
  obtain ⟨w2, hw2⟩ : ∃ q, q = w1.alloc (.cells #[.int .i64 0, .string ⟨#[]⟩, .bool false, .string ⟨#[]⟩, .bool false, .string ⟨#[]⟩] 55) := ⟨_, rfl⟩
  obtain ⟨g, hg⟩ : ∃ q, q = w.heap.size := ⟨_, rfl⟩
  have e1 : w1.heap.size = g + 1 := by rw [hw1, hg]; simp
  have hb2 : Below g w w2 := by rw [hw2, hw1, hg]; exact ((Below.refl _ _).alloc (Nat.le_refl _) _).alloc (by simp) _
  have hbn : Box w2 g 48 #[.int .i64 nk, .string nkey, .string nval, .int .u64 xn] := by rw [hw2]; exact Box.push (by rw [hw1]; exact Box.at_ w _ _ hg) _
  have hbq : Box w2 (g + 1) 55 #[.int .i64 0, .string ⟨#[]⟩, .bool false, .string ⟨#[]⟩, .bool false, .string ⟨#[]⟩] := by rw [hw2]; exact Box.at_ w1 _ _ e1.symm
  have hr := right_v (hv.on (by rw [← hg]; exact hb2)) (by unfold maxLen; omega)
  have HG := Lib.hid hg
  have HR := Lib.hid hr
  have HRN := Lib.hid hrn
  have HVV := Lib.hid hv
  have FIN := Lib.hid (show ∀ w', Below w2.heap.size w2 w' → Box w' g 48 #[.int .i64 nk, .string nkey, .string nval, .int .u64 xn] ∧ Box w' (g + 1) 55 #[.int .i64 0, .string ⟨#[]⟩, .bool false, .string ⟨#[]⟩, .bool false, .string ⟨#[]⟩] ∧ Below g w w' from fun w' hb => ⟨hbn.on hb, hbq.on hb, hb2.trans (hb.mono (by have := hb2.size; have := Box.lt hbn; omega))⟩)
  clear hb2 hbn hbq hr hrn hv
  rw [hw] at HR
  clear hw hr0
  go_enter Try.func57, Try.ntmps57
  go_wp2_with fail
  rw [← hg, ← hw1, ← hw2]
  clear hw1 hw2 e1 hg
  refine HR.out.mono ?_
  rintro e w3 ⟨rfl, hb3⟩
  have HB3 := Lib.hid hb3
  obtain ⟨x1, x2, x3⟩ := FIN.out _ hb3
  obtain ⟨n0, n1, n2, n3⟩ : _ ∧ _ ∧ _ ∧ _ := ⟨x1.cell 0 rfl, x1.cell 1 rfl, x1.cell 2 rfl, x1.cell 3 rfl⟩
  clear hb3 x1 x2 x3
  go_wp2_with fail
  refine (HRN.out _).mono ?_
  rintro e w4 ⟨rfl, hb⟩
  have hb4 := HB3.out.trans (hb.mono HB3.out.size)
  have HB4 := Lib.hid hb4
  obtain ⟨x1, x2, x3⟩ := FIN.out _ hb4
  clear hb hb4 n0 n1 n2 n3
  obtain ⟨f0, f1, f2, f3, f4, f5⟩ := (⟨x2.free 0, x2.free 1, x2.free 2, x2.free 3, x2.free 4, x2.free 5⟩ : _ ∧ _ ∧ _ ∧ _ ∧ _ ∧ _)
  obtain ⟨m0, m1, m2, m3, m4, m5⟩ := (⟨x2.cell 0 rfl, x2.cell 1 rfl, x2.cell 2 rfl, x2.cell 3 rfl, x2.cell 4 rfl, x2.cell 5 rfl⟩ : _ ∧ _ ∧ _ ∧ _ ∧ _ ∧ _)
  obtain ⟨wz, hz⟩ : ∃ wz, wz = ((((((w4.setCell ⟨g + 1, 0, none⟩ (.int .i64 0)).setCell ⟨g + 1, 1, none⟩ (.string ⟨#[]⟩)).setCell ⟨g + 1, 2, none⟩ (.bool false)).setCell ⟨g + 1, 3, none⟩ (.string ⟨#[]⟩)).setCell ⟨g + 1, 4, none⟩ (.bool false)).setCell ⟨g + 1, 5, none⟩ (.string ⟨#[]⟩)) := ⟨_, rfl⟩
  have hqz : Box wz (g + 1) 55 #[.int .i64 0, .string ⟨#[]⟩, .bool false, .string ⟨#[]⟩, .bool false, .string ⟨#[]⟩] := by rw [hz]; exact ((((((Box.set x2 0 _).set 1 _).set 2 _).set 3 _).set 4 _).set 5 _)
  have hbz : Below g w wz := by rw [hz]; exact ((((((x3.setCell (p := ⟨g + 1, 0, none⟩) (by simp) _).setCell (p := ⟨g + 1, 1, none⟩) (by simp) _).setCell (p := ⟨g + 1, 2, none⟩) (by simp) _).setCell (p := ⟨g + 1, 3, none⟩) (by simp) _).setCell (p := ⟨g + 1, 4, none⟩) (by simp) _).setCell (p := ⟨g + 1, 5, none⟩) (by simp) _)
  obtain ⟨p0, p1, p2, p3, p4, p5⟩ : _ ∧ _ ∧ _ ∧ _ ∧ _ ∧ _ := ⟨hqz.cell 0 rfl, hqz.cell 1 rfl, hqz.cell 2 rfl, hqz.cell 3 rfl, hqz.cell 4 rfl, hqz.cell 5 rfl⟩
  have HBZ := Lib.hid (show Below w.heap.size w wz from by rw [← HG.out]; exact hbz)
  clear x1 x2 x3 hqz hbz
  go_wp2
  rw [← hz]
  exact bodyPost_ret (v := .tuple #[.agg #[.int .i64 0, .string ⟨#[]⟩, .bool false, .string ⟨#[]⟩, .bool false, .string ⟨#[]⟩], .int .i64 1]) (by simp [results, Try.results57, go_sem, p0, p1, p2, p3, p4, p5]) rfl ⟨rfl, HBZ.out⟩

set_option maxRecDepth 100000 in
set_option maxHeartbeats 4000000 in
theorem of_w2 {v : Value} {l : List Pr} (s : Int) (nk : Int) (nkey nval : ByteArray) (nn : UInt64) (w : World) (hv : PV w v l) (hn : l.length ≤ 100000) (hw : wellL l = true) (hr0 : rightN ⟨nk, nkey, nval, nn⟩ = true) (hs : ¬ 1 ≤ s) :
    Calls Try.prog 57 #[v, .int .i64 s, .agg #[.int .i64 nk, .string nkey, .string nval, .int .u64 (nn.toNat : Int)]] w fun e w' => e = .returned (.tuple #[.agg #[.int .i64 0, .string ⟨#[]⟩, .bool false, .string ⟨#[]⟩, .bool false, .string ⟨#[]⟩], .int .i64 1]) ∧ Below w.heap.size w w' := by
  have hrn := fun w => right_any nk nkey nval nn w
  rw [hr0] at hrn
  have hd1 : decide (s < 1) = true := by simp; omega
  obtain ⟨xn, hxn⟩ : ∃ xn : Int, ((nn.toNat : Nat) : Int) = xn := ⟨_, rfl⟩
  rw [hxn] at hrn ⊢
  obtain ⟨w1, hw1⟩ : ∃ q, q = w.alloc (.cells #[.int .i64 nk, .string nkey, .string nval, .int .u64 xn] 48) := ⟨_, rfl⟩
  obtain ⟨w2, hw2⟩ : ∃ q, q = w1.alloc (.cells #[.int .i64 0, .string ⟨#[]⟩, .bool false, .string ⟨#[]⟩, .bool false, .string ⟨#[]⟩] 55) := ⟨_, rfl⟩
  obtain ⟨g, hg⟩ : ∃ q, q = w.heap.size := ⟨_, rfl⟩
  have e1 : w1.heap.size = g + 1 := by rw [hw1, hg]; simp
  have hb2 : Below g w w2 := by rw [hw2, hw1, hg]; exact ((Below.refl _ _).alloc (Nat.le_refl _) _).alloc (by simp) _
  have hbn : Box w2 g 48 #[.int .i64 nk, .string nkey, .string nval, .int .u64 xn] := by rw [hw2]; exact Box.push (by rw [hw1]; exact Box.at_ w _ _ hg) _
  have hbq : Box w2 (g + 1) 55 #[.int .i64 0, .string ⟨#[]⟩, .bool false, .string ⟨#[]⟩, .bool false, .string ⟨#[]⟩] := by rw [hw2]; exact Box.at_ w1 _ _ e1.symm
  have hr := right_v (hv.on (by rw [← hg]; exact hb2)) (by unfold maxLen; omega)
  have HG := Lib.hid hg
  have HR := Lib.hid hr
  have HRN := Lib.hid hrn
  have HVV := Lib.hid hv
  have FIN := Lib.hid (show ∀ w', Below w2.heap.size w2 w' → Box w' g 48 #[.int .i64 nk, .string nkey, .string nval, .int .u64 xn] ∧ Box w' (g + 1) 55 #[.int .i64 0, .string ⟨#[]⟩, .bool false, .string ⟨#[]⟩, .bool false, .string ⟨#[]⟩] ∧ Below g w w' from fun w' hb => ⟨hbn.on hb, hbq.on hb, hb2.trans (hb.mono (by have := hb2.size; have := Box.lt hbn; omega))⟩)
  clear hb2 hbn hbq hr hrn hv
  rw [hw] at HR
  clear hw hr0 hs
  go_enter Try.func57, Try.ntmps57
  go_wp2_with fail
  rw [← hg, ← hw1, ← hw2]
  clear hw1 hw2 e1 hg
  refine HR.out.mono ?_
  rintro e w3 ⟨rfl, hb3⟩
  have HB3 := Lib.hid hb3
  obtain ⟨x1, x2, x3⟩ := FIN.out _ hb3
  obtain ⟨n0, n1, n2, n3⟩ : _ ∧ _ ∧ _ ∧ _ := ⟨x1.cell 0 rfl, x1.cell 1 rfl, x1.cell 2 rfl, x1.cell 3 rfl⟩
  clear hb3 x1 x2 x3
  go_wp2_with fail
  refine (HRN.out _).mono ?_
  rintro e w4 ⟨rfl, hb⟩
  have hb4 := HB3.out.trans (hb.mono HB3.out.size)
  have HB4 := Lib.hid hb4
  obtain ⟨x1, x2, x3⟩ := FIN.out _ hb4
  clear hb hb4 n0 n1 n2 n3
  obtain ⟨f0, f1, f2, f3, f4, f5⟩ := (⟨x2.free 0, x2.free 1, x2.free 2, x2.free 3, x2.free 4, x2.free 5⟩ : _ ∧ _ ∧ _ ∧ _ ∧ _ ∧ _)
  obtain ⟨m0, m1, m2, m3, m4, m5⟩ := (⟨x2.cell 0 rfl, x2.cell 1 rfl, x2.cell 2 rfl, x2.cell 3 rfl, x2.cell 4 rfl, x2.cell 5 rfl⟩ : _ ∧ _ ∧ _ ∧ _ ∧ _ ∧ _)
  obtain ⟨wz, hz⟩ : ∃ wz, wz = ((((((w4.setCell ⟨g + 1, 0, none⟩ (.int .i64 0)).setCell ⟨g + 1, 1, none⟩ (.string ⟨#[]⟩)).setCell ⟨g + 1, 2, none⟩ (.bool false)).setCell ⟨g + 1, 3, none⟩ (.string ⟨#[]⟩)).setCell ⟨g + 1, 4, none⟩ (.bool false)).setCell ⟨g + 1, 5, none⟩ (.string ⟨#[]⟩)) := ⟨_, rfl⟩
  have hqz : Box wz (g + 1) 55 #[.int .i64 0, .string ⟨#[]⟩, .bool false, .string ⟨#[]⟩, .bool false, .string ⟨#[]⟩] := by rw [hz]; exact ((((((Box.set x2 0 _).set 1 _).set 2 _).set 3 _).set 4 _).set 5 _)
  have hbz : Below g w wz := by rw [hz]; exact ((((((x3.setCell (p := ⟨g + 1, 0, none⟩) (by simp) _).setCell (p := ⟨g + 1, 1, none⟩) (by simp) _).setCell (p := ⟨g + 1, 2, none⟩) (by simp) _).setCell (p := ⟨g + 1, 3, none⟩) (by simp) _).setCell (p := ⟨g + 1, 4, none⟩) (by simp) _).setCell (p := ⟨g + 1, 5, none⟩) (by simp) _)
  obtain ⟨p0, p1, p2, p3, p4, p5⟩ : _ ∧ _ ∧ _ ∧ _ ∧ _ ∧ _ := ⟨hqz.cell 0 rfl, hqz.cell 1 rfl, hqz.cell 2 rfl, hqz.cell 3 rfl, hqz.cell 4 rfl, hqz.cell 5 rfl⟩
  have HBZ := Lib.hid (show Below w.heap.size w wz from by rw [← HG.out]; exact hbz)
  clear x1 x2 x3 hqz hbz
  go_wp2
  rw [← hz]
  exact bodyPost_ret (v := .tuple #[.agg #[.int .i64 0, .string ⟨#[]⟩, .bool false, .string ⟨#[]⟩, .bool false, .string ⟨#[]⟩], .int .i64 1]) (by simp [results, Try.results57, go_sem, p0, p1, p2, p3, p4, p5]) rfl ⟨rfl, HBZ.out⟩

set_option maxRecDepth 100000 in
set_option maxHeartbeats 4000000 in
theorem of_w3 {v : Value} {l : List Pr} (s : Int) (nk : Int) (nkey nval : ByteArray) (nn : UInt64) (w : World) (hv : PV w v l) (hn : l.length ≤ 100000) (hw : wellL l = true) (hr0 : rightN ⟨nk, nkey, nval, nn⟩ = true) (hs : 1 ≤ s) (hs2 : ¬ s ≤ 2147483647) :
    Calls Try.prog 57 #[v, .int .i64 s, .agg #[.int .i64 nk, .string nkey, .string nval, .int .u64 (nn.toNat : Int)]] w fun e w' => e = .returned (.tuple #[.agg #[.int .i64 0, .string ⟨#[]⟩, .bool false, .string ⟨#[]⟩, .bool false, .string ⟨#[]⟩], .int .i64 1]) ∧ Below w.heap.size w w' := by
  have hrn := fun w => right_any nk nkey nval nn w
  rw [hr0] at hrn
  have hd1 : decide (s < 1) = false := by simp; omega
  have hd2 : decide (2147483647 < s) = true := by simp; omega
  obtain ⟨xn, hxn⟩ : ∃ xn : Int, ((nn.toNat : Nat) : Int) = xn := ⟨_, rfl⟩
  rw [hxn] at hrn ⊢
  obtain ⟨w1, hw1⟩ : ∃ q, q = w.alloc (.cells #[.int .i64 nk, .string nkey, .string nval, .int .u64 xn] 48) := ⟨_, rfl⟩
  obtain ⟨w2, hw2⟩ : ∃ q, q = w1.alloc (.cells #[.int .i64 0, .string ⟨#[]⟩, .bool false, .string ⟨#[]⟩, .bool false, .string ⟨#[]⟩] 55) := ⟨_, rfl⟩
  obtain ⟨g, hg⟩ : ∃ q, q = w.heap.size := ⟨_, rfl⟩
  have e1 : w1.heap.size = g + 1 := by rw [hw1, hg]; simp
  have hb2 : Below g w w2 := by rw [hw2, hw1, hg]; exact ((Below.refl _ _).alloc (Nat.le_refl _) _).alloc (by simp) _
  have hbn : Box w2 g 48 #[.int .i64 nk, .string nkey, .string nval, .int .u64 xn] := by rw [hw2]; exact Box.push (by rw [hw1]; exact Box.at_ w _ _ hg) _
  have hbq : Box w2 (g + 1) 55 #[.int .i64 0, .string ⟨#[]⟩, .bool false, .string ⟨#[]⟩, .bool false, .string ⟨#[]⟩] := by rw [hw2]; exact Box.at_ w1 _ _ e1.symm
  have hr := right_v (hv.on (by rw [← hg]; exact hb2)) (by unfold maxLen; omega)
  have HG := Lib.hid hg
  have HR := Lib.hid hr
  have HRN := Lib.hid hrn
  have HVV := Lib.hid hv
  have FIN := Lib.hid (show ∀ w', Below w2.heap.size w2 w' → Box w' g 48 #[.int .i64 nk, .string nkey, .string nval, .int .u64 xn] ∧ Box w' (g + 1) 55 #[.int .i64 0, .string ⟨#[]⟩, .bool false, .string ⟨#[]⟩, .bool false, .string ⟨#[]⟩] ∧ Below g w w' from fun w' hb => ⟨hbn.on hb, hbq.on hb, hb2.trans (hb.mono (by have := hb2.size; have := Box.lt hbn; omega))⟩)
  clear hb2 hbn hbq hr hrn hv
  rw [hw] at HR
  clear hw hr0 hs hs2
  go_enter Try.func57, Try.ntmps57
  go_wp2_with fail
  rw [← hg, ← hw1, ← hw2]
  clear hw1 hw2 e1 hg
  refine HR.out.mono ?_
  rintro e w3 ⟨rfl, hb3⟩
  have HB3 := Lib.hid hb3
  obtain ⟨x1, x2, x3⟩ := FIN.out _ hb3
  obtain ⟨n0, n1, n2, n3⟩ : _ ∧ _ ∧ _ ∧ _ := ⟨x1.cell 0 rfl, x1.cell 1 rfl, x1.cell 2 rfl, x1.cell 3 rfl⟩
  clear hb3 x1 x2 x3
  go_wp2_with fail
  refine (HRN.out _).mono ?_
  rintro e w4 ⟨rfl, hb⟩
  have hb4 := HB3.out.trans (hb.mono HB3.out.size)
  have HB4 := Lib.hid hb4
  obtain ⟨x1, x2, x3⟩ := FIN.out _ hb4
  clear hb hb4 n0 n1 n2 n3
  obtain ⟨f0, f1, f2, f3, f4, f5⟩ := (⟨x2.free 0, x2.free 1, x2.free 2, x2.free 3, x2.free 4, x2.free 5⟩ : _ ∧ _ ∧ _ ∧ _ ∧ _ ∧ _)
  obtain ⟨m0, m1, m2, m3, m4, m5⟩ := (⟨x2.cell 0 rfl, x2.cell 1 rfl, x2.cell 2 rfl, x2.cell 3 rfl, x2.cell 4 rfl, x2.cell 5 rfl⟩ : _ ∧ _ ∧ _ ∧ _ ∧ _ ∧ _)
  obtain ⟨wz, hz⟩ : ∃ wz, wz = ((((((w4.setCell ⟨g + 1, 0, none⟩ (.int .i64 0)).setCell ⟨g + 1, 1, none⟩ (.string ⟨#[]⟩)).setCell ⟨g + 1, 2, none⟩ (.bool false)).setCell ⟨g + 1, 3, none⟩ (.string ⟨#[]⟩)).setCell ⟨g + 1, 4, none⟩ (.bool false)).setCell ⟨g + 1, 5, none⟩ (.string ⟨#[]⟩)) := ⟨_, rfl⟩
  have hqz : Box wz (g + 1) 55 #[.int .i64 0, .string ⟨#[]⟩, .bool false, .string ⟨#[]⟩, .bool false, .string ⟨#[]⟩] := by rw [hz]; exact ((((((Box.set x2 0 _).set 1 _).set 2 _).set 3 _).set 4 _).set 5 _)
  have hbz : Below g w wz := by rw [hz]; exact ((((((x3.setCell (p := ⟨g + 1, 0, none⟩) (by simp) _).setCell (p := ⟨g + 1, 1, none⟩) (by simp) _).setCell (p := ⟨g + 1, 2, none⟩) (by simp) _).setCell (p := ⟨g + 1, 3, none⟩) (by simp) _).setCell (p := ⟨g + 1, 4, none⟩) (by simp) _).setCell (p := ⟨g + 1, 5, none⟩) (by simp) _)
  obtain ⟨p0, p1, p2, p3, p4, p5⟩ : _ ∧ _ ∧ _ ∧ _ ∧ _ ∧ _ := ⟨hqz.cell 0 rfl, hqz.cell 1 rfl, hqz.cell 2 rfl, hqz.cell 3 rfl, hqz.cell 4 rfl, hqz.cell 5 rfl⟩
  have HBZ := Lib.hid (show Below w.heap.size w wz from by rw [← HG.out]; exact hbz)
  clear x1 x2 x3 hqz hbz
  go_wp2
  rw [← hz]
  exact bodyPost_ret (v := .tuple #[.agg #[.int .i64 0, .string ⟨#[]⟩, .bool false, .string ⟨#[]⟩, .bool false, .string ⟨#[]⟩], .int .i64 1]) (by simp [results, Try.results57, go_sem, p0, p1, p2, p3, p4, p5]) rfl ⟨rfl, HBZ.out⟩

set_option maxRecDepth 100000 in
set_option maxHeartbeats 4000000 in
theorem of_w4 {v : Value} {l : List Pr} (s : Int) (nk : Int) (nkey nval : ByteArray) (nn : UInt64) (w : World) (hv : PV w v l) (hn : l.length ≤ 100000) (hw : wellL l = true) (hr0 : rightN ⟨nk, nkey, nval, nn⟩ = true) (hs : 1 ≤ s) (hs2 : s ≤ 2147483647) (cv : ByteArray) (ch : Bool) (hcv : hasOf (getL l nkey) = (cv, ch)) (dv : ByteArray) (dh : Bool) (hdv : hasOf (stepsO (getL l nkey) [⟨nk, nkey, nval, nn⟩]) = (dv, dh)) (ho : (ch || dh) = false) :
    Calls Try.prog 57 #[v, .int .i64 s, .agg #[.int .i64 nk, .string nkey, .string nval, .int .u64 (nn.toNat : Int)]] w fun e w' => e = .returned (.tuple #[.agg #[.int .i64 0, .string ⟨#[]⟩, .bool false, .string ⟨#[]⟩, .bool false, .string ⟨#[]⟩], .int .i64 3]) ∧ Below w.heap.size w w' := by
  have hrn := fun w => right_any nk nkey nval nn w
  rw [hr0] at hrn
  have hd1 : decide (s < 1) = false := by simp; omega
  have hd2 : decide (2147483647 < s) = false := by simp; omega
  obtain ⟨xn, hxn⟩ : ∃ xn : Int, ((nn.toNat : Nat) : Int) = xn := ⟨_, rfl⟩
  rw [hxn] at hrn ⊢
  obtain ⟨w1, hw1⟩ : ∃ q, q = w.alloc (.cells #[.int .i64 nk, .string nkey, .string nval, .int .u64 xn] 48) := ⟨_, rfl⟩
  obtain ⟨w2, hw2⟩ : ∃ q, q = w1.alloc (.cells #[.int .i64 0, .string ⟨#[]⟩, .bool false, .string ⟨#[]⟩, .bool false, .string ⟨#[]⟩] 55) := ⟨_, rfl⟩
  obtain ⟨g, hg⟩ : ∃ q, q = w.heap.size := ⟨_, rfl⟩
  have e1 : w1.heap.size = g + 1 := by rw [hw1, hg]; simp
  have hb2 : Below g w w2 := by rw [hw2, hw1, hg]; exact ((Below.refl _ _).alloc (Nat.le_refl _) _).alloc (by simp) _
  have hbn : Box w2 g 48 #[.int .i64 nk, .string nkey, .string nval, .int .u64 xn] := by rw [hw2]; exact Box.push (by rw [hw1]; exact Box.at_ w _ _ hg) _
  have hbq : Box w2 (g + 1) 55 #[.int .i64 0, .string ⟨#[]⟩, .bool false, .string ⟨#[]⟩, .bool false, .string ⟨#[]⟩] := by rw [hw2]; exact Box.at_ w1 _ _ e1.symm
  have hr := right_v (hv.on (by rw [← hg]; exact hb2)) (by unfold maxLen; omega)
  have HG := Lib.hid hg
  have HR := Lib.hid hr
  have HRN := Lib.hid hrn
  have HVV := Lib.hid hv
  have FIN := Lib.hid (show ∀ w', Below w2.heap.size w2 w' → Box w' g 48 #[.int .i64 nk, .string nkey, .string nval, .int .u64 xn] ∧ Box w' (g + 1) 55 #[.int .i64 0, .string ⟨#[]⟩, .bool false, .string ⟨#[]⟩, .bool false, .string ⟨#[]⟩] ∧ Below g w w' from fun w' hb => ⟨hbn.on hb, hbq.on hb, hb2.trans (hb.mono (by have := hb2.size; have := Box.lt hbn; omega))⟩)
  clear hb2 hbn hbq hr hrn hv
  rw [hw] at HR
  have hga : getA l nkey = (cv, ch) := by unfold getA; rw [hw, if_pos rfl, hcv]
  have hdn : doneL cv ch [⟨nk, nkey, nval, nn⟩] = (dv, dh) := by rw [← hdv, ← done_hasOf, hcv]
  have HGA := Lib.hid hga
  have HDN := Lib.hid hdn
  have HXN := Lib.hid hxn
  clear hw hr0 hs hs2 hcv hdv hga hdn hxn
  obtain ⟨rfl, rfl⟩ : ch = false ∧ dh = false := by cases ch <;> cases dh <;> first | exact ⟨rfl, rfl⟩ | cases ho
  clear ho
  go_enter Try.func57, Try.ntmps57
  go_wp2_with fail
  rw [← hg, ← hw1, ← hw2]
  clear hw1 hw2 e1 hg
  refine HR.out.mono ?_
  rintro e w3 ⟨rfl, hb3⟩
  have HB3 := Lib.hid hb3
  obtain ⟨x1, x2, x3⟩ := FIN.out _ hb3
  obtain ⟨n0, n1, n2, n3⟩ : _ ∧ _ ∧ _ ∧ _ := ⟨x1.cell 0 rfl, x1.cell 1 rfl, x1.cell 2 rfl, x1.cell 3 rfl⟩
  clear hb3 x1 x2 x3
  go_wp2_with fail
  refine (HRN.out _).mono ?_
  rintro e w4 ⟨rfl, hb⟩
  have hb4 := HB3.out.trans (hb.mono HB3.out.size)
  have HB4 := Lib.hid hb4
  obtain ⟨x1, x2, x3⟩ := FIN.out _ hb4
  clear hb hb4 n0 n1 n2 n3
  have i2 := x2
  have HX2 := Lib.hid x2
  have HX3 := Lib.hid x3
  have HX1 := Lib.hid x1
  obtain ⟨B8, hB8⟩ : ∃ q, q = w4.heap.size := ⟨_, rfl⟩
  obtain ⟨w5, hw5⟩ : ∃ q, q = w4.alloc (.cells #[.bool false, .string ⟨#[]⟩] 104) := ⟨_, rfl⟩
  obtain ⟨w6, hw6⟩ : ∃ q, q = w5.alloc (.cells #[.bool false, .string ⟨#[]⟩] 104) := ⟨_, rfl⟩
  have e5 : w5.heap.size = B8 + 1 := by rw [hw5, hB8]; simp
  have hb46 : Below w4.heap.size w4 w6 := by rw [hw6, hw5]; exact ((Below.refl _ _).alloc (Nat.le_refl _) _).alloc (by simp) _
  have h8 : Box w6 B8 104 #[.bool false, .string ⟨#[]⟩] := by rw [hw6]; exact Box.push (by rw [hw5]; exact Box.at_ w4 _ _ hB8) _
  have h9 : Box w6 (B8 + 1) 104 #[.bool false, .string ⟨#[]⟩] := by rw [hw6]; exact Box.at_ w5 _ _ e5.symm
  have hlt : g + 1 < B8 := by rw [hB8]; exact Box.lt x2
  have n1 := (x1.on hb46).cell 1 rfl
  rw [hw6, hw5] at n1
  have HL := Lib.hid hlt
  have hb6 : Below g w w6 := x3.trans (hb46.mono (by omega))
  have hgc := get_v (HVV.out.on (by rw [← HG.out]; exact hb6)) nkey (by omega)
  rw [HGA.out] at hgc
  simp only at hgc
  have HGC := Lib.hid hgc
  have HB6 := Lib.hid hb6
  have H8 := Lib.hid h8
  have H9 := Lib.hid h9
  have X16 := Lib.hid (x1.on hb46)
  have X26 := Lib.hid (x2.on hb46)
  clear i2 x1 x2 x3 hb46 h8 h9 hlt hb6 hgc
  go_wp2_with fail
  rw [← hB8, ← hw5, ← hw6]
  clear e5 hw5 hw6 hB8 n1
  refine HGC.out.mono ?_
  rintro e w7 ⟨rfl, hb⟩
  have h8 := H8.out.on hb
  have f0 := h8.free 0
  have f1 := h8.free 1
  have m0 := h8.cell 0 rfl
  have m1 := h8.cell 1 rfl
  obtain ⟨w8, hw8⟩ : ∃ q, q = (w7.setCell ⟨B8, 1, none⟩ (.string cv)).setCell ⟨B8, 0, none⟩ (.bool false) := ⟨_, rfl⟩
  have hb8 : Below g w w8 := by rw [hw8]; exact ((HB6.out.trans (hb.mono (by have := X16.out.lt; omega))).setCell (p := ⟨B8, 1, none⟩) (by have := HL.out; simp; omega) _).setCell (p := ⟨B8, 0, none⟩) (by have := HL.out; simp; omega) _
  have k8 : Box w8 B8 104 #[.bool false, .string cv] := by rw [hw8]; exact (Box.set h8 1 _).set 0 _
  have k9 : Box w8 (B8 + 1) 104 #[.bool false, .string ⟨#[]⟩] := by rw [hw8]; exact ((H9.out.on hb).away (by simp) _).away (by simp) _
  have k1 : Box w8 g 48 #[.int .i64 nk, .string nkey, .string nval, .int .u64 xn] := by rw [hw8]; exact ((X16.out.on hb).away (by have := HL.out; simp; omega) _).away (by have := HL.out; simp; omega) _
  have k2 : Box w8 (g + 1) 55 #[.int .i64 0, .string ⟨#[]⟩, .bool false, .string ⟨#[]⟩, .bool false, .string ⟨#[]⟩] := by rw [hw8]; exact ((X26.out.on hb).away (by have := HL.out; simp; omega) _).away (by have := HL.out; simp; omega) _
  have s0 := k8.cell 0 rfl
  have s1 := k8.cell 1 rfl
  obtain ⟨n0, n1, n2, n3⟩ : _ ∧ _ ∧ _ ∧ _ := ⟨k1.cell 0 rfl, k1.cell 1 rfl, k1.cell 2 rfl, k1.cell 3 rfl⟩
  obtain ⟨w9, hw9⟩ : ∃ q, q = w8.alloc (.cells #[.int .i64 nk, .string nkey, .string nval, .int .u64 xn] 48) := ⟨_, rfl⟩
  have hb89 : Below w8.heap.size w8 w9 := by rw [hw9]; exact (Below.refl _ _).alloc (Nat.le_refl _) _
  have e78 : w7.heap.size = w8.heap.size := by rw [hw8]; simp
  have hdc := done_any cv false (some ⟨w7.heap.size, 0, none⟩) 1 [⟨nk, nkey, nval, nn⟩] w9 (by
    have h := Lies.lit (cs := Nt.cells) (k := 4) (w := w8) (t := 48) (C := #[.int .i64 nk, .string nkey, .string nval, .int .u64 xn]) (l := [(⟨nk, nkey, nval, nn⟩ : Nt)]) (fun _ => rfl) (by simp [Nt.cells, HXN.out])
    rw [hw9, e78]; simpa using h) (by unfold maxLen; simp)
  rw [HDN.out] at hdc
  simp only [List.length_cons, List.length_nil, Nat.zero_add] at hdc
  have HDC := Lib.hid hdc
  have K8 := Lib.hid (k8.on hb89)
  have K9 := Lib.hid (k9.on hb89)
  have K1 := Lib.hid (k1.on hb89)
  have K2 := Lib.hid (k2.on hb89)
  have HB9 := Lib.hid (hb8.trans (hb89.mono (by have := k1.lt; omega)))
  clear hb h8 hb8 k8 k9 k1 k2 hb89 hdc e78
  rw [hw8] at s0 s1 n0 n1 n2 n3
  go_wp2_with fail
  rw [← hw8, ← hw9]
  clear hw8 hw9 f0 f1 m0 m1 s0 s1 n0 n1 n2 n3
  refine HDC.out.mono ?_
  rintro e w10 ⟨rfl, hb⟩
  have h9 := K9.out.on hb
  have f0 := h9.free 0
  have f1 := h9.free 1
  have m0 := h9.cell 0 rfl
  have m1 := h9.cell 1 rfl
  obtain ⟨w11, hw11⟩ : ∃ q, q = (w10.setCell ⟨B8 + 1, 1, none⟩ (.string dv)).setCell ⟨B8 + 1, 0, none⟩ (.bool false) := ⟨_, rfl⟩
  have hb11 : Below g w w11 := by rw [hw11]; exact ((HB9.out.trans (hb.mono (by have := K1.out.lt; omega))).setCell (p := ⟨B8 + 1, 1, none⟩) (by have := HL.out; simp; omega) _).setCell (p := ⟨B8 + 1, 0, none⟩) (by have := HL.out; simp; omega) _
  have k9 : Box w11 (B8 + 1) 104 #[.bool false, .string dv] := by rw [hw11]; exact (Box.set h9 1 _).set 0 _
  have k8 : Box w11 B8 104 #[.bool false, .string cv] := by rw [hw11]; exact ((K8.out.on hb).away (by simp) _).away (by simp) _
  have x1 : Box w11 g 48 #[.int .i64 nk, .string nkey, .string nval, .int .u64 xn] := by rw [hw11]; exact ((K1.out.on hb).away (by have := HL.out; simp; omega) _).away (by have := HL.out; simp; omega) _
  have x2 : Box w11 (g + 1) 55 #[.int .i64 0, .string ⟨#[]⟩, .bool false, .string ⟨#[]⟩, .bool false, .string ⟨#[]⟩] := by rw [hw11]; exact ((K2.out.on hb).away (by have := HL.out; simp; omega) _).away (by have := HL.out; simp; omega) _
  have x3 := hb11
  obtain ⟨s0, s1⟩ : _ ∧ _ := ⟨k8.cell 0 rfl, k8.cell 1 rfl⟩
  obtain ⟨t0, t1⟩ : _ ∧ _ := ⟨k9.cell 0 rfl, k9.cell 1 rfl⟩
  go_upto_region 6 with fail
  rw [← hw11]
  clear hw11 f0 f1 m0 m1
  clear hb h9 hb11
  have g0 := x1
  clear g0
  obtain ⟨f0, f1, f2, f3, f4, f5⟩ := (⟨x2.free 0, x2.free 1, x2.free 2, x2.free 3, x2.free 4, x2.free 5⟩ : _ ∧ _ ∧ _ ∧ _ ∧ _ ∧ _)
  obtain ⟨m0, m1, m2, m3, m4, m5⟩ := (⟨x2.cell 0 rfl, x2.cell 1 rfl, x2.cell 2 rfl, x2.cell 3 rfl, x2.cell 4 rfl, x2.cell 5 rfl⟩ : _ ∧ _ ∧ _ ∧ _ ∧ _ ∧ _)
  obtain ⟨wz, hz⟩ : ∃ wz, wz = ((((((w11.setCell ⟨g + 1, 0, none⟩ (.int .i64 0)).setCell ⟨g + 1, 1, none⟩ (.string ⟨#[]⟩)).setCell ⟨g + 1, 2, none⟩ (.bool false)).setCell ⟨g + 1, 3, none⟩ (.string ⟨#[]⟩)).setCell ⟨g + 1, 4, none⟩ (.bool false)).setCell ⟨g + 1, 5, none⟩ (.string ⟨#[]⟩)) := ⟨_, rfl⟩
  have hqz : Box wz (g + 1) 55 #[.int .i64 0, .string ⟨#[]⟩, .bool false, .string ⟨#[]⟩, .bool false, .string ⟨#[]⟩] := by rw [hz]; exact ((((((Box.set x2 0 _).set 1 _).set 2 _).set 3 _).set 4 _).set 5 _)
  have hbz : Below g w wz := by rw [hz]; exact ((((((x3.setCell (p := ⟨g + 1, 0, none⟩) (by simp) _).setCell (p := ⟨g + 1, 1, none⟩) (by simp) _).setCell (p := ⟨g + 1, 2, none⟩) (by simp) _).setCell (p := ⟨g + 1, 3, none⟩) (by simp) _).setCell (p := ⟨g + 1, 4, none⟩) (by simp) _).setCell (p := ⟨g + 1, 5, none⟩) (by simp) _)
  obtain ⟨p0, p1, p2, p3, p4, p5⟩ : _ ∧ _ ∧ _ ∧ _ ∧ _ ∧ _ := ⟨hqz.cell 0 rfl, hqz.cell 1 rfl, hqz.cell 2 rfl, hqz.cell 3 rfl, hqz.cell 4 rfl, hqz.cell 5 rfl⟩
  have HBZ := Lib.hid (show Below w.heap.size w wz from by rw [← HG.out]; exact hbz)
  clear x1 x2 x3 hqz hbz k8 k9
  go_wp2
  rw [← hz]
  exact bodyPost_ret (v := .tuple #[.agg #[.int .i64 0, .string ⟨#[]⟩, .bool false, .string ⟨#[]⟩, .bool false, .string ⟨#[]⟩], .int .i64 3]) (by simp [results, Try.results57, go_sem, p0, p1, p2, p3, p4, p5]) rfl ⟨rfl, HBZ.out⟩

set_option maxRecDepth 100000 in
set_option maxHeartbeats 4000000 in
theorem of_w5 {v : Value} {l : List Pr} (s : Int) (nk : Int) (nkey nval : ByteArray) (nn : UInt64) (w : World) (hv : PV w v l) (hn : l.length ≤ 100000) (hw : wellL l = true) (hr0 : rightN ⟨nk, nkey, nval, nn⟩ = true) (hs : 1 ≤ s) (hs2 : s ≤ 2147483647) (cv : ByteArray) (ch : Bool) (hcv : hasOf (getL l nkey) = (cv, ch)) (dv : ByteArray) (dh : Bool) (hdv : hasOf (stepsO (getL l nkey) [⟨nk, nkey, nval, nn⟩]) = (dv, dh)) (ho : (ch || dh) = true) :
    Calls Try.prog 57 #[v, .int .i64 s, .agg #[.int .i64 nk, .string nkey, .string nval, .int .u64 (nn.toNat : Int)]] w fun e w' => e = .returned (.tuple #[.agg #[.int .i64 s, .string nkey, .bool ch, .string cv, .bool dh, .string dv], .int .i64 0]) ∧ Below w.heap.size w w' := by
  have hrn := fun w => right_any nk nkey nval nn w
  rw [hr0] at hrn
  have hd1 : decide (s < 1) = false := by simp; omega
  have hd2 : decide (2147483647 < s) = false := by simp; omega
  obtain ⟨xn, hxn⟩ : ∃ xn : Int, ((nn.toNat : Nat) : Int) = xn := ⟨_, rfl⟩
  rw [hxn] at hrn ⊢
  obtain ⟨w1, hw1⟩ : ∃ q, q = w.alloc (.cells #[.int .i64 nk, .string nkey, .string nval, .int .u64 xn] 48) := ⟨_, rfl⟩
  obtain ⟨w2, hw2⟩ : ∃ q, q = w1.alloc (.cells #[.int .i64 0, .string ⟨#[]⟩, .bool false, .string ⟨#[]⟩, .bool false, .string ⟨#[]⟩] 55) := ⟨_, rfl⟩
  obtain ⟨g, hg⟩ : ∃ q, q = w.heap.size := ⟨_, rfl⟩
  have e1 : w1.heap.size = g + 1 := by rw [hw1, hg]; simp
  have hb2 : Below g w w2 := by rw [hw2, hw1, hg]; exact ((Below.refl _ _).alloc (Nat.le_refl _) _).alloc (by simp) _
  have hbn : Box w2 g 48 #[.int .i64 nk, .string nkey, .string nval, .int .u64 xn] := by rw [hw2]; exact Box.push (by rw [hw1]; exact Box.at_ w _ _ hg) _
  have hbq : Box w2 (g + 1) 55 #[.int .i64 0, .string ⟨#[]⟩, .bool false, .string ⟨#[]⟩, .bool false, .string ⟨#[]⟩] := by rw [hw2]; exact Box.at_ w1 _ _ e1.symm
  have hr := right_v (hv.on (by rw [← hg]; exact hb2)) (by unfold maxLen; omega)
  have HG := Lib.hid hg
  have HR := Lib.hid hr
  have HRN := Lib.hid hrn
  have HVV := Lib.hid hv
  have FIN := Lib.hid (show ∀ w', Below w2.heap.size w2 w' → Box w' g 48 #[.int .i64 nk, .string nkey, .string nval, .int .u64 xn] ∧ Box w' (g + 1) 55 #[.int .i64 0, .string ⟨#[]⟩, .bool false, .string ⟨#[]⟩, .bool false, .string ⟨#[]⟩] ∧ Below g w w' from fun w' hb => ⟨hbn.on hb, hbq.on hb, hb2.trans (hb.mono (by have := hb2.size; have := Box.lt hbn; omega))⟩)
  clear hb2 hbn hbq hr hrn hv
  rw [hw] at HR
  have hga : getA l nkey = (cv, ch) := by unfold getA; rw [hw, if_pos rfl, hcv]
  have hdn : doneL cv ch [⟨nk, nkey, nval, nn⟩] = (dv, dh) := by rw [← hdv, ← done_hasOf, hcv]
  have HGA := Lib.hid hga
  have HDN := Lib.hid hdn
  have HXN := Lib.hid hxn
  clear hw hr0 hs hs2 hcv hdv hga hdn hxn
  go_enter Try.func57, Try.ntmps57
  go_wp2_with fail
  rw [← hg, ← hw1, ← hw2]
  clear hw1 hw2 e1 hg
  refine HR.out.mono ?_
  rintro e w3 ⟨rfl, hb3⟩
  have HB3 := Lib.hid hb3
  obtain ⟨x1, x2, x3⟩ := FIN.out _ hb3
  obtain ⟨n0, n1, n2, n3⟩ : _ ∧ _ ∧ _ ∧ _ := ⟨x1.cell 0 rfl, x1.cell 1 rfl, x1.cell 2 rfl, x1.cell 3 rfl⟩
  clear hb3 x1 x2 x3
  go_wp2_with fail
  refine (HRN.out _).mono ?_
  rintro e w4 ⟨rfl, hb⟩
  have hb4 := HB3.out.trans (hb.mono HB3.out.size)
  have HB4 := Lib.hid hb4
  obtain ⟨x1, x2, x3⟩ := FIN.out _ hb4
  clear hb hb4 n0 n1 n2 n3
  have i2 := x2
  have HX2 := Lib.hid x2
  have HX3 := Lib.hid x3
  have HX1 := Lib.hid x1
  obtain ⟨B8, hB8⟩ : ∃ q, q = w4.heap.size := ⟨_, rfl⟩
  obtain ⟨w5, hw5⟩ : ∃ q, q = w4.alloc (.cells #[.bool false, .string ⟨#[]⟩] 104) := ⟨_, rfl⟩
  obtain ⟨w6, hw6⟩ : ∃ q, q = w5.alloc (.cells #[.bool false, .string ⟨#[]⟩] 104) := ⟨_, rfl⟩
  have e5 : w5.heap.size = B8 + 1 := by rw [hw5, hB8]; simp
  have hb46 : Below w4.heap.size w4 w6 := by rw [hw6, hw5]; exact ((Below.refl _ _).alloc (Nat.le_refl _) _).alloc (by simp) _
  have h8 : Box w6 B8 104 #[.bool false, .string ⟨#[]⟩] := by rw [hw6]; exact Box.push (by rw [hw5]; exact Box.at_ w4 _ _ hB8) _
  have h9 : Box w6 (B8 + 1) 104 #[.bool false, .string ⟨#[]⟩] := by rw [hw6]; exact Box.at_ w5 _ _ e5.symm
  have hlt : g + 1 < B8 := by rw [hB8]; exact Box.lt x2
  have n1 := (x1.on hb46).cell 1 rfl
  rw [hw6, hw5] at n1
  have HL := Lib.hid hlt
  have hb6 : Below g w w6 := x3.trans (hb46.mono (by omega))
  have hgc := get_v (HVV.out.on (by rw [← HG.out]; exact hb6)) nkey (by omega)
  rw [HGA.out] at hgc
  simp only at hgc
  have HGC := Lib.hid hgc
  have HB6 := Lib.hid hb6
  have H8 := Lib.hid h8
  have H9 := Lib.hid h9
  have X16 := Lib.hid (x1.on hb46)
  have X26 := Lib.hid (x2.on hb46)
  clear i2 x1 x2 x3 hb46 h8 h9 hlt hb6 hgc
  go_wp2_with fail
  rw [← hB8, ← hw5, ← hw6]
  clear e5 hw5 hw6 hB8 n1
  refine HGC.out.mono ?_
  rintro e w7 ⟨rfl, hb⟩
  have h8 := H8.out.on hb
  have f0 := h8.free 0
  have f1 := h8.free 1
  have m0 := h8.cell 0 rfl
  have m1 := h8.cell 1 rfl
  obtain ⟨w8, hw8⟩ : ∃ q, q = (w7.setCell ⟨B8, 1, none⟩ (.string cv)).setCell ⟨B8, 0, none⟩ (.bool ch) := ⟨_, rfl⟩
  have hb8 : Below g w w8 := by rw [hw8]; exact ((HB6.out.trans (hb.mono (by have := X16.out.lt; omega))).setCell (p := ⟨B8, 1, none⟩) (by have := HL.out; simp; omega) _).setCell (p := ⟨B8, 0, none⟩) (by have := HL.out; simp; omega) _
  have k8 : Box w8 B8 104 #[.bool ch, .string cv] := by rw [hw8]; exact (Box.set h8 1 _).set 0 _
  have k9 : Box w8 (B8 + 1) 104 #[.bool false, .string ⟨#[]⟩] := by rw [hw8]; exact ((H9.out.on hb).away (by simp) _).away (by simp) _
  have k1 : Box w8 g 48 #[.int .i64 nk, .string nkey, .string nval, .int .u64 xn] := by rw [hw8]; exact ((X16.out.on hb).away (by have := HL.out; simp; omega) _).away (by have := HL.out; simp; omega) _
  have k2 : Box w8 (g + 1) 55 #[.int .i64 0, .string ⟨#[]⟩, .bool false, .string ⟨#[]⟩, .bool false, .string ⟨#[]⟩] := by rw [hw8]; exact ((X26.out.on hb).away (by have := HL.out; simp; omega) _).away (by have := HL.out; simp; omega) _
  have s0 := k8.cell 0 rfl
  have s1 := k8.cell 1 rfl
  obtain ⟨n0, n1, n2, n3⟩ : _ ∧ _ ∧ _ ∧ _ := ⟨k1.cell 0 rfl, k1.cell 1 rfl, k1.cell 2 rfl, k1.cell 3 rfl⟩
  obtain ⟨w9, hw9⟩ : ∃ q, q = w8.alloc (.cells #[.int .i64 nk, .string nkey, .string nval, .int .u64 xn] 48) := ⟨_, rfl⟩
  have hb89 : Below w8.heap.size w8 w9 := by rw [hw9]; exact (Below.refl _ _).alloc (Nat.le_refl _) _
  have e78 : w7.heap.size = w8.heap.size := by rw [hw8]; simp
  have hdc := done_any cv ch (some ⟨w7.heap.size, 0, none⟩) 1 [⟨nk, nkey, nval, nn⟩] w9 (by
    have h := Lies.lit (cs := Nt.cells) (k := 4) (w := w8) (t := 48) (C := #[.int .i64 nk, .string nkey, .string nval, .int .u64 xn]) (l := [(⟨nk, nkey, nval, nn⟩ : Nt)]) (fun _ => rfl) (by simp [Nt.cells, HXN.out])
    rw [hw9, e78]; simpa using h) (by unfold maxLen; simp)
  rw [HDN.out] at hdc
  simp only [List.length_cons, List.length_nil, Nat.zero_add] at hdc
  have HDC := Lib.hid hdc
  have K8 := Lib.hid (k8.on hb89)
  have K9 := Lib.hid (k9.on hb89)
  have K1 := Lib.hid (k1.on hb89)
  have K2 := Lib.hid (k2.on hb89)
  have HB9 := Lib.hid (hb8.trans (hb89.mono (by have := k1.lt; omega)))
  clear hb h8 hb8 k8 k9 k1 k2 hb89 hdc e78
  rw [hw8] at s0 s1 n0 n1 n2 n3
  go_wp2_with fail
  rw [← hw8, ← hw9]
  clear hw8 hw9 f0 f1 m0 m1 s0 s1 n0 n1 n2 n3
  refine HDC.out.mono ?_
  rintro e w10 ⟨rfl, hb⟩
  have h9 := K9.out.on hb
  have f0 := h9.free 0
  have f1 := h9.free 1
  have m0 := h9.cell 0 rfl
  have m1 := h9.cell 1 rfl
  obtain ⟨w11, hw11⟩ : ∃ q, q = (w10.setCell ⟨B8 + 1, 1, none⟩ (.string dv)).setCell ⟨B8 + 1, 0, none⟩ (.bool dh) := ⟨_, rfl⟩
  have hb11 : Below g w w11 := by rw [hw11]; exact ((HB9.out.trans (hb.mono (by have := K1.out.lt; omega))).setCell (p := ⟨B8 + 1, 1, none⟩) (by have := HL.out; simp; omega) _).setCell (p := ⟨B8 + 1, 0, none⟩) (by have := HL.out; simp; omega) _
  have k9 : Box w11 (B8 + 1) 104 #[.bool dh, .string dv] := by rw [hw11]; exact (Box.set h9 1 _).set 0 _
  have k8 : Box w11 B8 104 #[.bool ch, .string cv] := by rw [hw11]; exact ((K8.out.on hb).away (by simp) _).away (by simp) _
  have x1 : Box w11 g 48 #[.int .i64 nk, .string nkey, .string nval, .int .u64 xn] := by rw [hw11]; exact ((K1.out.on hb).away (by have := HL.out; simp; omega) _).away (by have := HL.out; simp; omega) _
  have x2 : Box w11 (g + 1) 55 #[.int .i64 0, .string ⟨#[]⟩, .bool false, .string ⟨#[]⟩, .bool false, .string ⟨#[]⟩] := by rw [hw11]; exact ((K2.out.on hb).away (by have := HL.out; simp; omega) _).away (by have := HL.out; simp; omega) _
  have x3 := hb11
  obtain ⟨s0, s1⟩ : _ ∧ _ := ⟨k8.cell 0 rfl, k8.cell 1 rfl⟩
  obtain ⟨t0, t1⟩ : _ ∧ _ := ⟨k9.cell 0 rfl, k9.cell 1 rfl⟩
  go_upto_region 6 with fail
  rw [← hw11]
  clear hw11 f0 f1 m0 m1
  obtain ⟨n0, n1, n2, n3⟩ : _ ∧ _ ∧ _ ∧ _ := ⟨x1.cell 0 rfl, x1.cell 1 rfl, x1.cell 2 rfl, x1.cell 3 rfl⟩
  have X2 := Lib.hid x2
  have X3 := Lib.hid x3
  clear hb h9 hb11 x1 x2 x3 k8 k9
  have HO := Lib.hid ho
  clear ho
  cases ch
  · obtain rfl : dh = true := by have := HO.out; simpa using this
    go_wp2_with fail
    refine (between_any s nkey false cv true dv _).mono ?_
    rintro e w12 ⟨rfl, hb⟩
    have x2 := X2.out.on hb
    obtain ⟨f0, f1, f2, f3, f4, f5⟩ := (⟨x2.free 0, x2.free 1, x2.free 2, x2.free 3, x2.free 4, x2.free 5⟩ : _ ∧ _ ∧ _ ∧ _ ∧ _ ∧ _)
    obtain ⟨m0, m1, m2, m3, m4, m5⟩ := (⟨x2.cell 0 rfl, x2.cell 1 rfl, x2.cell 2 rfl, x2.cell 3 rfl, x2.cell 4 rfl, x2.cell 5 rfl⟩ : _ ∧ _ ∧ _ ∧ _ ∧ _ ∧ _)
    obtain ⟨wz, hz⟩ : ∃ wz, wz = ((((((w12.setCell ⟨g + 1, 0, none⟩ (.int .i64 s)).setCell ⟨g + 1, 1, none⟩ (.string nkey)).setCell ⟨g + 1, 2, none⟩ (.bool false)).setCell ⟨g + 1, 3, none⟩ (.string cv)).setCell ⟨g + 1, 4, none⟩ (.bool true)).setCell ⟨g + 1, 5, none⟩ (.string dv)) := ⟨_, rfl⟩
    have hqz : Box wz (g + 1) 55 #[.int .i64 s, .string nkey, .bool false, .string cv, .bool true, .string dv] := by rw [hz]; exact ((((((Box.set x2 0 _).set 1 _).set 2 _).set 3 _).set 4 _).set 5 _)
    have x3 := X3.out.trans (hb.mono (by have := X2.out.lt; omega))
    have hbz : Below g w wz := by rw [hz]; exact ((((((x3.setCell (p := ⟨g + 1, 0, none⟩) (by simp) _).setCell (p := ⟨g + 1, 1, none⟩) (by simp) _).setCell (p := ⟨g + 1, 2, none⟩) (by simp) _).setCell (p := ⟨g + 1, 3, none⟩) (by simp) _).setCell (p := ⟨g + 1, 4, none⟩) (by simp) _).setCell (p := ⟨g + 1, 5, none⟩) (by simp) _)
    obtain ⟨p0, p1, p2, p3, p4, p5⟩ : _ ∧ _ ∧ _ ∧ _ ∧ _ ∧ _ := ⟨hqz.cell 0 rfl, hqz.cell 1 rfl, hqz.cell 2 rfl, hqz.cell 3 rfl, hqz.cell 4 rfl, hqz.cell 5 rfl⟩
    have HBZ := Lib.hid (show Below w.heap.size w wz from by rw [← HG.out]; exact hbz)
    clear x2 x3 hqz hbz hb
    unfold chV
    go_wp2
    rw [← hz]
    exact bodyPost_ret (v := .tuple #[.agg #[.int .i64 s, .string nkey, .bool false, .string cv, .bool true, .string dv], .int .i64 0]) (by simp [results, Try.results57, go_sem, p0, p1, p2, p3, p4, p5]) rfl ⟨rfl, HBZ.out⟩
  · go_wp2_with fail
    refine (between_any s nkey true cv dh dv _).mono ?_
    rintro e w12 ⟨rfl, hb⟩
    have x2 := X2.out.on hb
    obtain ⟨f0, f1, f2, f3, f4, f5⟩ := (⟨x2.free 0, x2.free 1, x2.free 2, x2.free 3, x2.free 4, x2.free 5⟩ : _ ∧ _ ∧ _ ∧ _ ∧ _ ∧ _)
    obtain ⟨m0, m1, m2, m3, m4, m5⟩ := (⟨x2.cell 0 rfl, x2.cell 1 rfl, x2.cell 2 rfl, x2.cell 3 rfl, x2.cell 4 rfl, x2.cell 5 rfl⟩ : _ ∧ _ ∧ _ ∧ _ ∧ _ ∧ _)
    obtain ⟨wz, hz⟩ : ∃ wz, wz = ((((((w12.setCell ⟨g + 1, 0, none⟩ (.int .i64 s)).setCell ⟨g + 1, 1, none⟩ (.string nkey)).setCell ⟨g + 1, 2, none⟩ (.bool true)).setCell ⟨g + 1, 3, none⟩ (.string cv)).setCell ⟨g + 1, 4, none⟩ (.bool dh)).setCell ⟨g + 1, 5, none⟩ (.string dv)) := ⟨_, rfl⟩
    have hqz : Box wz (g + 1) 55 #[.int .i64 s, .string nkey, .bool true, .string cv, .bool dh, .string dv] := by rw [hz]; exact ((((((Box.set x2 0 _).set 1 _).set 2 _).set 3 _).set 4 _).set 5 _)
    have x3 := X3.out.trans (hb.mono (by have := X2.out.lt; omega))
    have hbz : Below g w wz := by rw [hz]; exact ((((((x3.setCell (p := ⟨g + 1, 0, none⟩) (by simp) _).setCell (p := ⟨g + 1, 1, none⟩) (by simp) _).setCell (p := ⟨g + 1, 2, none⟩) (by simp) _).setCell (p := ⟨g + 1, 3, none⟩) (by simp) _).setCell (p := ⟨g + 1, 4, none⟩) (by simp) _).setCell (p := ⟨g + 1, 5, none⟩) (by simp) _)
    obtain ⟨p0, p1, p2, p3, p4, p5⟩ : _ ∧ _ ∧ _ ∧ _ ∧ _ ∧ _ := ⟨hqz.cell 0 rfl, hqz.cell 1 rfl, hqz.cell 2 rfl, hqz.cell 3 rfl, hqz.cell 4 rfl, hqz.cell 5 rfl⟩
    have HBZ := Lib.hid (show Below w.heap.size w wz from by rw [← HG.out]; exact hbz)
    clear x2 x3 hqz hbz hb
    unfold chV
    go_wp2
    rw [← hz]
    exact bodyPost_ret (v := .tuple #[.agg #[.int .i64 s, .string nkey, .bool true, .string cv, .bool dh, .string dv], .int .i64 0]) (by simp [results, Try.results57, go_sem, p0, p1, p2, p3, p4, p5]) rfl ⟨rfl, HBZ.out⟩

theorem of_v {v : Value} {l : List Pr} (s : Int) (x : Nt) (w : World) (hv : PV w v l) (hn : l.length ≤ 100000) :
    Calls Try.prog 57 #[v, .int .i64 s, .agg x.cells.toArray] w fun e w' => e = .returned (.tuple #[(ofA l s x).v, .int .i64 (ofE l s x)]) ∧ Below w.heap.size w w' := by
  obtain ⟨nk, nkey, nval, nn⟩ := x
  cases hw : wellL l with
  | false =>
    obtain ⟨e1, e2⟩ := of_no (l := l) (s := s) (x := ⟨nk, nkey, nval, nn⟩) (by unfold ofOk; rw [hw]; rfl)
    rw [e1, e2]
    exact of_w0 s nk nkey nval nn w hv hn hw
  | true =>
    cases hr : rightN ⟨nk, nkey, nval, nn⟩ with
    | false =>
      obtain ⟨e1, e2⟩ := of_no (l := l) (s := s) (x := ⟨nk, nkey, nval, nn⟩) (by unfold ofOk; rw [hw, hr]; rfl)
      rw [e1, e2]
      exact of_w1 s nk nkey nval nn w hv hn hw hr
    | true =>
      by_cases hs : 1 ≤ s
      case neg =>
        obtain ⟨e1, e2⟩ := of_no (l := l) (s := s) (x := ⟨nk, nkey, nval, nn⟩) (by unfold ofOk; rw [decide_eq_false hs]; simp)
        rw [e1, e2]
        exact of_w2 s nk nkey nval nn w hv hn hw hr hs
      by_cases hs2 : s ≤ 2147483647
      case neg =>
        obtain ⟨e1, e2⟩ := of_no (l := l) (s := s) (x := ⟨nk, nkey, nval, nn⟩) (by unfold ofOk; rw [decide_eq_false hs2]; simp)
        rw [e1, e2]
        exact of_w3 s nk nkey nval nn w hv hn hw hr hs hs2
      have hok : ofOk l s ⟨nk, nkey, nval, nn⟩ = true := by unfold ofOk; rw [hw, hr, decide_eq_true hs, decide_eq_true hs2]; rfl
      obtain ⟨cv, ch, hcv⟩ : ∃ cv ch, hasOf (getL l nkey) = (cv, ch) := ⟨_, _, rfl⟩
      obtain ⟨dv, dh, hdv⟩ : ∃ dv dh, hasOf (stepsO (getL l nkey) [⟨nk, nkey, nval, nn⟩]) = (dv, dh) := ⟨_, _, rfl⟩
      have hc : ofC l s ⟨nk, nkey, nval, nn⟩ = ⟨s, nkey, ch, cv, dh, dv⟩ := by unfold ofC; simp only [hcv, hdv]
      cases ho : (ch || dh) with
      | false =>
        have e1 : ofE l s ⟨nk, nkey, nval, nn⟩ = 3 := by unfold ofE; rw [hok, hc]; cases ch <;> cases dh <;> first | rfl | cases ho
        have e2 : ofA l s ⟨nk, nkey, nval, nn⟩ = noC := by unfold ofA; rw [e1]; rfl
        rw [e1, e2]
        exact of_w4 s nk nkey nval nn w hv hn hw hr hs hs2 cv ch hcv dv dh hdv ho
      | true =>
        have e1 : ofE l s ⟨nk, nkey, nval, nn⟩ = 0 := by unfold ofE; rw [hok, hc]; cases ch <;> cases dh <;> first | rfl | cases ho
        have e2 : ofA l s ⟨nk, nkey, nval, nn⟩ = ⟨s, nkey, ch, cv, dh, dv⟩ := by unfold ofA; rw [e1, hc]; rfl
        rw [e1, e2]
        exact of_w5 s nk nkey nval nn w hv hn hw hr hs hs2 cv ch hcv dv dh hdv ho

end Go.Proofs.Ytgpjbajfkagdbaa
