/- The walk of awake. -/
import Derived.Test.YthhbkgeoigdjaaaWk
import Derived.Test.YthhbkgeoigdjaaaOf
import Derived.Test.YthhbkgeoigdjaaaJn
set_option linter.unusedVariables false
set_option linter.unusedSimpArgs false
namespace Go.Proofs.Ythhbkgeoigdjaaa
open Go.RowKit

def aB : ByteArray := ⟨#[97]⟩
def bB : ByteArray := ⟨#[98]⟩
def oneB : ByteArray := ⟨#[49]⟩
def twoB : ByteArray := ⟨#[50]⟩
def awP : List Pr := [⟨aB, oneB⟩]
def awQ : List Pr := [⟨aB, twoB⟩]
def awC : Ch := ⟨4, aB, true, oneB, true, twoB⟩
def awD : Ch := ⟨5, aB, true, twoB, false, noB⟩
def awJ : Ch := ⟨5, aB, true, oneB, false, noB⟩
theorem aw1 : ofA awP 4 ⟨1, aB, twoB, 0⟩ = awC ∧ ofE awP 4 ⟨1, aB, twoB, 0⟩ = 0 := by decide
theorem aw2 : walkA awP [awC] = awQ ∧ walkE awP [awC] = 0 := ⟨by kernel_rfl, by kernel_rfl⟩
theorem aw3 : walkA awQ (backL [awC]) = awP ∧ walkE awQ (backL [awC]) = 0 := ⟨by kernel_rfl, by kernel_rfl⟩
theorem aw4 : walkE awQ [awC] = 1 := by decide
theorem aw5 : ofE awP 4 ⟨2, bB, noB, 0⟩ = 3 ∧ ofA awP 4 ⟨2, bB, noB, 0⟩ = noC := by decide
theorem aw6 : ofA awQ 5 ⟨2, aB, noB, 0⟩ = awD ∧ ofE awQ 5 ⟨2, aB, noB, 0⟩ = 0 := by decide
theorem aw7 : joinA awC awD = awJ ∧ joinE awC awD = 0 := by decide

/-- The contracts at the fixed answer. -/
theorem k_of {v : Value} {l : List Pr} {s : Int} {x : Nt} {c : Ch} {e : Int} (h : ofA l s x = c ∧ ofE l s x = e) (w : World) (hv : PV w v l) (hn : l.length ≤ 100000) :
    Calls Try.prog 12 #[v, .int .i64 s, .agg x.cells.toArray] w fun e' w' => e' = .returned (.tuple #[c.v, .int .i64 e]) ∧ Below w.heap.size w w' := by
  have := of_v s x w hv hn
  rwa [h.1, h.2] at this
theorem one_keys {c : Ch} (h : c.key.size ≤ 16) : ∀ d ∈ [c], d.key.size ≤ maxLen := by
  intro d hd
  rw [List.mem_singleton] at hd
  subst hd
  unfold maxLen; omega
theorem cv_lit (w : World) (c : Ch) : CV (w.alloc (.cells (chCells c) 27)) (.slice (some ⟨w.heap.size, 0, none⟩) 1 1) [c] := CV.lit rfl (by simp [chCells, Ch.cells]) rfl
theorem PV.see1 {w : World} {v : Value} {x : Pr} (h : PV w v [x]) : ∃ (ad : Addr) (c : Nat), v = .slice (some ad) 1 c ∧ ad.block < w.heap.size ∧ w.cell? ⟨ad.block, ad.off + 1, none⟩ = some (.string x.v) := by
  obtain ⟨A, c, rfl, h1, _⟩ := h
  obtain ⟨ad, rfl, hb, hc⟩ := h1.seeP (by simp)
  have := (hc 0 (by simp)).2
  simp only [List.getElem_cons_zero, Nat.zero_mul, Addr.add_zero'] at this
  exact ⟨ad, c, rfl, hb, this⟩

set_option maxRecDepth 100000 in
set_option maxHeartbeats 8000000 in
theorem awake_true (w : World) : Calls Try.prog 11 #[] w fun e w' => e = .returned (.bool true) ∧ Below w.heap.size w w' := by
  obtain ⟨w1, hw1⟩ : ∃ q, q = w.alloc (.cells #[.string ⟨#[97]⟩, .string ⟨#[49]⟩] 54) := ⟨_, rfl⟩
  obtain ⟨g, hg⟩ : ∃ q, q = w.heap.size := ⟨_, rfl⟩
  have P1 := Lib.hid (show PV w1 (.slice (some ⟨g, 0, none⟩) 1 1) awP from by rw [hw1, hg]; exact PV.lit rfl rfl rfl)
  have HB1 := Lib.hid (show Below g w w1 from by rw [hw1, hg]; exact (Below.refl _ _).alloc (Nat.le_refl _) _)
  have HG := Lib.hid hg
  have HGS := Lib.hid (show g ≤ w1.heap.size from by rw [hw1, hg]; simp)
  go_enter Try.func11, Try.ntmps11
  go_wp2_with fail
  rw [← hg, ← hw1]
  clear hw1 hg
  refine (k_of aw1 w1 P1.out (by decide)).mono ?_
  rintro e w2 ⟨rfl, hb⟩
  have P2 := Lib.hid (P1.out.on hb)
  have HB2 := Lib.hid (HB1.out.trans (hb.mono HGS.out))
  have HS2 := Lib.hid (Nat.le_trans HGS.out hb.size)
  clear hb
  obtain ⟨w3, hw3⟩ : ∃ q, q = w2.alloc (.cells #[.int .i64 4, .string ⟨#[97]⟩, .bool true, .string ⟨#[49]⟩, .bool true, .string ⟨#[50]⟩] 27) := ⟨_, rfl⟩
  obtain ⟨gc, hgc⟩ : ∃ q, q = w2.heap.size := ⟨_, rfl⟩
  obtain ⟨w4, hw4⟩ : ∃ q, q = w3.alloc (.cells #[.int .i64 4, .string ⟨#[97]⟩, .bool true, .string ⟨#[49]⟩, .bool true, .string ⟨#[50]⟩] 27) := ⟨_, rfl⟩
  obtain ⟨gr, hgr⟩ : ∃ q, q = w3.heap.size := ⟨_, rfl⟩
  have e34 : gc + 1 = gr := by rw [hgr, hw3, hgc]; simp
  have hb24 : Below w2.heap.size w2 w4 := by rw [hw4, hw3]; exact ((Below.refl _ _).alloc (Nat.le_refl _) _).alloc (by simp) _
  have C4 := Lib.hid (show Box w4 gc 27 #[.int .i64 4, .string ⟨#[97]⟩, .bool true, .string ⟨#[49]⟩, .bool true, .string ⟨#[50]⟩] from by rw [hw4]; exact Box.push (by rw [hw3]; exact Box.at_ w2 _ _ hgc) _)
  have V4 := Lib.hid (show CV w4 (.slice (some ⟨gr, 0, none⟩) 1 1) [awC] from by rw [hw4, hgr]; exact cv_lit w3 awC)
  have P4 := Lib.hid (P2.out.on hb24)
  have HB4 := Lib.hid (HB2.out.trans (hb24.mono HS2.out))
  have HS4 := Lib.hid (Nat.le_trans HS2.out hb24.size)
  have hk := do_v P4.out V4.out (by decide) (by decide) (one_keys (by decide))
  rw [aw2.1, aw2.2] at hk
  have HK := Lib.hid hk
  clear hb24 hk
  unfold awC Ch.v chV aB oneB twoB
  go_wp2_with fail
  rw [← hw3, ← hgc, e34, ← hw4]
  clear hw3 hgc hw4 hgr e34
  refine HK.out.mono ?_
  rintro e w5 ⟨q, rfl, hq, hb⟩
  have Q5 := Lib.hid hq
  have P5 := Lib.hid (P4.out.on hb)
  have C5 := Lib.hid (C4.out.on hb)
  have HB5 := Lib.hid (HB4.out.trans (hb.mono HS4.out))
  have HS5 := Lib.hid (Nat.le_trans HS4.out hb.size)
  clear hq hb HK
  obtain ⟨w6, hw6⟩ : ∃ q, q = w5.alloc (.cells #[.int .i64 4, .string ⟨#[97]⟩, .bool true, .string ⟨#[49]⟩, .bool true, .string ⟨#[50]⟩] 27) := ⟨_, rfl⟩
  obtain ⟨g5, hg5⟩ : ∃ q, q = w5.heap.size := ⟨_, rfl⟩
  have hbx : Below w5.heap.size w5 w6 := by rw [hw6]; exact (Below.refl _ _).alloc (Nat.le_refl _) _
  have V6 := Lib.hid (show CV w6 (.slice (some ⟨g5, 0, none⟩) 1 1) [awC] from by rw [hw6, hg5]; exact cv_lit w5 awC)
  have Q6 := Lib.hid (Q5.out.on hbx)
  have P6 := Lib.hid (P5.out.on hbx)
  have C6 := Lib.hid (C5.out.on hbx)
  have HB6 := Lib.hid (HB5.out.trans (hbx.mono HS5.out))
  have HS6 := Lib.hid (Nat.le_trans HS5.out hbx.size)
  have hk := undo_v Q6.out V6.out (by decide) (by decide) (one_keys (by decide))
  rw [aw3.1, aw3.2] at hk
  have HK := Lib.hid hk
  obtain ⟨z0, z1, z2, z3, z4, z5⟩ : _ ∧ _ ∧ _ ∧ _ ∧ _ ∧ _ := let hx := C5.out; ⟨hx.cell 0 rfl, hx.cell 1 rfl, hx.cell 2 rfl, hx.cell 3 rfl, hx.cell 4 rfl, hx.cell 5 rfl⟩
  clear hbx hk
  go_wp2_with fail
  rw [← hg5, ← hw6]
  clear hw6 hg5 z0 z1 z2 z3 z4 z5
  refine HK.out.mono ?_
  rintro e w7 ⟨r, rfl, hq, hb⟩
  have Q7 := Lib.hid (Q6.out.on hb)
  have P7 := Lib.hid (P6.out.on hb)
  have C7 := Lib.hid (C6.out.on hb)
  have HB7 := Lib.hid (HB6.out.trans (hb.mono HS6.out))
  have HS7 := Lib.hid (Nat.le_trans HS6.out hb.size)
  have R7 := Lib.hid hq
  clear hq hb HK
  obtain ⟨w8, hw8⟩ : ∃ q, q = w7.alloc (.cells #[.int .i64 4, .string ⟨#[97]⟩, .bool true, .string ⟨#[49]⟩, .bool true, .string ⟨#[50]⟩] 27) := ⟨_, rfl⟩
  obtain ⟨g7, hg7⟩ : ∃ q, q = w7.heap.size := ⟨_, rfl⟩
  have hbx : Below w7.heap.size w7 w8 := by rw [hw8]; exact (Below.refl _ _).alloc (Nat.le_refl _) _
  have V8 := Lib.hid (show CV w8 (.slice (some ⟨g7, 0, none⟩) 1 1) [awC] from by rw [hw8, hg7]; exact cv_lit w7 awC)
  have Q8 := Lib.hid (Q7.out.on hbx)
  have P8 := Lib.hid (P7.out.on hbx)
  have C8 := Lib.hid (C7.out.on hbx)
  have HB8 := Lib.hid (HB7.out.trans (hbx.mono HS7.out))
  have HS8 := Lib.hid (Nat.le_trans HS7.out hbx.size)
  have R8 := Lib.hid (R7.out.on hbx)
  have hk := do_v Q8.out V8.out (by decide) (by decide) (one_keys (by decide))
  rw [aw4] at hk
  have HK := Lib.hid hk
  obtain ⟨z0, z1, z2, z3, z4, z5⟩ : _ ∧ _ ∧ _ ∧ _ ∧ _ ∧ _ := let hx := C7.out; ⟨hx.cell 0 rfl, hx.cell 1 rfl, hx.cell 2 rfl, hx.cell 3 rfl, hx.cell 4 rfl, hx.cell 5 rfl⟩
  clear hbx hk
  go_wp2_with fail
  rw [← hg7, ← hw8]
  clear hw8 hg7 z0 z1 z2 z3 z4 z5
  refine HK.out.mono ?_
  rintro e w9 ⟨x, rfl, hq, hb⟩
  have Q9 := Lib.hid (Q8.out.on hb)
  have P9 := Lib.hid (P8.out.on hb)
  have C9 := Lib.hid (C8.out.on hb)
  have HB9 := Lib.hid (HB8.out.trans (hb.mono HS8.out))
  have HS9 := Lib.hid (Nat.le_trans HS8.out hb.size)
  have R9 := Lib.hid (R8.out.on hb)
  clear hq hb HK
  go_wp2_with fail
  refine (k_of (And.intro aw5.2 aw5.1) w9 P9.out (by decide)).mono ?_
  rintro e w10 ⟨rfl, hb⟩
  obtain ⟨w11, hw11⟩ : ∃ q, q = w10.alloc (.cells #[.int .i64 0, .string ⟨#[]⟩, .bool false, .string ⟨#[]⟩, .bool false, .string ⟨#[]⟩] 27) := ⟨_, rfl⟩
  have hb11 : Below w9.heap.size w9 w11 := by rw [hw11]; exact hb.alloc hb.size _
  have Q11 := Lib.hid (Q9.out.on hb11)
  have R11 := Lib.hid (R9.out.on hb11)
  have C11 := Lib.hid (C9.out.on hb11)
  have HB11 := Lib.hid (HB9.out.trans (hb11.mono HS9.out))
  have HS11 := Lib.hid (Nat.le_trans HS9.out hb11.size)
  clear hb hb11
  unfold noC Ch.v chV noB
  go_wp2_with fail
  rw [← hw11]
  clear hw11
  refine (k_of aw6 w11 Q11.out (by decide)).mono ?_
  rintro e w12 ⟨rfl, hb⟩
  obtain ⟨w13, hw13⟩ : ∃ q, q = w12.alloc (.cells #[.int .i64 5, .string ⟨#[97]⟩, .bool true, .string ⟨#[50]⟩, .bool false, .string ⟨#[]⟩] 27) := ⟨_, rfl⟩
  obtain ⟨gd, hgd⟩ : ∃ q, q = w12.heap.size := ⟨_, rfl⟩
  have hb13 : Below w11.heap.size w11 w13 := by rw [hw13]; exact hb.alloc hb.size _
  have Q13 := Lib.hid (Q11.out.on hb13)
  have R13 := Lib.hid (R11.out.on hb13)
  have C13 := Lib.hid (C11.out.on hb13)
  have D13 := Lib.hid (show Box w13 gd 27 #[.int .i64 5, .string ⟨#[97]⟩, .bool true, .string ⟨#[50]⟩, .bool false, .string ⟨#[]⟩] from by rw [hw13]; exact Box.at_ w12 _ _ hgd)
  have HB13 := Lib.hid (HB11.out.trans (hb13.mono HS11.out))
  have HS13 := Lib.hid (Nat.le_trans HS11.out hb13.size)
  have hk := join_any awC awD w13
  rw [aw7.1, aw7.2] at hk
  have HK := Lib.hid hk
  have y := C13.out
  rw [hw13] at y
  obtain ⟨z0, z1, z2, z3, z4, z5⟩ : _ ∧ _ ∧ _ ∧ _ ∧ _ ∧ _ := ⟨y.cell 0 rfl, y.cell 1 rfl, y.cell 2 rfl, y.cell 3 rfl, y.cell 4 rfl, y.cell 5 rfl⟩
  clear hb hb13 hk y
  unfold awD Ch.v chV aB twoB noB
  go_wp2_with fail
  rw [← hgd, ← hw13]
  clear hw13 hgd z0 z1 z2 z3 z4 z5
  refine HK.out.mono ?_
  rintro e w14 ⟨rfl, hb⟩
  obtain ⟨w15, hw15⟩ : ∃ q, q = w14.alloc (.cells #[.int .i64 5, .string ⟨#[97]⟩, .bool true, .string ⟨#[49]⟩, .bool false, .string ⟨#[]⟩] 27) := ⟨_, rfl⟩
  obtain ⟨gj, hgj⟩ : ∃ q, q = w14.heap.size := ⟨_, rfl⟩
  have hb15 : Below w13.heap.size w13 w15 := by rw [hw15]; exact hb.alloc hb.size _
  have C15 := Lib.hid (C13.out.on hb15)
  have J15 := Lib.hid (show Box w15 gj 27 #[.int .i64 5, .string ⟨#[97]⟩, .bool true, .string ⟨#[49]⟩, .bool false, .string ⟨#[]⟩] from by rw [hw15]; exact Box.at_ w14 _ _ hgj)
  have HB15 := Lib.hid (HB13.out.trans (hb15.mono HS13.out))
  obtain ⟨aq, cq, rfl, _, q1⟩ := (Q13.out.on hb15).see1
  obtain ⟨ar, cr, rfl, _, r1⟩ := (R13.out.on hb15).see1
  have HQ1 := Lib.hid q1
  have HR1 := Lib.hid r1
  clear hb hb15 q1 r1 HK
  unfold awJ Ch.v chV aB oneB noB
  go_upto_region 9 with fail
  rw [← hgj, ← hw15]
  clear hw15 hgj
  obtain ⟨z0, z1, z2, z3, z4, z5⟩ : _ ∧ _ ∧ _ ∧ _ ∧ _ ∧ _ := let hx := C15.out; ⟨hx.cell 0 rfl, hx.cell 1 rfl, hx.cell 2 rfl, hx.cell 3 rfl, hx.cell 4 rfl, hx.cell 5 rfl⟩
  obtain ⟨x0, x1, x2, x3, x4, x5⟩ : _ ∧ _ ∧ _ ∧ _ ∧ _ ∧ _ := let hx := J15.out; ⟨hx.cell 0 rfl, hx.cell 1 rfl, hx.cell 2 rfl, hx.cell 3 rfl, hx.cell 4 rfl, hx.cell 5 rfl⟩
  have q1 := HQ1.out
  have r1 := HR1.out
  unfold twoB at q1
  unfold oneB at r1
  go_wp2
  go_ret
  exact ⟨by simp, by rw [← HG.out]; exact HB15.out⟩

end Go.Proofs.Ythhbkgeoigdjaaa
