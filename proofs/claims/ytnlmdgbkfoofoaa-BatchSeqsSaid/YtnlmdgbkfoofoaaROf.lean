/- The walk of the document's Of. -/
import Derived.Test.YtnlmdgbkfoofoaaOf
import Derived.Test.YtnlmdgbkfoofoaaRLeaf
import Derived.Test.YtnlmdgbkfoofoaaRNote
import Derived.Test.YtnlmdgbkfoofoaaPh
set_option linter.unusedVariables false
set_option linter.unusedSimpArgs false
namespace Go.Proofs.Ytnlmdgbkfoofoaa
open Go.RowKit

theorem found_get {l : List Pr} (hs : Sorted l) {key : ByteArray} {z : Int} (h : FoundAt l key z) : (z = -1 ∧ getL l key = none) ∨ ∃ i : Nat, z = i ∧ ∃ h : i < l.length, getL l key = some l[i].v := by
  rcases h with ⟨h1, h2⟩ | ⟨i, h1, h2, h3⟩
  · exact .inl ⟨h1, getL_none h2⟩
  · refine .inr ⟨i, h1, h2, ?_⟩
    rw [← h3]; exact getL_mem hs i h2

def RoV (nk : Int) (nkey nval : ByteArray) (xn : Int) (A : Option Addr) (nl cap : Nat) (W R : Bool) (p t : Nat) (v : Value) (w : World) : Prop :=
  match t with
  | 12 => v = .slice A nl cap
  | 13 => v = .bool W
  | 14 => v = .agg #[.int .i64 nk, .string nkey, .string nval, .int .u64 xn]
  | 15 => v = .bool R
  | 8 => v = .bool W
  | 9 => v = .bool R
  | _ => True
theorem RoV.on {nk : Int} {nkey nval : ByteArray} {xn : Int} {A : Option Addr} {nl cap : Nat} {W R : Bool} {p t : Nat} {v : Value} {w w' : World} (h : RoV nk nkey nval xn A nl cap W R p t v w) (hb : Below w.heap.size w w') : RoV nk nkey nval xn A nl cap W R p t v w' := by
  unfold RoV at *
  split at h <;> first | exact h

set_option maxRecDepth 100000 in
set_option maxHeartbeats 4000000 in
theorem rof_any {v : Value} {l : List Pr} (s : Int) (x : Nt) (w : World) (hv : PV w v l) (hn : l.length ≤ 100000) :
    Calls Try.prog 28 #[v, .int .i64 s, .agg x.cells.toArray] w fun e w' => e = .returned (.tuple #[(ofA l s x).v, .int .i64 (ofE l s x)]) ∧ Below w.heap.size w w' := by
  obtain ⟨nk, nkey, nval, nn⟩ := x
  have hrn := fun w => dright_any nk nkey nval nn w
  obtain ⟨AA, hAA⟩ : ∃ q, ofA l s ⟨nk, nkey, nval, nn⟩ = q := ⟨_, rfl⟩
  obtain ⟨EE, hEE⟩ : ∃ q, ofE l s ⟨nk, nkey, nval, nn⟩ = q := ⟨_, rfl⟩
  obtain ⟨xn, hxn⟩ : ∃ xn : Int, ((nn.toNat : Nat) : Int) = xn := ⟨_, rfl⟩
  obtain ⟨W, hW⟩ : ∃ W, wellL l = W := ⟨_, rfl⟩
  obtain ⟨R, hR⟩ : ∃ R, rightN ⟨nk, nkey, nval, nn⟩ = R := ⟨_, rfl⟩
  show Calls _ _ #[v, .int .i64 s, .agg #[.int .i64 nk, .string nkey, .string nval, .int .u64 ((nn.toNat : Nat) : Int)]] _ _
  rw [hxn, hR] at hrn
  rw [hxn, hAA, hEE]
  obtain ⟨A, nl, cap, rfl, hnl⟩ : ∃ A n c, v = .slice A n c ∧ l.length = n := by obtain ⟨A, c, e, _⟩ := hv; exact ⟨A, _, c, e, rfl⟩
  have hrc : ∀ w', Below w.heap.size w w' → Calls Try.prog 27 #[.slice A nl cap] w' fun e w3 => e = .returned (.bool W) ∧ Below w'.heap.size w' w3 := fun w' hb => by
    obtain ⟨A0, c0, e0, hp0, _⟩ := hv.on hb
    injection e0 with e1 e2 e3
    have := dright_pr A0 c0 l w' hp0 (by unfold maxLen; omega)
    rw [hW] at this
    rw [e1, e2, e3]; exact this
  have hfc : ∀ w', Below w.heap.size w w' → Calls Try.prog 43 #[.slice A nl cap, .string nkey] w' fun e w3 => ∃ z, e = .returned (.int .i64 z) ∧ FoundAt l nkey z ∧ Below w'.heap.size w' w3 := fun w' hb => by
    obtain ⟨A0, c0, e0, hp0, _⟩ := hv.on hb
    injection e0 with e1 e2 e3
    have := dfind_any A0 c0 l nkey w' hp0 (by unfold maxLen; omega)
    rw [e1, e2, e3]; exact this
  obtain ⟨w1, hw1⟩ : ∃ q, q = w.alloc (.cells #[.int .i64 nk, .string nkey, .string nval, .int .u64 xn] 58) := ⟨_, rfl⟩
  obtain ⟨w2, hw2⟩ : ∃ q, q = w1.alloc (.cells #[.int .i64 0, .string ⟨#[]⟩, .bool false, .string ⟨#[]⟩, .bool false, .string ⟨#[]⟩] 49) := ⟨_, rfl⟩
  obtain ⟨g, hg⟩ : ∃ q, q = w.heap.size := ⟨_, rfl⟩
  have e1 : w1.heap.size = g + 1 := by rw [hw1, hg]; simp
  have hb2 : Below g w w2 := by rw [hw2, hw1, hg]; exact ((Below.refl _ _).alloc (Nat.le_refl _) _).alloc (by simp) _
  have hbn : Box w2 g 58 #[.int .i64 nk, .string nkey, .string nval, .int .u64 xn] := by rw [hw2]; exact Box.push (by rw [hw1]; exact Box.at_ w _ _ hg) _
  have hbq : Box w2 (g + 1) 49 #[.int .i64 0, .string ⟨#[]⟩, .bool false, .string ⟨#[]⟩, .bool false, .string ⟨#[]⟩] := by rw [hw2]; exact Box.at_ w1 _ _ e1.symm
  have hg2 : g ≤ w2.heap.size := by have := hb2.size; have := Box.lt hbn; omega
  have HG := Lib.hid hg
  have HRN := Lib.hid hrn
  have HR := Lib.hid (fun (w' : World) (hb : Below w2.heap.size w2 w') => hrc w' (by rw [← hg]; exact hb2.trans (hb.mono hg2)))
  have HFC := Lib.hid hfc
  have HVV := Lib.hid hv
  have HX := Lib.hid (show ∀ wx, Below w2.heap.size w2 wx → _ ∧ _ ∧ _ ∧ _ from fun wx hh => let hx := hbn.on hh; ⟨hx.cell 0 rfl, hx.cell 1 rfl, hx.cell 2 rfl, hx.cell 3 rfl⟩)
  have FIN := Lib.hid (show ∀ w', Below w2.heap.size w2 w' → Box w' g 58 #[.int .i64 nk, .string nkey, .string nval, .int .u64 xn] ∧ Box w' (g + 1) 49 #[.int .i64 0, .string ⟨#[]⟩, .bool false, .string ⟨#[]⟩, .bool false, .string ⟨#[]⟩] ∧ Below g w w' from fun w' hb => ⟨hbn.on hb, hbq.on hb, hb2.trans (hb.mono hg2)⟩)
  have HAA := Lib.hid hAA
  have HEE := Lib.hid hEE
  have HW := Lib.hid hW
  have HRR := Lib.hid hR
  have HNL := Lib.hid hnl
  have HN := Lib.hid hn
  have HXN := Lib.hid hxn
  have HNO := Lib.hid (show ofOk l s ⟨nk, nkey, nval, nn⟩ = false → AA = noC ∧ EE = 1 from fun h => by rw [← hAA, ← hEE]; exact ⟨(of_no h).2, (of_no h).1⟩)
  clear hb2 hbn hbq hrn hv hrc hfc hAA hEE hW hR hnl hn hxn hg2
  go_enter Try.func28, Try.ntmps28
  go_upto_region 1 with fail
  rw [← hg, ← hw1, ← hw2]
  clear hw1 hw2 e1 hg
  refine wp_region_phase 14 [12, 13, 14, 15, 8, 9] (by kernel_rfl) [] [] (fun _ _ => True) 0 rfl (by kernel_rfl) ((fun _ wx => Below w2.heap.size w2 wx)) (fun wa wb => Below wa.heap.size wa wb) (RoV nk nkey nval xn A nl cap W R) (by kernel_rfl) (fun _ wa wb h1 h2 => h2.trans (h1.mono h2.size)) (fun _ t v wa wb h1 h2 => h2.on h1) (fun _ _ _ _ _ _ _ => trivial) (Below.refl _ _).drew trivial (phase0 ?_) ?_
  · refine Steps1.cons (fun _ ax wx hS _ hG => ?_) (Steps1.cons (fun _ ax wx hS _ hG => ?_) (Steps1.cons (fun _ ax wx hS _ hG => ?_) (Steps1.cons (fun _ ax wx hS _ hG => ?_) (Steps1.cons (fun _ ax wx hS _ hG => ?_) (Steps1.cons (fun _ ax wx hS _ hG => ?_) Steps1.nil)))))
    · have q0 := hG.old 0 (by kernel_rfl) (by kernel_rfl)
      refine step_slot rfl rfl rfl (step_value (v := .slice A nl cap) (w' := wx) rfl rfl ?_ (Below.refl _ _) (fun d hd => by cases hd; exact rfl))
      go_simp
    · obtain ⟨_, q12, rfl⟩ := hG.new 12 (by kernel_rfl) (by kernel_rfl)
      refine step_slot rfl rfl rfl (step_call (w1 := wx) (f := 27) (args := #[.slice A nl cap]) rfl rfl ?_ ((HR.out wx hS).mono ?_))
      · skip
        go_simp
      · rintro e w' ⟨rfl, hq⟩
        exact ⟨_, rfl, hq, fun d hd => by cases hd; exact rfl⟩
    · have q5 := hG.old 5 (by kernel_rfl) (by kernel_rfl)
      obtain ⟨z0, z1, z2, z3⟩ := HX.out wx hS
      refine step_slot rfl rfl rfl (step_value (v := .agg #[.int .i64 nk, .string nkey, .string nval, .int .u64 xn]) (w' := wx) rfl rfl ?_ (Below.refl _ _) (fun d hd => by cases hd; exact rfl))
      go_simp
    · obtain ⟨_, q14, rfl⟩ := hG.new 14 (by kernel_rfl) (by kernel_rfl)
      refine step_slot rfl rfl rfl (step_call (w1 := wx) (f := 31) (args := #[.agg #[.int .i64 nk, .string nkey, .string nval, .int .u64 xn]]) rfl rfl ?_ ((HRN.out wx).mono ?_))
      · skip
        go_simp
      · rintro e w' ⟨rfl, hq⟩
        exact ⟨_, rfl, hq, fun d hd => by cases hd; exact rfl⟩
    · obtain ⟨_, q13, rfl⟩ := hG.new 13 (by kernel_rfl) (by kernel_rfl)
      refine step_slot rfl rfl rfl (step_value (v := .bool W) (w' := wx) rfl rfl ?_ (Below.refl _ _) (fun d hd => by cases hd; exact rfl))
      go_simp
    · obtain ⟨_, q15, rfl⟩ := hG.new 15 (by kernel_rfl) (by kernel_rfl)
      refine step_slot rfl rfl rfl (step_value (v := .bool R) (w' := wx) rfl rfl ?_ (Below.refl _ _) (fun d hd => by cases hd; exact rfl))
      go_simp
  intro fv w3 hb3 _ hV8
  have e8 : fv 8 = .bool W := hV8 8 (by decide)
  have e9 : fv 9 = .bool R := hV8 9 (by decide)
  simp only [puts, Act.put, List.setIfInBounds_toArray, List.set_cons_succ, List.set_cons_zero]
  clear hV8
  rw [e8, e9]
  obtain ⟨x1, x2, x3⟩ := FIN.out _ hb3
  have HB3 := Lib.hid hb3
  clear hb3
  cases W with
  | false =>
    have HF := Lib.hid (HNO.out (by unfold ofOk; rw [HW.out]; rfl))
    obtain ⟨f0, f1, f2, f3, f4, f5⟩ := (⟨x2.free 0, x2.free 1, x2.free 2, x2.free 3, x2.free 4, x2.free 5⟩ : _ ∧ _ ∧ _ ∧ _ ∧ _ ∧ _)
    obtain ⟨m0, m1, m2, m3, m4, m5⟩ := (⟨x2.cell 0 rfl, x2.cell 1 rfl, x2.cell 2 rfl, x2.cell 3 rfl, x2.cell 4 rfl, x2.cell 5 rfl⟩ : _ ∧ _ ∧ _ ∧ _ ∧ _ ∧ _)
    obtain ⟨wz, hz⟩ : ∃ wz, wz = ((((((w3.setCell ⟨g + 1, 0, none⟩ (.int .i64 0)).setCell ⟨g + 1, 1, none⟩ (.string ⟨#[]⟩)).setCell ⟨g + 1, 2, none⟩ (.bool false)).setCell ⟨g + 1, 3, none⟩ (.string ⟨#[]⟩)).setCell ⟨g + 1, 4, none⟩ (.bool false)).setCell ⟨g + 1, 5, none⟩ (.string ⟨#[]⟩)) := ⟨_, rfl⟩
    have hqz : Box wz (g + 1) 49 #[.int .i64 0, .string ⟨#[]⟩, .bool false, .string ⟨#[]⟩, .bool false, .string ⟨#[]⟩] := by rw [hz]; exact ((((((Box.set x2 0 _).set 1 _).set 2 _).set 3 _).set 4 _).set 5 _)
    have hbz : Below g w wz := by rw [hz]; exact ((((((x3.setCell (p := ⟨g + 1, 0, none⟩) (by simp) _).setCell (p := ⟨g + 1, 1, none⟩) (by simp) _).setCell (p := ⟨g + 1, 2, none⟩) (by simp) _).setCell (p := ⟨g + 1, 3, none⟩) (by simp) _).setCell (p := ⟨g + 1, 4, none⟩) (by simp) _).setCell (p := ⟨g + 1, 5, none⟩) (by simp) _)
    obtain ⟨p0, p1, p2, p3, p4, p5⟩ : _ ∧ _ ∧ _ ∧ _ ∧ _ ∧ _ := ⟨hqz.cell 0 rfl, hqz.cell 1 rfl, hqz.cell 2 rfl, hqz.cell 3 rfl, hqz.cell 4 rfl, hqz.cell 5 rfl⟩
    have HBZ := Lib.hid (show Below w.heap.size w wz from by rw [← HG.out]; exact hbz)
    clear x1 x2 x3 hqz hbz
    go_wp2
    rw [← hz]
    exact bodyPost_ret (v := .tuple #[.agg #[.int .i64 0, .string ⟨#[]⟩, .bool false, .string ⟨#[]⟩, .bool false, .string ⟨#[]⟩], .int .i64 1]) (by simp [results, Try.results28, go_sem, p0, p1, p2, p3, p4, p5]) rfl ⟨by rw [HF.out.1, HF.out.2]; rfl, HBZ.out⟩
  | true =>
    cases R with
    | false =>
      have HF := Lib.hid (HNO.out (by unfold ofOk; rw [HW.out, HRR.out]; rfl))
      obtain ⟨f0, f1, f2, f3, f4, f5⟩ := (⟨x2.free 0, x2.free 1, x2.free 2, x2.free 3, x2.free 4, x2.free 5⟩ : _ ∧ _ ∧ _ ∧ _ ∧ _ ∧ _)
      obtain ⟨m0, m1, m2, m3, m4, m5⟩ := (⟨x2.cell 0 rfl, x2.cell 1 rfl, x2.cell 2 rfl, x2.cell 3 rfl, x2.cell 4 rfl, x2.cell 5 rfl⟩ : _ ∧ _ ∧ _ ∧ _ ∧ _ ∧ _)
      obtain ⟨wz, hz⟩ : ∃ wz, wz = ((((((w3.setCell ⟨g + 1, 0, none⟩ (.int .i64 0)).setCell ⟨g + 1, 1, none⟩ (.string ⟨#[]⟩)).setCell ⟨g + 1, 2, none⟩ (.bool false)).setCell ⟨g + 1, 3, none⟩ (.string ⟨#[]⟩)).setCell ⟨g + 1, 4, none⟩ (.bool false)).setCell ⟨g + 1, 5, none⟩ (.string ⟨#[]⟩)) := ⟨_, rfl⟩
      have hqz : Box wz (g + 1) 49 #[.int .i64 0, .string ⟨#[]⟩, .bool false, .string ⟨#[]⟩, .bool false, .string ⟨#[]⟩] := by rw [hz]; exact ((((((Box.set x2 0 _).set 1 _).set 2 _).set 3 _).set 4 _).set 5 _)
      have hbz : Below g w wz := by rw [hz]; exact ((((((x3.setCell (p := ⟨g + 1, 0, none⟩) (by simp) _).setCell (p := ⟨g + 1, 1, none⟩) (by simp) _).setCell (p := ⟨g + 1, 2, none⟩) (by simp) _).setCell (p := ⟨g + 1, 3, none⟩) (by simp) _).setCell (p := ⟨g + 1, 4, none⟩) (by simp) _).setCell (p := ⟨g + 1, 5, none⟩) (by simp) _)
      obtain ⟨p0, p1, p2, p3, p4, p5⟩ : _ ∧ _ ∧ _ ∧ _ ∧ _ ∧ _ := ⟨hqz.cell 0 rfl, hqz.cell 1 rfl, hqz.cell 2 rfl, hqz.cell 3 rfl, hqz.cell 4 rfl, hqz.cell 5 rfl⟩
      have HBZ := Lib.hid (show Below w.heap.size w wz from by rw [← HG.out]; exact hbz)
      clear x1 x2 x3 hqz hbz
      go_wp2
      rw [← hz]
      exact bodyPost_ret (v := .tuple #[.agg #[.int .i64 0, .string ⟨#[]⟩, .bool false, .string ⟨#[]⟩, .bool false, .string ⟨#[]⟩], .int .i64 1]) (by simp [results, Try.results28, go_sem, p0, p1, p2, p3, p4, p5]) rfl ⟨by rw [HF.out.1, HF.out.2]; rfl, HBZ.out⟩
    | true =>
      by_cases hs : 1 ≤ s
      case neg =>
        have HF := Lib.hid (HNO.out (by unfold ofOk; rw [decide_eq_false hs]; simp))
        have hd1 : decide (s < 1) = true := by simp; omega
        clear hs
        obtain ⟨f0, f1, f2, f3, f4, f5⟩ := (⟨x2.free 0, x2.free 1, x2.free 2, x2.free 3, x2.free 4, x2.free 5⟩ : _ ∧ _ ∧ _ ∧ _ ∧ _ ∧ _)
        obtain ⟨m0, m1, m2, m3, m4, m5⟩ := (⟨x2.cell 0 rfl, x2.cell 1 rfl, x2.cell 2 rfl, x2.cell 3 rfl, x2.cell 4 rfl, x2.cell 5 rfl⟩ : _ ∧ _ ∧ _ ∧ _ ∧ _ ∧ _)
        obtain ⟨wz, hz⟩ : ∃ wz, wz = ((((((w3.setCell ⟨g + 1, 0, none⟩ (.int .i64 0)).setCell ⟨g + 1, 1, none⟩ (.string ⟨#[]⟩)).setCell ⟨g + 1, 2, none⟩ (.bool false)).setCell ⟨g + 1, 3, none⟩ (.string ⟨#[]⟩)).setCell ⟨g + 1, 4, none⟩ (.bool false)).setCell ⟨g + 1, 5, none⟩ (.string ⟨#[]⟩)) := ⟨_, rfl⟩
        have hqz : Box wz (g + 1) 49 #[.int .i64 0, .string ⟨#[]⟩, .bool false, .string ⟨#[]⟩, .bool false, .string ⟨#[]⟩] := by rw [hz]; exact ((((((Box.set x2 0 _).set 1 _).set 2 _).set 3 _).set 4 _).set 5 _)
        have hbz : Below g w wz := by rw [hz]; exact ((((((x3.setCell (p := ⟨g + 1, 0, none⟩) (by simp) _).setCell (p := ⟨g + 1, 1, none⟩) (by simp) _).setCell (p := ⟨g + 1, 2, none⟩) (by simp) _).setCell (p := ⟨g + 1, 3, none⟩) (by simp) _).setCell (p := ⟨g + 1, 4, none⟩) (by simp) _).setCell (p := ⟨g + 1, 5, none⟩) (by simp) _)
        obtain ⟨p0, p1, p2, p3, p4, p5⟩ : _ ∧ _ ∧ _ ∧ _ ∧ _ ∧ _ := ⟨hqz.cell 0 rfl, hqz.cell 1 rfl, hqz.cell 2 rfl, hqz.cell 3 rfl, hqz.cell 4 rfl, hqz.cell 5 rfl⟩
        have HBZ := Lib.hid (show Below w.heap.size w wz from by rw [← HG.out]; exact hbz)
        clear x1 x2 x3 hqz hbz
        go_wp2
        rw [← hz]
        exact bodyPost_ret (v := .tuple #[.agg #[.int .i64 0, .string ⟨#[]⟩, .bool false, .string ⟨#[]⟩, .bool false, .string ⟨#[]⟩], .int .i64 1]) (by simp [results, Try.results28, go_sem, p0, p1, p2, p3, p4, p5]) rfl ⟨by rw [HF.out.1, HF.out.2]; rfl, HBZ.out⟩
      have hd1 : decide (s < 1) = false := by simp; omega
      by_cases hs2 : s ≤ 2147483647
      case neg =>
        have HF := Lib.hid (HNO.out (by unfold ofOk; rw [decide_eq_false hs2]; simp))
        have hd2 : decide (2147483647 < s) = true := by simp; omega
        clear hs hs2
        obtain ⟨f0, f1, f2, f3, f4, f5⟩ := (⟨x2.free 0, x2.free 1, x2.free 2, x2.free 3, x2.free 4, x2.free 5⟩ : _ ∧ _ ∧ _ ∧ _ ∧ _ ∧ _)
        obtain ⟨m0, m1, m2, m3, m4, m5⟩ := (⟨x2.cell 0 rfl, x2.cell 1 rfl, x2.cell 2 rfl, x2.cell 3 rfl, x2.cell 4 rfl, x2.cell 5 rfl⟩ : _ ∧ _ ∧ _ ∧ _ ∧ _ ∧ _)
        obtain ⟨wz, hz⟩ : ∃ wz, wz = ((((((w3.setCell ⟨g + 1, 0, none⟩ (.int .i64 0)).setCell ⟨g + 1, 1, none⟩ (.string ⟨#[]⟩)).setCell ⟨g + 1, 2, none⟩ (.bool false)).setCell ⟨g + 1, 3, none⟩ (.string ⟨#[]⟩)).setCell ⟨g + 1, 4, none⟩ (.bool false)).setCell ⟨g + 1, 5, none⟩ (.string ⟨#[]⟩)) := ⟨_, rfl⟩
        have hqz : Box wz (g + 1) 49 #[.int .i64 0, .string ⟨#[]⟩, .bool false, .string ⟨#[]⟩, .bool false, .string ⟨#[]⟩] := by rw [hz]; exact ((((((Box.set x2 0 _).set 1 _).set 2 _).set 3 _).set 4 _).set 5 _)
        have hbz : Below g w wz := by rw [hz]; exact ((((((x3.setCell (p := ⟨g + 1, 0, none⟩) (by simp) _).setCell (p := ⟨g + 1, 1, none⟩) (by simp) _).setCell (p := ⟨g + 1, 2, none⟩) (by simp) _).setCell (p := ⟨g + 1, 3, none⟩) (by simp) _).setCell (p := ⟨g + 1, 4, none⟩) (by simp) _).setCell (p := ⟨g + 1, 5, none⟩) (by simp) _)
        obtain ⟨p0, p1, p2, p3, p4, p5⟩ : _ ∧ _ ∧ _ ∧ _ ∧ _ ∧ _ := ⟨hqz.cell 0 rfl, hqz.cell 1 rfl, hqz.cell 2 rfl, hqz.cell 3 rfl, hqz.cell 4 rfl, hqz.cell 5 rfl⟩
        have HBZ := Lib.hid (show Below w.heap.size w wz from by rw [← HG.out]; exact hbz)
        clear x1 x2 x3 hqz hbz
        go_wp2
        rw [← hz]
        exact bodyPost_ret (v := .tuple #[.agg #[.int .i64 0, .string ⟨#[]⟩, .bool false, .string ⟨#[]⟩, .bool false, .string ⟨#[]⟩], .int .i64 1]) (by simp [results, Try.results28, go_sem, p0, p1, p2, p3, p4, p5]) rfl ⟨by rw [HF.out.1, HF.out.2]; rfl, HBZ.out⟩
      have hd2 : decide (2147483647 < s) = false := by simp; omega
      have hok : ofOk l s ⟨nk, nkey, nval, nn⟩ = true := by unfold ofOk; rw [HW.out, HRR.out, decide_eq_true hs, decide_eq_true hs2]; rfl
      obtain ⟨cv, ch, hcv⟩ : ∃ cv ch, hasOf (getL l nkey) = (cv, ch) := ⟨_, _, rfl⟩
      obtain ⟨dv, dh, hdv⟩ : ∃ dv dh, hasOf (stepsO (getL l nkey) [⟨nk, nkey, nval, nn⟩]) = (dv, dh) := ⟨_, _, rfl⟩
      have hc : ofC l s ⟨nk, nkey, nval, nn⟩ = ⟨s, nkey, ch, cv, dh, dv⟩ := by unfold ofC; simp only [hcv, hdv]
      have hdn : doneL cv ch [⟨nk, nkey, nval, nn⟩] = (dv, dh) := by rw [← hdv, ← done_hasOf, hcv]
      have HDN := Lib.hid hdn
      have HCV := Lib.hid hcv
      have HEND := Lib.hid (show ((ch || dh) = false → AA = noC ∧ EE = 3) ∧ ((ch || dh) = true → AA = ⟨s, nkey, ch, cv, dh, dv⟩ ∧ EE = 0) from by
        constructor
        · intro ho
          have e1 : ofE l s ⟨nk, nkey, nval, nn⟩ = 3 := by unfold ofE; rw [hok, hc]; cases ch <;> cases dh <;> first | rfl | cases ho
          exact ⟨by rw [← HAA.out]; unfold ofA; rw [e1]; rfl, by rw [← HEE.out, e1]⟩
        · intro ho
          have e1 : ofE l s ⟨nk, nkey, nval, nn⟩ = 0 := by unfold ofE; rw [hok, hc]; cases ch <;> cases dh <;> first | rfl | cases ho
          exact ⟨by rw [← HAA.out]; unfold ofA; rw [e1, hc]; rfl, by rw [← HEE.out, e1]⟩)
      clear hs hs2 hok hcv hdv hc hdn
      have HX3 := Lib.hid x3
      have HX2 := Lib.hid x2
      have HX1 := Lib.hid x1
      obtain ⟨BC, hBC⟩ : ∃ q, q = w3.heap.size := ⟨_, rfl⟩
      obtain ⟨w4, hw4⟩ : ∃ q, q = w3.alloc (.cells #[.int .i64 s, .string nkey, .bool false, .string ⟨#[]⟩, .bool false, .string ⟨#[]⟩] 49) := ⟨_, rfl⟩
      have hb34 : Below w3.heap.size w3 w4 := by rw [hw4]; exact (Below.refl _ _).alloc (Nat.le_refl _) _
      have hgB : g + 1 < BC := by rw [hBC]; exact Box.lt x2
      have HC4 := Lib.hid (show Box w4 BC 49 #[.int .i64 s, .string nkey, .bool false, .string ⟨#[]⟩, .bool false, .string ⟨#[]⟩] from by rw [hw4]; exact Box.at_ w3 _ _ hBC)
      have HN4 := Lib.hid (x1.on hb34)
      have HQ4 := Lib.hid (x2.on hb34)
      have HB4 := Lib.hid (x3.trans (hb34.mono (by omega)))
      have HGB := Lib.hid hgB
      obtain ⟨n0, n1, n2, n3⟩ : _ ∧ _ ∧ _ ∧ _ := ⟨x1.cell 0 rfl, x1.cell 1 rfl, x1.cell 2 rfl, x1.cell 3 rfl⟩
      clear x1 x2 x3 hb34 hgB
      go_upto_region 5 with fail
      rw [← hBC, ← hw4]
      clear hBC hw4 n0 n1 n2 n3
      have n1 := HN4.out.cell 1 rfl
      go_wp2_with fail
      refine (HFC.out _ (by rw [← HG.out]; exact HB4.out)).mono ?_
      rintro e w5 ⟨z, rfl, hf, hb⟩
      have HC5 := Lib.hid (HC4.out.on hb)
      have HN5 := Lib.hid (HN4.out.on hb)
      have HQ5 := Lib.hid (HQ4.out.on hb)
      have HB5 := Lib.hid (HB4.out.trans (hb.mono (by have := HN4.out.lt; omega)))
      clear hb n1
      rcases found_get (well_sorted HW.out) hf with ⟨rfl, hgn⟩ | ⟨i, rfl, hi, hgs⟩
      · obtain ⟨rfl, rfl⟩ : noB = cv ∧ false = ch := by have h := HCV.out; rw [hgn] at h; injection h with h1 h2; exact ⟨h1, h2⟩
        have HC7 := HC5
        have HN7 := HN5
        have HQ7 := HQ5
        have HB7 := HB5
        clear HC5 HN5 HQ5 HB5 hgn hf
        unfold noB at *
        have hbl : Below w5.heap.size w5 (w5.alloc (.cells #[.int .i64 nk, .string nkey, .string nval, .int .u64 xn] 58)) := (Below.refl _ _).alloc (Nat.le_refl _) _
        have hdc := ddone_any ⟨#[]⟩ false (some ⟨w5.heap.size, 0, none⟩) 1 [⟨nk, nkey, nval, nn⟩] (w5.alloc (.cells #[.int .i64 nk, .string nkey, .string nval, .int .u64 xn] 58)) (by
          have h := Lies.lit (cs := Nt.cells) (k := 4) (w := w5) (t := 58) (C := #[.int .i64 nk, .string nkey, .string nval, .int .u64 xn]) (l := [(⟨nk, nkey, nval, nn⟩ : Nt)]) (fun _ => rfl) (by simp [Nt.cells, HXN.out])
          simpa using h) (by unfold maxLen; simp)
        rw [HDN.out] at hdc
        simp only [List.length_cons, List.length_nil, Nat.zero_add] at hdc
        have HDC := Lib.hid hdc
        have HCL := Lib.hid (HC7.out.on hbl)
        have HQL := Lib.hid (HQ7.out.on hbl)
        have HBL := Lib.hid (HB7.out.trans (hbl.mono (by have := HN7.out.lt; omega)))
        obtain ⟨n0, n1, n2, n3⟩ : _ ∧ _ ∧ _ ∧ _ := ⟨HN7.out.cell 0 rfl, HN7.out.cell 1 rfl, HN7.out.cell 2 rfl, HN7.out.cell 3 rfl⟩
        obtain ⟨c2, c3⟩ : _ ∧ _ := ⟨HC7.out.cell 2 rfl, HC7.out.cell 3 rfl⟩
        clear hbl hdc
        go_wp2_with fail
        refine HDC.out.mono ?_
        rintro e w8 ⟨rfl, hb⟩
        have x := HCL.out.on hb
        have hq8 := HQL.out.on hb
        have hb8 := HBL.out.trans (hb.mono (by have := HQL.out.lt; omega))
        have f4 := x.free 4
        have f5 := x.free 5
        have k4 := x.cell 4 rfl
        have k5 := x.cell 5 rfl
        clear n0 n1 n2 n3 c2 c3 hb
        go_upto_region 10 with fail
        obtain ⟨w9, hw9⟩ : ∃ q, q = (w8.setCell ⟨BC, 5, none⟩ (.string dv)).setCell ⟨BC, 4, none⟩ (.bool dh) := ⟨_, rfl⟩
        rw [← hw9]
        have hc9 : Box w9 BC 49 #[.int .i64 s, .string nkey, .bool false, .string ⟨#[]⟩, .bool dh, .string dv] := by rw [hw9]; exact (Box.set x 5 _).set 4 _
        have x2 : Box w9 (g + 1) 49 #[.int .i64 0, .string ⟨#[]⟩, .bool false, .string ⟨#[]⟩, .bool false, .string ⟨#[]⟩] := by rw [hw9]; exact (hq8.away (by have := HGB.out; simp; omega) _).away (by have := HGB.out; simp; omega) _
        have x3 : Below g w w9 := by rw [hw9]; exact (hb8.setCell (p := ⟨BC, 5, none⟩) (by have := HGB.out; simp; omega) _).setCell (p := ⟨BC, 4, none⟩) (by have := HGB.out; simp; omega) _
        obtain ⟨c0, c1, c2, c3, c4, c5⟩ : _ ∧ _ ∧ _ ∧ _ ∧ _ ∧ _ := ⟨hc9.cell 0 rfl, hc9.cell 1 rfl, hc9.cell 2 rfl, hc9.cell 3 rfl, hc9.cell 4 rfl, hc9.cell 5 rfl⟩
        have x1 := hc9
        clear x hq8 hb8 hw9 f4 f5 k4 k5
        cases dh with
        | false =>
          have HF := Lib.hid (HEND.out.1 rfl)
          obtain ⟨f0, f1, f2, f3, f4, f5⟩ := (⟨x2.free 0, x2.free 1, x2.free 2, x2.free 3, x2.free 4, x2.free 5⟩ : _ ∧ _ ∧ _ ∧ _ ∧ _ ∧ _)
          obtain ⟨m0, m1, m2, m3, m4, m5⟩ := (⟨x2.cell 0 rfl, x2.cell 1 rfl, x2.cell 2 rfl, x2.cell 3 rfl, x2.cell 4 rfl, x2.cell 5 rfl⟩ : _ ∧ _ ∧ _ ∧ _ ∧ _ ∧ _)
          obtain ⟨wz, hz⟩ : ∃ wz, wz = ((((((w9.setCell ⟨g + 1, 0, none⟩ (.int .i64 0)).setCell ⟨g + 1, 1, none⟩ (.string ⟨#[]⟩)).setCell ⟨g + 1, 2, none⟩ (.bool false)).setCell ⟨g + 1, 3, none⟩ (.string ⟨#[]⟩)).setCell ⟨g + 1, 4, none⟩ (.bool false)).setCell ⟨g + 1, 5, none⟩ (.string ⟨#[]⟩)) := ⟨_, rfl⟩
          have hqz : Box wz (g + 1) 49 #[.int .i64 0, .string ⟨#[]⟩, .bool false, .string ⟨#[]⟩, .bool false, .string ⟨#[]⟩] := by rw [hz]; exact ((((((Box.set x2 0 _).set 1 _).set 2 _).set 3 _).set 4 _).set 5 _)
          have hbz : Below g w wz := by rw [hz]; exact ((((((x3.setCell (p := ⟨g + 1, 0, none⟩) (by simp) _).setCell (p := ⟨g + 1, 1, none⟩) (by simp) _).setCell (p := ⟨g + 1, 2, none⟩) (by simp) _).setCell (p := ⟨g + 1, 3, none⟩) (by simp) _).setCell (p := ⟨g + 1, 4, none⟩) (by simp) _).setCell (p := ⟨g + 1, 5, none⟩) (by simp) _)
          obtain ⟨p0, p1, p2, p3, p4, p5⟩ : _ ∧ _ ∧ _ ∧ _ ∧ _ ∧ _ := ⟨hqz.cell 0 rfl, hqz.cell 1 rfl, hqz.cell 2 rfl, hqz.cell 3 rfl, hqz.cell 4 rfl, hqz.cell 5 rfl⟩
          have HBZ := Lib.hid (show Below w.heap.size w wz from by rw [← HG.out]; exact hbz)
          clear x1 x2 x3 hc9 hqz hbz
          go_wp2
          rw [← hz]
          exact bodyPost_ret (v := .tuple #[.agg #[.int .i64 0, .string ⟨#[]⟩, .bool false, .string ⟨#[]⟩, .bool false, .string ⟨#[]⟩], .int .i64 3]) (by simp [results, Try.results28, go_sem, p0, p1, p2, p3, p4, p5]) rfl ⟨by rw [HF.out.1, HF.out.2]; rfl, HBZ.out⟩
        | true =>
          have HF := Lib.hid (HEND.out.2 rfl)
          obtain ⟨f0, f1, f2, f3, f4, f5⟩ := (⟨x2.free 0, x2.free 1, x2.free 2, x2.free 3, x2.free 4, x2.free 5⟩ : _ ∧ _ ∧ _ ∧ _ ∧ _ ∧ _)
          obtain ⟨m0, m1, m2, m3, m4, m5⟩ := (⟨x2.cell 0 rfl, x2.cell 1 rfl, x2.cell 2 rfl, x2.cell 3 rfl, x2.cell 4 rfl, x2.cell 5 rfl⟩ : _ ∧ _ ∧ _ ∧ _ ∧ _ ∧ _)
          obtain ⟨wz, hz⟩ : ∃ wz, wz = ((((((w9.setCell ⟨g + 1, 0, none⟩ (.int .i64 s)).setCell ⟨g + 1, 1, none⟩ (.string nkey)).setCell ⟨g + 1, 2, none⟩ (.bool false)).setCell ⟨g + 1, 3, none⟩ (.string ⟨#[]⟩)).setCell ⟨g + 1, 4, none⟩ (.bool true)).setCell ⟨g + 1, 5, none⟩ (.string dv)) := ⟨_, rfl⟩
          have hqz : Box wz (g + 1) 49 #[.int .i64 s, .string nkey, .bool false, .string ⟨#[]⟩, .bool true, .string dv] := by rw [hz]; exact (Box.set (Box.set (Box.set (Box.set (Box.set (Box.set x2 0 _) 1 _) 2 _) 3 _) 4 _) 5 _)
          have hbz : Below g w wz := by rw [hz]; exact ((((((x3.setCell (p := ⟨g + 1, 0, none⟩) (by simp) _).setCell (p := ⟨g + 1, 1, none⟩) (by simp) _).setCell (p := ⟨g + 1, 2, none⟩) (by simp) _).setCell (p := ⟨g + 1, 3, none⟩) (by simp) _).setCell (p := ⟨g + 1, 4, none⟩) (by simp) _).setCell (p := ⟨g + 1, 5, none⟩) (by simp) _)
          obtain ⟨p0, p1, p2, p3, p4, p5⟩ : _ ∧ _ ∧ _ ∧ _ ∧ _ ∧ _ := ⟨hqz.cell 0 rfl, hqz.cell 1 rfl, hqz.cell 2 rfl, hqz.cell 3 rfl, hqz.cell 4 rfl, hqz.cell 5 rfl⟩
          have HBZ := Lib.hid (show Below w.heap.size w wz from by rw [← HG.out]; exact hbz)
          clear x1 x2 x3 hqz hbz hc9
          go_wp2
          rw [← hz]
          exact bodyPost_ret (v := .tuple #[.agg #[.int .i64 s, .string nkey, .bool false, .string ⟨#[]⟩, .bool true, .string dv], .int .i64 0]) (by simp [results, Try.results28, go_sem, p0, p1, p2, p3, p4, p5]) rfl ⟨by rw [HF.out.1, HF.out.2]; rfl, HBZ.out⟩
      · obtain ⟨rfl, rfl⟩ : l[i].v = cv ∧ true = ch := by have h := HCV.out; rw [hgs] at h; injection h with h1 h2; exact ⟨h1, h2⟩
        obtain ⟨ad, rfl, hab, hca⟩ := (show Prs w5 w5.heap.size A l from by obtain ⟨A0, c0, e0, hp0, _⟩ := HVV.out.on (by rw [← HG.out]; exact HB5.out); injection e0 with e1 _ _; rw [e1]; exact hp0).seeP (by omega)
        obtain ⟨d1, d2⟩ := hca i hi
        obtain ⟨cv, hcv⟩ : ∃ cv, l[i].v = cv := ⟨_, rfl⟩
        rw [hcv] at d2 HDN HEND HCV
        have hin : i < nl := by rw [← HNL.out]; exact hi
        have y := HC5.out
        have f2 := y.free 2
        have f3 := y.free 3
        have k2 := y.cell 2 rfl
        have k3 := y.cell 3 rfl
        have hne : (ad.add (i * 2)).block ≠ BC ∨ (ad.add (i * 2)).block = BC := by omega
        obtain ⟨w6, hw6⟩ : ∃ q, q = w5.setCell ⟨BC, 2, none⟩ (.bool true) := ⟨_, rfl⟩
        have hp6 : w6.cell? ⟨(ad.add (i * 2)).block, (ad.add (i * 2)).off + 1, none⟩ = some (.string cv) := by
          obtain ⟨A0, c0, e0, hp0, _⟩ := HVV.out.on (show Below w.heap.size w w6 from by rw [← HG.out, hw6]; exact HB5.out.setCell (p := ⟨BC, 2, none⟩) (by have := HGB.out; simp; omega) _)
          injection e0 with e1 _ _
          obtain ⟨ad', ea, _, hc'⟩ := hp0.seeP (by omega)
          rw [← e1] at ea
          injection ea with ea
          rw [ea, (hc' i hi).2, hcv]
        rw [hw6] at hp6
        have y3f : w6.frozen? ⟨BC, 3, none⟩ = false := by rw [hw6]; exact (Box.set y 2 _).free 3
        have y3c := by have := (Box.set y 2 (.bool true)).cell 3 (v := .string ⟨#[]⟩) rfl; exact this
        rw [hw6] at y3f
        clear hca hgs hf hne
        go_upto_region 9 with fail
        obtain ⟨w7, hw7⟩ : ∃ q, q = (w5.setCell ⟨BC, 2, none⟩ (.bool true)).setCell ⟨BC, 3, none⟩ (.string cv) := ⟨_, rfl⟩
        rw [← hw7]
        have HC7 := Lib.hid (show Box w7 BC 49 #[.int .i64 s, .string nkey, .bool true, .string cv, .bool false, .string ⟨#[]⟩] from by rw [hw7]; exact (Box.set y 2 _).set 3 _)
        have HN7 := Lib.hid (show Box w7 g 58 #[.int .i64 nk, .string nkey, .string nval, .int .u64 xn] from by rw [hw7]; exact (HN5.out.away (by have := HGB.out; simp; omega) _).away (by have := HGB.out; simp; omega) _)
        have HQ7 := Lib.hid (show Box w7 (g + 1) 49 #[.int .i64 0, .string ⟨#[]⟩, .bool false, .string ⟨#[]⟩, .bool false, .string ⟨#[]⟩] from by rw [hw7]; exact (HQ5.out.away (by have := HGB.out; simp; omega) _).away (by have := HGB.out; simp; omega) _)
        have HB7 := Lib.hid (show Below g w w7 from by rw [hw7]; exact (HB5.out.setCell (p := ⟨BC, 2, none⟩) (by have := HGB.out; simp; omega) _).setCell (p := ⟨BC, 3, none⟩) (by have := HGB.out; simp; omega) _)
        clear y f2 f3 k2 k3 hw6 hp6 y3f y3c hw7 d1 d2 hin hi hcv
        have hbl : Below w7.heap.size w7 (w7.alloc (.cells #[.int .i64 nk, .string nkey, .string nval, .int .u64 xn] 58)) := (Below.refl _ _).alloc (Nat.le_refl _) _
        have hdc := ddone_any cv true (some ⟨w7.heap.size, 0, none⟩) 1 [⟨nk, nkey, nval, nn⟩] (w7.alloc (.cells #[.int .i64 nk, .string nkey, .string nval, .int .u64 xn] 58)) (by
          have h := Lies.lit (cs := Nt.cells) (k := 4) (w := w7) (t := 58) (C := #[.int .i64 nk, .string nkey, .string nval, .int .u64 xn]) (l := [(⟨nk, nkey, nval, nn⟩ : Nt)]) (fun _ => rfl) (by simp [Nt.cells, HXN.out])
          simpa using h) (by unfold maxLen; simp)
        rw [HDN.out] at hdc
        simp only [List.length_cons, List.length_nil, Nat.zero_add] at hdc
        have HDC := Lib.hid hdc
        have HCL := Lib.hid (HC7.out.on hbl)
        have HQL := Lib.hid (HQ7.out.on hbl)
        have HBL := Lib.hid (HB7.out.trans (hbl.mono (by have := HN7.out.lt; omega)))
        obtain ⟨n0, n1, n2, n3⟩ : _ ∧ _ ∧ _ ∧ _ := ⟨HN7.out.cell 0 rfl, HN7.out.cell 1 rfl, HN7.out.cell 2 rfl, HN7.out.cell 3 rfl⟩
        obtain ⟨c2, c3⟩ : _ ∧ _ := ⟨HC7.out.cell 2 rfl, HC7.out.cell 3 rfl⟩
        clear hbl hdc
        go_wp2_with fail
        refine HDC.out.mono ?_
        rintro e w8 ⟨rfl, hb⟩
        have x := HCL.out.on hb
        have hq8 := HQL.out.on hb
        have hb8 := HBL.out.trans (hb.mono (by have := HQL.out.lt; omega))
        have f4 := x.free 4
        have f5 := x.free 5
        have k4 := x.cell 4 rfl
        have k5 := x.cell 5 rfl
        clear n0 n1 n2 n3 c2 c3 hb
        go_upto_region 10 with fail
        obtain ⟨w9, hw9⟩ : ∃ q, q = (w8.setCell ⟨BC, 5, none⟩ (.string dv)).setCell ⟨BC, 4, none⟩ (.bool dh) := ⟨_, rfl⟩
        rw [← hw9]
        have hc9 : Box w9 BC 49 #[.int .i64 s, .string nkey, .bool true, .string cv, .bool dh, .string dv] := by rw [hw9]; exact (Box.set x 5 _).set 4 _
        have x2 : Box w9 (g + 1) 49 #[.int .i64 0, .string ⟨#[]⟩, .bool false, .string ⟨#[]⟩, .bool false, .string ⟨#[]⟩] := by rw [hw9]; exact (hq8.away (by have := HGB.out; simp; omega) _).away (by have := HGB.out; simp; omega) _
        have x3 : Below g w w9 := by rw [hw9]; exact (hb8.setCell (p := ⟨BC, 5, none⟩) (by have := HGB.out; simp; omega) _).setCell (p := ⟨BC, 4, none⟩) (by have := HGB.out; simp; omega) _
        obtain ⟨c0, c1, c2, c3, c4, c5⟩ : _ ∧ _ ∧ _ ∧ _ ∧ _ ∧ _ := ⟨hc9.cell 0 rfl, hc9.cell 1 rfl, hc9.cell 2 rfl, hc9.cell 3 rfl, hc9.cell 4 rfl, hc9.cell 5 rfl⟩
        have x1 := hc9
        clear x hq8 hb8 hw9 f4 f5 k4 k5
        have HF := Lib.hid (HEND.out.2 rfl)
        obtain ⟨f0, f1, f2, f3, f4, f5⟩ := (⟨x2.free 0, x2.free 1, x2.free 2, x2.free 3, x2.free 4, x2.free 5⟩ : _ ∧ _ ∧ _ ∧ _ ∧ _ ∧ _)
        obtain ⟨m0, m1, m2, m3, m4, m5⟩ := (⟨x2.cell 0 rfl, x2.cell 1 rfl, x2.cell 2 rfl, x2.cell 3 rfl, x2.cell 4 rfl, x2.cell 5 rfl⟩ : _ ∧ _ ∧ _ ∧ _ ∧ _ ∧ _)
        obtain ⟨wz, hz⟩ : ∃ wz, wz = ((((((w9.setCell ⟨g + 1, 0, none⟩ (.int .i64 s)).setCell ⟨g + 1, 1, none⟩ (.string nkey)).setCell ⟨g + 1, 2, none⟩ (.bool true)).setCell ⟨g + 1, 3, none⟩ (.string cv)).setCell ⟨g + 1, 4, none⟩ (.bool dh)).setCell ⟨g + 1, 5, none⟩ (.string dv)) := ⟨_, rfl⟩
        have hqz : Box wz (g + 1) 49 #[.int .i64 s, .string nkey, .bool true, .string cv, .bool dh, .string dv] := by rw [hz]; exact (Box.set (Box.set (Box.set (Box.set (Box.set (Box.set x2 0 _) 1 _) 2 _) 3 _) 4 _) 5 _)
        have hbz : Below g w wz := by rw [hz]; exact ((((((x3.setCell (p := ⟨g + 1, 0, none⟩) (by simp) _).setCell (p := ⟨g + 1, 1, none⟩) (by simp) _).setCell (p := ⟨g + 1, 2, none⟩) (by simp) _).setCell (p := ⟨g + 1, 3, none⟩) (by simp) _).setCell (p := ⟨g + 1, 4, none⟩) (by simp) _).setCell (p := ⟨g + 1, 5, none⟩) (by simp) _)
        obtain ⟨p0, p1, p2, p3, p4, p5⟩ : _ ∧ _ ∧ _ ∧ _ ∧ _ ∧ _ := ⟨hqz.cell 0 rfl, hqz.cell 1 rfl, hqz.cell 2 rfl, hqz.cell 3 rfl, hqz.cell 4 rfl, hqz.cell 5 rfl⟩
        have HBZ := Lib.hid (show Below w.heap.size w wz from by rw [← HG.out]; exact hbz)
        clear x1 x2 x3 hqz hbz hc9
        go_wp2
        rw [← hz]
        exact bodyPost_ret (v := .tuple #[.agg #[.int .i64 s, .string nkey, .bool true, .string cv, .bool dh, .string dv], .int .i64 0]) (by simp [results, Try.results28, go_sem, p0, p1, p2, p3, p4, p5]) rfl ⟨by rw [HF.out.1, HF.out.2]; rfl, HBZ.out⟩

end Go.Proofs.Ytnlmdgbkfoofoaa
