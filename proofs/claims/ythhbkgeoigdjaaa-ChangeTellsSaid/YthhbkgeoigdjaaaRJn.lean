/- The walk of the document's Join. -/
import Derived.Test.YthhbkgeoigdjaaaJn
set_option linter.unusedVariables false
set_option linter.unusedSimpArgs false
namespace Go.Proofs.Ythhbkgeoigdjaaa
open Go.RowKit

def RjV (s : Int) (k : ByteArray) (m : Bool) (b : ByteArray) (n : Bool) (a : ByteArray) (s2 : Int) (k2 : ByteArray) (m2 : Bool) (b2 : ByteArray) (n2 : Bool) (a2 : ByteArray) (M1 M2 : Bool) (p t : Nat) (v : Value) (w : World) : Prop :=
  match t with
  | 8 => v = .agg #[.int .i64 s, .string k, .bool m, .string b, .bool n, .string a]
  | 9 => v = .bool M1
  | 10 => v = .agg #[.int .i64 s2, .string k2, .bool m2, .string b2, .bool n2, .string a2]
  | 11 => v = .bool M2
  | 6 => v = .bool M1
  | 7 => v = .bool M2
  | _ => True
theorem RjV.on {s : Int} {k : ByteArray} {m : Bool} {b : ByteArray} {n : Bool} {a : ByteArray} {s2 : Int} {k2 : ByteArray} {m2 : Bool} {b2 : ByteArray} {n2 : Bool} {a2 : ByteArray} {M1 M2 : Bool} {p t : Nat} {v : Value} {w w' : World} (h : RjV s k m b n a s2 k2 m2 b2 n2 a2 M1 M2 p t v w) (hb : Below w.heap.size w w') : RjV s k m b n a s2 k2 m2 b2 n2 a2 M1 M2 p t v w' := by
  unfold RjV at *
  split at h <;> first | exact h

set_option maxRecDepth 100000 in
set_option maxHeartbeats 8000000 in
theorem rjoin_any (x y : Ch) (w : World) :
    Calls Try.prog 15 #[x.v, y.v] w fun e w' => e = .returned (.tuple #[(joinA x y).v, .int .i64 (joinE x y)]) ∧ Below w.heap.size w w' := by
  have hm1 := fun w => dmay_any x.seq x.key x.had x.before x.has x.after w
  have hm2 := fun w => dmay_any y.seq y.key y.had y.before y.has y.after w
  obtain ⟨AA, hAA⟩ : ∃ q, joinA x y = q := ⟨_, rfl⟩
  obtain ⟨EE, hEE⟩ : ∃ q, joinE x y = q := ⟨_, rfl⟩
  rw [hAA, hEE]
  obtain ⟨M1, hM1⟩ : ∃ q, mayC x = q := ⟨_, rfl⟩
  obtain ⟨M2, hM2⟩ : ∃ q, mayC y = q := ⟨_, rfl⟩
  have HNO := Lib.hid (show joinOk x y = false → AA = noC ∧ EE = 1 from fun h => by
    have h1 : joinE x y = 1 := by unfold joinE; rw [h]; rfl
    exact ⟨by rw [← hAA]; unfold joinA; rw [h1]; rfl, by rw [← hEE, h1]⟩)
  have HYES := Lib.hid (show joinOk x y = true → ((x.had || y.has) = false → AA = noC ∧ EE = 3) ∧ ((x.had || y.has) = true → AA = joinC x y ∧ EE = 0) from fun h => by
    constructor
    · intro ho
      have h1 : joinE x y = 3 := by unfold joinE; rw [h]; cases hx : x.had <;> cases hy : y.has <;> rw [hx, hy] at ho <;> first | rfl | cases ho
      exact ⟨by rw [← hAA]; unfold joinA; rw [h1]; rfl, by rw [← hEE, h1]⟩
    · intro ho
      have h1 : joinE x y = 0 := by unfold joinE; rw [h]; cases hx : x.had <;> cases hy : y.has <;> rw [hx, hy] at ho <;> first | rfl | cases ho
      exact ⟨by rw [← hAA]; unfold joinA; rw [h1]; rfl, by rw [← hEE, h1]⟩)
  clear hAA hEE
  obtain ⟨s, k, m, b, n, a⟩ := x
  obtain ⟨s2, k2, m2, b2, n2, a2⟩ := y
  rw [hM1] at hm1
  rw [hM2] at hm2
  simp only at hm1 hm2
  have HM1 := Lib.hid hm1
  have HM2 := Lib.hid hm2
  have HMA := Lib.hid hM1
  have HMB := Lib.hid hM2
  clear hm1 hm2 hM1 hM2
  unfold Ch.v chV
  obtain ⟨w1, hw1⟩ : ∃ w1, w1 = w.alloc (.cells #[.int .i64 s, .string k, .bool m, .string b, .bool n, .string a] 27) := ⟨_, rfl⟩
  obtain ⟨w2, hw2⟩ : ∃ w2, w2 = w1.alloc (.cells #[.int .i64 s2, .string k2, .bool m2, .string b2, .bool n2, .string a2] 27) := ⟨_, rfl⟩
  obtain ⟨w3, hw3⟩ : ∃ w3, w3 = w2.alloc (.cells #[.int .i64 0, .string ⟨#[]⟩, .bool false, .string ⟨#[]⟩, .bool false, .string ⟨#[]⟩] 27) := ⟨_, rfl⟩
  obtain ⟨g1, hg1⟩ : ∃ q, q = w.heap.size := ⟨_, rfl⟩
  obtain ⟨g2, hg2⟩ : ∃ q, q = w1.heap.size := ⟨_, rfl⟩
  obtain ⟨q, hq⟩ : ∃ q, q = w2.heap.size := ⟨_, rfl⟩
  have e4 : g1 + 1 = g2 := by rw [hg2, hw1, hg1]; simp
  have e5 : g2 + 1 = q := by rw [hq, hw2, hg2]; simp
  have hbx : Box w3 g1 27 #[.int .i64 s, .string k, .bool m, .string b, .bool n, .string a] := by rw [hw3, hw2]; exact Box.push (Box.push (by rw [hw1]; exact Box.at_ w _ _ hg1) _) _
  have hby : Box w3 g2 27 #[.int .i64 s2, .string k2, .bool m2, .string b2, .bool n2, .string a2] := by rw [hw3]; exact Box.push (by rw [hw2]; exact Box.at_ w1 _ _ hg2) _
  have Q3 := Lib.hid (show Box w3 q 27 #[.int .i64 0, .string ⟨#[]⟩, .bool false, .string ⟨#[]⟩, .bool false, .string ⟨#[]⟩] from by rw [hw3]; exact Box.at_ w2 _ _ hq)
  have hb3 : Below w.heap.size w w3 := by rw [hw3, hw2, hw1]; exact (((Below.refl _ _).alloc (Nat.le_refl _) _).alloc (by simp) _).alloc (by simp; omega) _
  have HB3 := Lib.hid hb3
  have HQ := Lib.hid (show w.heap.size ≤ q from by omega)
  have HX := Lib.hid (show ∀ wx, Below w3.heap.size w3 wx → _ ∧ _ ∧ _ ∧ _ ∧ _ ∧ _ from fun wx hh => let hx := hbx.on hh; ⟨hx.cell 0 rfl, hx.cell 1 rfl, hx.cell 2 rfl, hx.cell 3 rfl, hx.cell 4 rfl, hx.cell 5 rfl⟩)
  have HY := Lib.hid (show ∀ wx, Below w3.heap.size w3 wx → _ ∧ _ ∧ _ ∧ _ ∧ _ ∧ _ from fun wx hh => let hx := hby.on hh; ⟨hx.cell 0 rfl, hx.cell 1 rfl, hx.cell 2 rfl, hx.cell 3 rfl, hx.cell 4 rfl, hx.cell 5 rfl⟩)
  clear hb3 hbx hby
  go_enter Try.func15, Try.ntmps15
  go_upto_region 1 with fail
  rw [← hg1, e4, ← hw1, ← hw2, e5, ← hw3]
  clear hg1 hg2 e4 e5 hw1 hw2 hw3 hq
  refine wp_region_phase 14 [8, 9, 10, 11, 6, 7] (by kernel_rfl) [] [] (fun _ _ => True) 0 rfl (by kernel_rfl) ((fun _ wx => Below w3.heap.size w3 wx)) (fun wa wb => Below wa.heap.size wa wb) (RjV s k m b n a s2 k2 m2 b2 n2 a2 M1 M2) (by kernel_rfl) (fun _ wa wb h1 h2 => h2.trans (h1.mono h2.size)) (fun _ t v wa wb h1 h2 => h2.on h1) (fun _ _ _ _ _ _ _ => trivial) (Below.refl _ _).drew trivial (phase0 ?_) ?_
  · refine Steps1.cons (fun _ ax wx hS _ hG => ?_) (Steps1.cons (fun _ ax wx hS _ hG => ?_) (Steps1.cons (fun _ ax wx hS _ hG => ?_) (Steps1.cons (fun _ ax wx hS _ hG => ?_) (Steps1.cons (fun _ ax wx hS _ hG => ?_) (Steps1.cons (fun _ ax wx hS _ hG => ?_) Steps1.nil)))))
    · have q2 := hG.old 2 (by kernel_rfl) (by kernel_rfl)
      obtain ⟨z0, z1, z2, z3, z4, z5⟩ := HX.out wx hS
      refine step_slot rfl rfl rfl (step_value (v := .agg #[.int .i64 s, .string k, .bool m, .string b, .bool n, .string a]) (w' := wx) rfl rfl ?_ (Below.refl _ _) (fun d hd => by cases hd; exact rfl))
      go_simp
    · obtain ⟨_, q8, rfl⟩ := hG.new 8 (by kernel_rfl) (by kernel_rfl)
      refine step_slot rfl rfl rfl (step_call (w1 := wx) (f := 34) (args := #[.agg #[.int .i64 s, .string k, .bool m, .string b, .bool n, .string a]]) rfl rfl ?_ ((HM1.out wx).mono ?_))
      · skip
        go_simp
      · rintro e w' ⟨rfl, hq⟩
        exact ⟨_, rfl, hq, fun d hd => by cases hd; exact rfl⟩
    · have q3 := hG.old 3 (by kernel_rfl) (by kernel_rfl)
      obtain ⟨z0, z1, z2, z3, z4, z5⟩ := HY.out wx hS
      refine step_slot rfl rfl rfl (step_value (v := .agg #[.int .i64 s2, .string k2, .bool m2, .string b2, .bool n2, .string a2]) (w' := wx) rfl rfl ?_ (Below.refl _ _) (fun d hd => by cases hd; exact rfl))
      go_simp
    · obtain ⟨_, q10, rfl⟩ := hG.new 10 (by kernel_rfl) (by kernel_rfl)
      refine step_slot rfl rfl rfl (step_call (w1 := wx) (f := 34) (args := #[.agg #[.int .i64 s2, .string k2, .bool m2, .string b2, .bool n2, .string a2]]) rfl rfl ?_ ((HM2.out wx).mono ?_))
      · skip
        go_simp
      · rintro e w' ⟨rfl, hq⟩
        exact ⟨_, rfl, hq, fun d hd => by cases hd; exact rfl⟩
    · obtain ⟨_, q9, rfl⟩ := hG.new 9 (by kernel_rfl) (by kernel_rfl)
      refine step_slot rfl rfl rfl (step_value (v := .bool M1) (w' := wx) rfl rfl ?_ (Below.refl _ _) (fun d hd => by cases hd; exact rfl))
      go_simp
    · obtain ⟨_, q11, rfl⟩ := hG.new 11 (by kernel_rfl) (by kernel_rfl)
      refine step_slot rfl rfl rfl (step_value (v := .bool M2) (w' := wx) rfl rfl ?_ (Below.refl _ _) (fun d hd => by cases hd; exact rfl))
      go_simp
  intro fv w8 hS8 _ hV8
  have e6 : fv 6 = .bool M1 := hV8 6 (by decide)
  have e7 : fv 7 = .bool M2 := hV8 7 (by decide)
  simp only [puts, Act.put, List.setIfInBounds_toArray, List.set_cons_succ, List.set_cons_zero]
  clear hV8
  rw [e6, e7]
  obtain ⟨u0, u1, u2, u3, u4, u5⟩ : _ ∧ _ ∧ _ ∧ _ ∧ _ ∧ _ := HX.out w8 hS8
  obtain ⟨y0, y1, y2, y3, y4, y5⟩ : _ ∧ _ ∧ _ ∧ _ ∧ _ ∧ _ := HY.out w8 hS8
  have Q8 := Lib.hid (Q3.out.on hS8)
  have HB8 := Lib.hid (HB3.out.trans ((show Below w3.heap.size w3 w8 from hS8).mono HB3.out.size))
  obtain ⟨j0, j1, j2, j3, j4, j5⟩ := (⟨Box.free Q8.out 0, Box.free Q8.out 1, Box.free Q8.out 2, Box.free Q8.out 3, Box.free Q8.out 4, Box.free Q8.out 5⟩ : _ ∧ _ ∧ _ ∧ _ ∧ _ ∧ _)
  obtain ⟨m0, m1, x2, m3, m4, m5⟩ := (⟨Box.cell Q8.out 0 rfl, Box.cell Q8.out 1 rfl, Box.cell Q8.out 2 rfl, Box.cell Q8.out 3 rfl, Box.cell Q8.out 4 rfl, Box.cell Q8.out 5 rfl⟩ : _ ∧ _ ∧ _ ∧ _ ∧ _ ∧ _)
  clear hS8
  cases M1 with
  | false =>
    have HF := Lib.hid (HNO.out (by unfold joinOk; rw [HMA.out]; rfl))
    obtain ⟨wz, hz⟩ : ∃ wz, wz = ((((((w8.setCell ⟨q, 0, none⟩ (.int .i64 0)).setCell ⟨q, 1, none⟩ (.string ⟨#[]⟩)).setCell ⟨q, 2, none⟩ (.bool false)).setCell ⟨q, 3, none⟩ (.string ⟨#[]⟩)).setCell ⟨q, 4, none⟩ (.bool false)).setCell ⟨q, 5, none⟩ (.string ⟨#[]⟩)) := ⟨_, rfl⟩
    have hqz : Box wz q 27 #[.int .i64 0, .string ⟨#[]⟩, .bool false, .string ⟨#[]⟩, .bool false, .string ⟨#[]⟩] := by rw [hz]; exact (Box.set (Box.set (Box.set (Box.set (Box.set (Box.set Q8.out 0 _) 1 _) 2 _) 3 _) 4 _) 5 _)
    have hbz : Below w.heap.size w wz := by rw [hz]; exact ((((((HB8.out.setCell (p := ⟨q, 0, none⟩) HQ.out _).setCell (p := ⟨q, 1, none⟩) HQ.out _).setCell (p := ⟨q, 2, none⟩) HQ.out _).setCell (p := ⟨q, 3, none⟩) HQ.out _).setCell (p := ⟨q, 4, none⟩) HQ.out _).setCell (p := ⟨q, 5, none⟩) HQ.out _)
    obtain ⟨p0, p1, p2, p3, p4, p5⟩ : _ ∧ _ ∧ _ ∧ _ ∧ _ ∧ _ := ⟨hqz.cell 0 rfl, hqz.cell 1 rfl, hqz.cell 2 rfl, hqz.cell 3 rfl, hqz.cell 4 rfl, hqz.cell 5 rfl⟩
    have HBZ := Lib.hid hbz
    clear hqz hbz
    go_wp2
    rw [← hz]
    exact bodyPost_ret (v := .tuple #[.agg #[.int .i64 0, .string ⟨#[]⟩, .bool false, .string ⟨#[]⟩, .bool false, .string ⟨#[]⟩], .int .i64 1]) (by simp [results, Try.results15, go_sem, p0, p1, p2, p3, p4, p5]) rfl ⟨by rw [HF.out.1, HF.out.2]; rfl, HBZ.out⟩
  | true =>
  cases M2 with
  | false =>
    have HF := Lib.hid (HNO.out (by unfold joinOk; rw [HMA.out, HMB.out]; rfl))
    obtain ⟨wz, hz⟩ : ∃ wz, wz = ((((((w8.setCell ⟨q, 0, none⟩ (.int .i64 0)).setCell ⟨q, 1, none⟩ (.string ⟨#[]⟩)).setCell ⟨q, 2, none⟩ (.bool false)).setCell ⟨q, 3, none⟩ (.string ⟨#[]⟩)).setCell ⟨q, 4, none⟩ (.bool false)).setCell ⟨q, 5, none⟩ (.string ⟨#[]⟩)) := ⟨_, rfl⟩
    have hqz : Box wz q 27 #[.int .i64 0, .string ⟨#[]⟩, .bool false, .string ⟨#[]⟩, .bool false, .string ⟨#[]⟩] := by rw [hz]; exact (Box.set (Box.set (Box.set (Box.set (Box.set (Box.set Q8.out 0 _) 1 _) 2 _) 3 _) 4 _) 5 _)
    have hbz : Below w.heap.size w wz := by rw [hz]; exact ((((((HB8.out.setCell (p := ⟨q, 0, none⟩) HQ.out _).setCell (p := ⟨q, 1, none⟩) HQ.out _).setCell (p := ⟨q, 2, none⟩) HQ.out _).setCell (p := ⟨q, 3, none⟩) HQ.out _).setCell (p := ⟨q, 4, none⟩) HQ.out _).setCell (p := ⟨q, 5, none⟩) HQ.out _)
    obtain ⟨p0, p1, p2, p3, p4, p5⟩ : _ ∧ _ ∧ _ ∧ _ ∧ _ ∧ _ := ⟨hqz.cell 0 rfl, hqz.cell 1 rfl, hqz.cell 2 rfl, hqz.cell 3 rfl, hqz.cell 4 rfl, hqz.cell 5 rfl⟩
    have HBZ := Lib.hid hbz
    clear hqz hbz
    go_wp2
    rw [← hz]
    exact bodyPost_ret (v := .tuple #[.agg #[.int .i64 0, .string ⟨#[]⟩, .bool false, .string ⟨#[]⟩, .bool false, .string ⟨#[]⟩], .int .i64 1]) (by simp [results, Try.results15, go_sem, p0, p1, p2, p3, p4, p5]) rfl ⟨by rw [HF.out.1, HF.out.2]; rfl, HBZ.out⟩
  | true =>
  by_cases hk : k = k2
  case neg =>
    have HF := Lib.hid (HNO.out (by unfold joinOk; simp [hk]))
    have hk' : ¬ k.toList = k2.toList := fun e => hk (tl_inj e)
    clear hk
    obtain ⟨wz, hz⟩ : ∃ wz, wz = ((((((w8.setCell ⟨q, 0, none⟩ (.int .i64 0)).setCell ⟨q, 1, none⟩ (.string ⟨#[]⟩)).setCell ⟨q, 2, none⟩ (.bool false)).setCell ⟨q, 3, none⟩ (.string ⟨#[]⟩)).setCell ⟨q, 4, none⟩ (.bool false)).setCell ⟨q, 5, none⟩ (.string ⟨#[]⟩)) := ⟨_, rfl⟩
    have hqz : Box wz q 27 #[.int .i64 0, .string ⟨#[]⟩, .bool false, .string ⟨#[]⟩, .bool false, .string ⟨#[]⟩] := by rw [hz]; exact (Box.set (Box.set (Box.set (Box.set (Box.set (Box.set Q8.out 0 _) 1 _) 2 _) 3 _) 4 _) 5 _)
    have hbz : Below w.heap.size w wz := by rw [hz]; exact ((((((HB8.out.setCell (p := ⟨q, 0, none⟩) HQ.out _).setCell (p := ⟨q, 1, none⟩) HQ.out _).setCell (p := ⟨q, 2, none⟩) HQ.out _).setCell (p := ⟨q, 3, none⟩) HQ.out _).setCell (p := ⟨q, 4, none⟩) HQ.out _).setCell (p := ⟨q, 5, none⟩) HQ.out _)
    obtain ⟨p0, p1, p2, p3, p4, p5⟩ : _ ∧ _ ∧ _ ∧ _ ∧ _ ∧ _ := ⟨hqz.cell 0 rfl, hqz.cell 1 rfl, hqz.cell 2 rfl, hqz.cell 3 rfl, hqz.cell 4 rfl, hqz.cell 5 rfl⟩
    have HBZ := Lib.hid hbz
    clear hqz hbz
    go_wp2
    rw [← hz]
    exact bodyPost_ret (v := .tuple #[.agg #[.int .i64 0, .string ⟨#[]⟩, .bool false, .string ⟨#[]⟩, .bool false, .string ⟨#[]⟩], .int .i64 1]) (by simp [results, Try.results15, go_sem, p0, p1, p2, p3, p4, p5]) rfl ⟨by rw [HF.out.1, HF.out.2]; rfl, HBZ.out⟩
  by_cases hs : s2 ≤ s
  case pos =>
    have HF := Lib.hid (HNO.out (by unfold joinOk; simp; intros; omega))
    have hs' : decide (s2 ≤ s) = true := decide_eq_true hs
    obtain ⟨wz, hz⟩ : ∃ wz, wz = ((((((w8.setCell ⟨q, 0, none⟩ (.int .i64 0)).setCell ⟨q, 1, none⟩ (.string ⟨#[]⟩)).setCell ⟨q, 2, none⟩ (.bool false)).setCell ⟨q, 3, none⟩ (.string ⟨#[]⟩)).setCell ⟨q, 4, none⟩ (.bool false)).setCell ⟨q, 5, none⟩ (.string ⟨#[]⟩)) := ⟨_, rfl⟩
    have hqz : Box wz q 27 #[.int .i64 0, .string ⟨#[]⟩, .bool false, .string ⟨#[]⟩, .bool false, .string ⟨#[]⟩] := by rw [hz]; exact (Box.set (Box.set (Box.set (Box.set (Box.set (Box.set Q8.out 0 _) 1 _) 2 _) 3 _) 4 _) 5 _)
    have hbz : Below w.heap.size w wz := by rw [hz]; exact ((((((HB8.out.setCell (p := ⟨q, 0, none⟩) HQ.out _).setCell (p := ⟨q, 1, none⟩) HQ.out _).setCell (p := ⟨q, 2, none⟩) HQ.out _).setCell (p := ⟨q, 3, none⟩) HQ.out _).setCell (p := ⟨q, 4, none⟩) HQ.out _).setCell (p := ⟨q, 5, none⟩) HQ.out _)
    obtain ⟨p0, p1, p2, p3, p4, p5⟩ : _ ∧ _ ∧ _ ∧ _ ∧ _ ∧ _ := ⟨hqz.cell 0 rfl, hqz.cell 1 rfl, hqz.cell 2 rfl, hqz.cell 3 rfl, hqz.cell 4 rfl, hqz.cell 5 rfl⟩
    have HBZ := Lib.hid hbz
    clear hqz hbz
    go_wp2
    rw [← hz]
    exact bodyPost_ret (v := .tuple #[.agg #[.int .i64 0, .string ⟨#[]⟩, .bool false, .string ⟨#[]⟩, .bool false, .string ⟨#[]⟩], .int .i64 1]) (by simp [results, Try.results15, go_sem, p0, p1, p2, p3, p4, p5]) rfl ⟨by rw [HF.out.1, HF.out.2]; rfl, HBZ.out⟩
  have hs' : decide (s2 ≤ s) = false := decide_eq_false hs
  by_cases hn : n = m2
  case neg =>
    have HF := Lib.hid (HNO.out (by unfold joinOk; simp [hn]))
    obtain ⟨wz, hz⟩ : ∃ wz, wz = ((((((w8.setCell ⟨q, 0, none⟩ (.int .i64 0)).setCell ⟨q, 1, none⟩ (.string ⟨#[]⟩)).setCell ⟨q, 2, none⟩ (.bool false)).setCell ⟨q, 3, none⟩ (.string ⟨#[]⟩)).setCell ⟨q, 4, none⟩ (.bool false)).setCell ⟨q, 5, none⟩ (.string ⟨#[]⟩)) := ⟨_, rfl⟩
    have hqz : Box wz q 27 #[.int .i64 0, .string ⟨#[]⟩, .bool false, .string ⟨#[]⟩, .bool false, .string ⟨#[]⟩] := by rw [hz]; exact (Box.set (Box.set (Box.set (Box.set (Box.set (Box.set Q8.out 0 _) 1 _) 2 _) 3 _) 4 _) 5 _)
    have hbz : Below w.heap.size w wz := by rw [hz]; exact ((((((HB8.out.setCell (p := ⟨q, 0, none⟩) HQ.out _).setCell (p := ⟨q, 1, none⟩) HQ.out _).setCell (p := ⟨q, 2, none⟩) HQ.out _).setCell (p := ⟨q, 3, none⟩) HQ.out _).setCell (p := ⟨q, 4, none⟩) HQ.out _).setCell (p := ⟨q, 5, none⟩) HQ.out _)
    obtain ⟨p0, p1, p2, p3, p4, p5⟩ : _ ∧ _ ∧ _ ∧ _ ∧ _ ∧ _ := ⟨hqz.cell 0 rfl, hqz.cell 1 rfl, hqz.cell 2 rfl, hqz.cell 3 rfl, hqz.cell 4 rfl, hqz.cell 5 rfl⟩
    have HBZ := Lib.hid hbz
    clear hqz hbz
    go_wp2
    rw [← hz]
    exact bodyPost_ret (v := .tuple #[.agg #[.int .i64 0, .string ⟨#[]⟩, .bool false, .string ⟨#[]⟩, .bool false, .string ⟨#[]⟩], .int .i64 1]) (by simp [results, Try.results15, go_sem, p0, p1, p2, p3, p4, p5]) rfl ⟨by rw [HF.out.1, HF.out.2]; rfl, HBZ.out⟩
  by_cases ha : a = b2
  case neg =>
    have HF := Lib.hid (HNO.out (by unfold joinOk; simp [ha]))
    have ha' : ¬ a.toList = b2.toList := fun e => ha (tl_inj e)
    have ha2 : decide (a.toList = b2.toList) = false := decide_eq_false ha'
    have ha4 : (a.toList == b2.toList) = false := beq_eq_false_iff_ne.2 ha'
    subst hk hn
    obtain ⟨wz, hz⟩ : ∃ wz, wz = ((((((w8.setCell ⟨q, 0, none⟩ (.int .i64 0)).setCell ⟨q, 1, none⟩ (.string ⟨#[]⟩)).setCell ⟨q, 2, none⟩ (.bool false)).setCell ⟨q, 3, none⟩ (.string ⟨#[]⟩)).setCell ⟨q, 4, none⟩ (.bool false)).setCell ⟨q, 5, none⟩ (.string ⟨#[]⟩)) := ⟨_, rfl⟩
    have hqz : Box wz q 27 #[.int .i64 0, .string ⟨#[]⟩, .bool false, .string ⟨#[]⟩, .bool false, .string ⟨#[]⟩] := by rw [hz]; exact (Box.set (Box.set (Box.set (Box.set (Box.set (Box.set Q8.out 0 _) 1 _) 2 _) 3 _) 4 _) 5 _)
    have hbz : Below w.heap.size w wz := by rw [hz]; exact ((((((HB8.out.setCell (p := ⟨q, 0, none⟩) HQ.out _).setCell (p := ⟨q, 1, none⟩) HQ.out _).setCell (p := ⟨q, 2, none⟩) HQ.out _).setCell (p := ⟨q, 3, none⟩) HQ.out _).setCell (p := ⟨q, 4, none⟩) HQ.out _).setCell (p := ⟨q, 5, none⟩) HQ.out _)
    obtain ⟨p0, p1, p2, p3, p4, p5⟩ : _ ∧ _ ∧ _ ∧ _ ∧ _ ∧ _ := ⟨hqz.cell 0 rfl, hqz.cell 1 rfl, hqz.cell 2 rfl, hqz.cell 3 rfl, hqz.cell 4 rfl, hqz.cell 5 rfl⟩
    have HBZ := Lib.hid hbz
    clear hqz hbz
    go_wp2
    rw [← hz]
    exact bodyPost_ret (v := .tuple #[.agg #[.int .i64 0, .string ⟨#[]⟩, .bool false, .string ⟨#[]⟩, .bool false, .string ⟨#[]⟩], .int .i64 1]) (by simp [results, Try.results15, go_sem, p0, p1, p2, p3, p4, p5]) rfl ⟨by rw [HF.out.1, HF.out.2]; rfl, HBZ.out⟩
  have hok : joinOk ⟨s, k, m, b, n, a⟩ ⟨s2, k2, m2, b2, n2, a2⟩ = true := by unfold joinOk; rw [HMA.out, HMB.out, decide_eq_true hk, decide_eq_true (show s < s2 by omega), decide_eq_true ⟨hn, ha⟩]; rfl
  have HOK := Lib.hid (HYES.out hok)
  clear hok
  subst hk
  subst hn
  subst ha
  cases m
  · cases n2
    · have HF := Lib.hid (HOK.out.1 rfl)
      obtain ⟨wz, hz⟩ : ∃ wz, wz = ((((((w8.setCell ⟨q, 0, none⟩ (.int .i64 0)).setCell ⟨q, 1, none⟩ (.string ⟨#[]⟩)).setCell ⟨q, 2, none⟩ (.bool false)).setCell ⟨q, 3, none⟩ (.string ⟨#[]⟩)).setCell ⟨q, 4, none⟩ (.bool false)).setCell ⟨q, 5, none⟩ (.string ⟨#[]⟩)) := ⟨_, rfl⟩
      have hqz : Box wz q 27 #[.int .i64 0, .string ⟨#[]⟩, .bool false, .string ⟨#[]⟩, .bool false, .string ⟨#[]⟩] := by rw [hz]; exact (Box.set (Box.set (Box.set (Box.set (Box.set (Box.set Q8.out 0 _) 1 _) 2 _) 3 _) 4 _) 5 _)
      have hbz : Below w.heap.size w wz := by rw [hz]; exact ((((((HB8.out.setCell (p := ⟨q, 0, none⟩) HQ.out _).setCell (p := ⟨q, 1, none⟩) HQ.out _).setCell (p := ⟨q, 2, none⟩) HQ.out _).setCell (p := ⟨q, 3, none⟩) HQ.out _).setCell (p := ⟨q, 4, none⟩) HQ.out _).setCell (p := ⟨q, 5, none⟩) HQ.out _)
      obtain ⟨p0, p1, p2, p3, p4, p5⟩ : _ ∧ _ ∧ _ ∧ _ ∧ _ ∧ _ := ⟨hqz.cell 0 rfl, hqz.cell 1 rfl, hqz.cell 2 rfl, hqz.cell 3 rfl, hqz.cell 4 rfl, hqz.cell 5 rfl⟩
      have HBZ := Lib.hid hbz
      clear hqz hbz
      go_wp2
      rw [← hz]
      exact bodyPost_ret (v := .tuple #[.agg #[.int .i64 0, .string ⟨#[]⟩, .bool false, .string ⟨#[]⟩, .bool false, .string ⟨#[]⟩], .int .i64 3]) (by simp [results, Try.results15, go_sem, p0, p1, p2, p3, p4, p5]) rfl ⟨by rw [HF.out.1, HF.out.2]; rfl, HBZ.out⟩
    · have HF := Lib.hid (HOK.out.2 rfl)
      obtain ⟨wz, hz⟩ : ∃ wz, wz = ((((((w8.setCell ⟨q, 0, none⟩ (.int .i64 s2)).setCell ⟨q, 1, none⟩ (.string k)).setCell ⟨q, 2, none⟩ (.bool false)).setCell ⟨q, 3, none⟩ (.string b)).setCell ⟨q, 4, none⟩ (.bool true)).setCell ⟨q, 5, none⟩ (.string a2)) := ⟨_, rfl⟩
      have hqz : Box wz q 27 #[.int .i64 s2, .string k, .bool false, .string b, .bool true, .string a2] := by rw [hz]; exact (Box.set (Box.set (Box.set (Box.set (Box.set (Box.set Q8.out 0 _) 1 _) 2 _) 3 _) 4 _) 5 _)
      have hbz : Below w.heap.size w wz := by rw [hz]; exact ((((((HB8.out.setCell (p := ⟨q, 0, none⟩) HQ.out _).setCell (p := ⟨q, 1, none⟩) HQ.out _).setCell (p := ⟨q, 2, none⟩) HQ.out _).setCell (p := ⟨q, 3, none⟩) HQ.out _).setCell (p := ⟨q, 4, none⟩) HQ.out _).setCell (p := ⟨q, 5, none⟩) HQ.out _)
      obtain ⟨p0, p1, p2, p3, p4, p5⟩ : _ ∧ _ ∧ _ ∧ _ ∧ _ ∧ _ := ⟨hqz.cell 0 rfl, hqz.cell 1 rfl, hqz.cell 2 rfl, hqz.cell 3 rfl, hqz.cell 4 rfl, hqz.cell 5 rfl⟩
      have HBZ := Lib.hid hbz
      clear hqz hbz
      go_wp2
      rw [← hz]
      exact bodyPost_ret (v := .tuple #[.agg #[.int .i64 s2, .string k, .bool false, .string b, .bool true, .string a2], .int .i64 0]) (by simp [results, Try.results15, go_sem, p0, p1, p2, p3, p4, p5]) rfl ⟨by rw [HF.out.1, HF.out.2]; rfl, HBZ.out⟩
  · have HF := Lib.hid (HOK.out.2 rfl)
    obtain ⟨wz, hz⟩ : ∃ wz, wz = ((((((w8.setCell ⟨q, 0, none⟩ (.int .i64 s2)).setCell ⟨q, 1, none⟩ (.string k)).setCell ⟨q, 2, none⟩ (.bool true)).setCell ⟨q, 3, none⟩ (.string b)).setCell ⟨q, 4, none⟩ (.bool n2)).setCell ⟨q, 5, none⟩ (.string a2)) := ⟨_, rfl⟩
    have hqz : Box wz q 27 #[.int .i64 s2, .string k, .bool true, .string b, .bool n2, .string a2] := by rw [hz]; exact (Box.set (Box.set (Box.set (Box.set (Box.set (Box.set Q8.out 0 _) 1 _) 2 _) 3 _) 4 _) 5 _)
    have hbz : Below w.heap.size w wz := by rw [hz]; exact ((((((HB8.out.setCell (p := ⟨q, 0, none⟩) HQ.out _).setCell (p := ⟨q, 1, none⟩) HQ.out _).setCell (p := ⟨q, 2, none⟩) HQ.out _).setCell (p := ⟨q, 3, none⟩) HQ.out _).setCell (p := ⟨q, 4, none⟩) HQ.out _).setCell (p := ⟨q, 5, none⟩) HQ.out _)
    obtain ⟨p0, p1, p2, p3, p4, p5⟩ : _ ∧ _ ∧ _ ∧ _ ∧ _ ∧ _ := ⟨hqz.cell 0 rfl, hqz.cell 1 rfl, hqz.cell 2 rfl, hqz.cell 3 rfl, hqz.cell 4 rfl, hqz.cell 5 rfl⟩
    have HBZ := Lib.hid hbz
    clear hqz hbz
    go_wp2
    rw [← hz]
    exact bodyPost_ret (v := .tuple #[.agg #[.int .i64 s2, .string k, .bool true, .string b, .bool n2, .string a2], .int .i64 0]) (by simp [results, Try.results15, go_sem, p0, p1, p2, p3, p4, p5]) rfl ⟨by rw [HF.out.1, HF.out.2]; rfl, HBZ.out⟩

end Go.Proofs.Ythhbkgeoigdjaaa
