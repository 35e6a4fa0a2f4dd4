/- The walk of turned. -/
import Derived.Test.YtgpjbajfkagdbaaSml
import Derived.Test.YtgpjbajfkagdbaaPh
set_option linter.unusedVariables false
set_option linter.unusedSimpArgs false
namespace Go.Proofs.Ytgpjbajfkagdbaa
open Go.RowKit

def TrnV (s : Int) (k : ByteArray) (m : Bool) (b : ByteArray) (n : Bool) (a : ByteArray) (gc : Nat) (p t : Nat) (v : Value) (w : World) : Prop :=
  match t with
  | 3 => v = .pointer (some ⟨gc, 0, none⟩)
  | 4 => v = .int .i64 s
  | 5 => v = .pointer (some ⟨gc, 1, none⟩)
  | 6 => v = .string k
  | 7 => v = .agg #[.int .i64 s, .string k, .bool m, .string b, .bool n, .string a]
  | 8 => v = .agg #[.bool n, .string a]
  | 9 => v = .agg #[.int .i64 s, .string k, .bool m, .string b, .bool n, .string a]
  | 10 => v = .agg #[.bool m, .string b]
  | 11 => v = .agg #[.int .i64 s, .string k, .bool n, .string a, .bool m, .string b]
  | _ => True
theorem TrnV.on {s : Int} {k : ByteArray} {m : Bool} {b : ByteArray} {n : Bool} {a : ByteArray} {gc : Nat} {p t : Nat} {v : Value} {w w' : World} (h : TrnV s k m b n a gc p t v w) (hb : Below w.heap.size w w') : TrnV s k m b n a gc p t v w' := by
  unfold TrnV at *
  split at h <;> first | exact h | exact NewB.on h hb

set_option maxRecDepth 100000 in
set_option maxHeartbeats 2000000 in
theorem turned_any (s : Int) (k : ByteArray) (m : Bool) (b : ByteArray) (n : Bool) (a : ByteArray) (w : World) :
    Calls Try.prog 51 #[chV s k m b n a] w fun e w' => e = .returned (chV s k n a m b) ∧ Below w.heap.size w w' := by
  unfold chV
  obtain ⟨w1, hw1⟩ : ∃ w1, w1 = w.alloc (.cells #[.int .i64 s, .string k, .bool m, .string b, .bool n, .string a] 55) := ⟨_, rfl⟩
  obtain ⟨w2, hw2⟩ : ∃ w2, w2 = w1.alloc (.cells #[.int .i64 0, .string ⟨#[]⟩, .bool false, .string ⟨#[]⟩, .bool false, .string ⟨#[]⟩] 55) := ⟨_, rfl⟩
  obtain ⟨gc, hg⟩ : ∃ q, q = w.heap.size := ⟨_, rfl⟩
  obtain ⟨q, hq⟩ : ∃ q, q = w1.heap.size := ⟨_, rfl⟩
  have e4 : gc + 1 = q := by rw [hq, hw1, hg]; simp
  have hbx : Box w2 gc 55 #[.int .i64 s, .string k, .bool m, .string b, .bool n, .string a] := by rw [hw2]; exact Box.push (by rw [hw1]; exact Box.at_ w _ _ hg) _
  have Q2 := Lib.hid (show Box w2 q 55 #[.int .i64 0, .string ⟨#[]⟩, .bool false, .string ⟨#[]⟩, .bool false, .string ⟨#[]⟩] from by rw [hw2]; exact Box.at_ w1 _ _ hq)
  have hb2 : Below w.heap.size w w2 := by rw [hw2, hw1]; exact ((Below.refl _ _).alloc (Nat.le_refl _) _).alloc (by simp) _
  have HB2 := Lib.hid hb2
  have HQ := Lib.hid (show w.heap.size ≤ q from by omega)
  have HX := Lib.hid (show ∀ wx, Below w2.heap.size w2 wx → _ ∧ _ ∧ _ ∧ _ ∧ _ ∧ _ from fun wx hh => let hx := hbx.on hh; ⟨hx.cell 0 rfl, hx.cell 1 rfl, hx.cell 2 rfl, hx.cell 3 rfl, hx.cell 4 rfl, hx.cell 5 rfl⟩)
  clear hb2 hbx
  go_enter Try.func51, Try.ntmps51
  go_upto_region 1 with fail
  rw [← hg, e4, ← hw1, ← hw2]
  clear hg e4 hw1 hw2 hq
  refine wp_region_phase 14 [3, 4, 5, 6, 7, 8, 9, 10, 11] (by kernel_rfl) [9] [] (fun _ _ => True) 1 rfl (by kernel_rfl) (ResS w2 q 55 #[.int .i64 s, .string k, .bool n, .string a, .bool m, .string b]) (fun wa wb => Below wa.heap.size wa wb) (TrnV s k m b n a gc) (by kernel_rfl) (fun _ wa wb h1 h2 => h2.on h1) (fun _ t v wa wb h1 h2 => h2.on h1) (fun _ _ _ _ _ _ _ => trivial) (ResS.start _ _ _ _) trivial (phase1 ?_ ?_) ?_
  · refine Steps1.cons (fun _ ax wx hS _ hG => ?_) (Steps1.cons (fun _ ax wx hS _ hG => ?_) (Steps1.cons (fun _ ax wx hS _ hG => ?_) (Steps1.cons (fun _ ax wx hS _ hG => ?_) (Steps1.cons (fun _ ax wx hS _ hG => ?_) (Steps1.cons (fun _ ax wx hS _ hG => ?_) (Steps1.cons (fun _ ax wx hS _ hG => ?_) (Steps1.cons (fun _ ax wx hS _ hG => ?_) (Steps1.cons (fun _ ax wx hS _ hG => ?_) (Steps1.cons (fun _ ax wx hS _ hG => ?_) Steps1.nil)))))))))
    · have q1 := hG.old 1 (by kernel_rfl) (by kernel_rfl)
      refine step_slot rfl rfl rfl (step_value (v := .pointer (some ⟨gc, 0, none⟩)) (w' := wx) rfl rfl ?_ (Below.refl _ _) (fun d hd => by cases hd; exact rfl))
      go_simp
    · obtain ⟨_, q3, rfl⟩ := hG.new 3 (by kernel_rfl) (by kernel_rfl)
      obtain ⟨z0, z1, z2, z3, z4, z5⟩ := HX.out wx (hS.fresh rfl)
      refine step_slot rfl rfl rfl (step_value (v := .int .i64 s) (w' := wx) rfl rfl ?_ (Below.refl _ _) (fun d hd => by cases hd; exact rfl))
      go_simp
    · have q1 := hG.old 1 (by kernel_rfl) (by kernel_rfl)
      refine step_slot rfl rfl rfl (step_value (v := .pointer (some ⟨gc, 1, none⟩)) (w' := wx) rfl rfl ?_ (Below.refl _ _) (fun d hd => by cases hd; exact rfl))
      go_simp
    · obtain ⟨_, q5, rfl⟩ := hG.new 5 (by kernel_rfl) (by kernel_rfl)
      obtain ⟨z0, z1, z2, z3, z4, z5⟩ := HX.out wx (hS.fresh rfl)
      refine step_slot rfl rfl rfl (step_value (v := .string k) (w' := wx) rfl rfl ?_ (Below.refl _ _) (fun d hd => by cases hd; exact rfl))
      go_simp
    · have q1 := hG.old 1 (by kernel_rfl) (by kernel_rfl)
      obtain ⟨z0, z1, z2, z3, z4, z5⟩ := HX.out wx (hS.fresh rfl)
      refine step_slot rfl rfl rfl (step_value (v := .agg #[.int .i64 s, .string k, .bool m, .string b, .bool n, .string a]) (w' := wx) rfl rfl ?_ (Below.refl _ _) (fun d hd => by cases hd; exact rfl))
      go_simp
    · obtain ⟨_, q7, rfl⟩ := hG.new 7 (by kernel_rfl) (by kernel_rfl)
      refine step_slot rfl rfl rfl (step_call (w1 := wx) (f := 61) (args := #[.agg #[.int .i64 s, .string k, .bool m, .string b, .bool n, .string a]]) rfl rfl ?_ ((behind_any s k m b n a wx).mono ?_))
      · skip
        go_simp
      · rintro e w' ⟨rfl, hq⟩
        exact ⟨_, rfl, hq, fun d hd => by cases hd; exact rfl⟩
    · have q1 := hG.old 1 (by kernel_rfl) (by kernel_rfl)
      obtain ⟨z0, z1, z2, z3, z4, z5⟩ := HX.out wx (hS.fresh rfl)
      refine step_slot rfl rfl rfl (step_value (v := .agg #[.int .i64 s, .string k, .bool m, .string b, .bool n, .string a]) (w' := wx) rfl rfl ?_ (Below.refl _ _) (fun d hd => by cases hd; exact rfl))
      go_simp
    · obtain ⟨_, q9, rfl⟩ := hG.new 9 (by kernel_rfl) (by kernel_rfl)
      refine step_slot rfl rfl rfl (step_call (w1 := wx) (f := 60) (args := #[.agg #[.int .i64 s, .string k, .bool m, .string b, .bool n, .string a]]) rfl rfl ?_ ((ahead_any s k m b n a wx).mono ?_))
      · skip
        go_simp
      · rintro e w' ⟨rfl, hq⟩
        exact ⟨_, rfl, hq, fun d hd => by cases hd; exact rfl⟩
    · obtain ⟨_, q4, rfl⟩ := hG.new 4 (by kernel_rfl) (by kernel_rfl)
      obtain ⟨_, q6, rfl⟩ := hG.new 6 (by kernel_rfl) (by kernel_rfl)
      obtain ⟨_, q8, rfl⟩ := hG.new 8 (by kernel_rfl) (by kernel_rfl)
      obtain ⟨_, q10, rfl⟩ := hG.new 10 (by kernel_rfl) (by kernel_rfl)
      refine step_slot rfl rfl rfl (step_call (w1 := wx) (f := 67) (args := #[.int .i64 s, .string k, .agg #[.bool n, .string a], .agg #[.bool m, .string b]]) rfl rfl ?_ ((between_any s k n a m b wx).mono ?_))
      · skip
        go_simp
      · rintro e w' ⟨rfl, hq⟩
        exact ⟨_, rfl, hq, fun d hd => by cases hd; exact rfl⟩
    · have q2 := hG.old 2 (by kernel_rfl) (by kernel_rfl)
      obtain ⟨_, q11, rfl⟩ := hG.new 11 (by kernel_rfl) (by kernel_rfl)
      have hbq := Q2.out.on (hS.fresh rfl)
      have f0 := Box.free hbq 0
      have m0 := Box.cell hbq 0 rfl
      have f1 := Box.free hbq 1
      have m1 := Box.cell hbq 1 rfl
      have f2 := Box.free hbq 2
      have m2 := Box.cell hbq 2 rfl
      have f3 := Box.free hbq 3
      have m3 := Box.cell hbq 3 rfl
      have f4 := Box.free hbq 4
      have m4 := Box.cell hbq 4 rfl
      have f5 := Box.free hbq 5
      have m5 := Box.cell hbq 5 rfl
      skip
      refine step_store (w' := ((((((wx.setCell ⟨q, 0, none⟩ (.int .i64 s)).setCell ⟨q, 1, none⟩ (.string k)).setCell ⟨q, 2, none⟩ (.bool n)).setCell ⟨q, 3, none⟩ (.string a)).setCell ⟨q, 4, none⟩ (.bool m)).setCell ⟨q, 5, none⟩ (.string b))) rfl rfl rfl rfl ?_ (⟨(Ex.trans (Ex.trans (Ex.trans (Ex.trans (Ex.trans (Ex.trans hS.ex (Ex.set (g := q) (i := 0) _ (.int .i64 s))) (Ex.set (g := q) (i := 1) _ (.string k))) (Ex.set (g := q) (i := 2) _ (.bool n))) (Ex.set (g := q) (i := 3) _ (.string a))) (Ex.set (g := q) (i := 4) _ (.bool m))) (Ex.set (g := q) (i := 5) _ (.string b))), fun h => absurd h (by decide), fun _ => (Box.set (Box.set (Box.set (Box.set (Box.set (Box.set hbq 0 (.int .i64 s)) 1 (.string k)) 2 (.bool n)) 3 (.string a)) 4 (.bool m)) 5 (.string b))⟩) trivial ?_
      · clear hbq hS
        go_simp
      · intro t u _ hu hV
        unfold TrnV at *
        split at hV <;> exact hV
  · refine Steps1.cons (fun hin _ _ _ _ _ => out (by kernel_rfl) hin) (Steps1.cons (fun hin _ _ _ _ _ => out (by kernel_rfl) hin) (Steps1.cons (fun hin _ _ _ _ _ => out (by kernel_rfl) hin) (Steps1.cons (fun hin _ _ _ _ _ => out (by kernel_rfl) hin) (Steps1.cons (fun hin _ _ _ _ _ => out (by kernel_rfl) hin) (Steps1.cons (fun hin _ _ _ _ _ => out (by kernel_rfl) hin) (Steps1.cons (fun hin _ _ _ _ _ => out (by kernel_rfl) hin) (Steps1.cons (fun hin _ _ _ _ _ => out (by kernel_rfl) hin) (Steps1.cons (fun hin _ _ _ _ _ => out (by kernel_rfl) hin) (Steps1.cons (fun hin _ _ _ _ _ => out (by kernel_rfl) hin) Steps1.nil)))))))))
  intro fv w8 hS8 _ hV8
  simp only [puts, Act.put, List.setIfInBounds_toArray, List.set_cons_succ, List.set_cons_zero]
  clear hV8
  obtain ⟨p0, p1, p2, p3, p4, p5⟩ : _ ∧ _ ∧ _ ∧ _ ∧ _ ∧ _ := let hx := hS8.done rfl; ⟨hx.cell 0 rfl, hx.cell 1 rfl, hx.cell 2 rfl, hx.cell 3 rfl, hx.cell 4 rfl, hx.cell 5 rfl⟩
  have hb8 := Ex.below HB2.out hS8.ex HQ.out HB2.out.size
  clear hS8
  go_wp2
  exact bodyPost_ret (v := .agg #[.int .i64 s, .string k, .bool n, .string a, .bool m, .string b]) (by simp [results, Try.results51, go_sem, p0, p1, p2, p3, p4, p5]) rfl ⟨rfl, hb8⟩

end Go.Proofs.Ytgpjbajfkagdbaa
