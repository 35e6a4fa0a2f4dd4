/- The walks of change's found, between, ahead, behind, noteOf. -/
import Derived.Test.YtgpjbajfkagdbaaFN
import Derived.Test.YtgpjbajfkagdbaaCv
import Derived.Test.YtgpjbajfkagdbaaCD
set_option linter.unusedVariables false
set_option linter.unusedSimpArgs false
namespace Go.Proofs.Ytgpjbajfkagdbaa
open Go.RowKit Go.Sort Go.Lib

/-- A change, as a value. -/
def Ch.v (x : Ch) : Value := chV x.seq x.key x.had x.before x.has x.after
/-- One side of a change, as the program has it. -/
def sideV (s : Has) : Value := .agg #[.bool s.2, .string s.1]

set_option maxHeartbeats 1000000 in
set_option maxRecDepth 100000 in
theorem found_any (A : Option Addr) (c : Nat) (l : List Pr) (key : ByteArray) (w : World) (hA : Prs w w.heap.size A l) (hn : l.length ≤ 1000000) (hs : Sorted l) :
    Calls Try.prog 59 #[.slice A l.length c, .string key] w fun e w' => e = .returned (sideV (hasOf (getL l key))) ∧ Below w.heap.size w w' := by
  have hf := fun w hA => searchG A c l key w hA hn hs
  cases hg : getL l key with
  | none =>
    have e2 : hasL l key = false := by unfold hasL; rw [hg]; rfl
    rw [e2] at hf
    have hc := hf (w.alloc (.cells #[.bool false, .string ⟨#[]⟩] 104)) (hA.on ((Below.refl _ w).alloc (Nat.le_refl _) _))
    generalize lessL l key = Z at *
    clear hA e2 hs hg hf
    obtain ⟨n, hl⟩ : ∃ n, l.length = n := ⟨_, rfl⟩
    rw [hl] at hc ⊢
    clear hl
    go_enter Try.func59, Try.ntmps59
    go_wp2_with fail
    refine hc.mono ?_
    clear hc
    rintro e w1 ⟨rfl, hb1⟩
    have hx := (Box.fresh w 104 #[.bool false, .string ⟨#[]⟩]).on hb1
    have f0 := hx.free 0
    have f1 := hx.free 1
    obtain ⟨c0, c1⟩ : _ ∧ _ := ⟨hx.cell 0 rfl, hx.cell 1 rfl⟩
    have HB := Lib.hid (below1 hb1)
    clear hx hb1
    go_wp2
    exact bodyPost_ret (v := .agg #[.bool false, .string ⟨#[]⟩]) (by simp [results, Try.results59, go_sem, c0, c1]) rfl ⟨rfl, (HB.out.setCell (by simp) _).setCell (by simp) _⟩
  | some v =>
    have e2 : hasL l key = true := by unfold hasL; rw [hg]; rfl
    obtain ⟨hz, hz2, _⟩ := less_there hs key v hg
    rw [e2] at hf
    have hc := hf (w.alloc (.cells #[.bool false, .string ⟨#[]⟩] 104)) (hA.on ((Below.refl _ w).alloc (Nat.le_refl _) _))
    have HA := Lib.hid hA
    obtain ⟨Z, hZ⟩ : ∃ Z, Z = lessL l key := ⟨_, rfl⟩
    have HZ2 := Lib.hid (show ∃ h : Z < l.length, l[Z] = ⟨key, v⟩ from by subst hZ; exact ⟨hz, hz2⟩)
    rw [← hZ] at hc
    clear hA e2 hs hg hf hz hz2 hZ
    obtain ⟨n, hl⟩ : ∃ n, l.length = n := ⟨_, rfl⟩
    have hzn : Z < n := by rw [← hl]; exact HZ2.out.1
    rw [hl] at hc hn ⊢
    have HL := Lib.hid hl
    clear hl
    go_enter Try.func59, Try.ntmps59
    go_wp2_with fail
    refine hc.mono ?_
    clear hc
    rintro e w1 ⟨rfl, hb1⟩
    have hx := (Box.fresh w 104 #[.bool false, .string ⟨#[]⟩]).on hb1
    have f0 := hx.free 0
    have f1 := hx.free 1
    obtain ⟨c0, c1⟩ : _ ∧ _ := ⟨hx.cell 0 rfl, hx.cell 1 rfl⟩
    have hb := below1 hb1
    obtain ⟨ad, rfl, hab, hca⟩ := (HA.out.below hb).seeP (by rw [HL.out]; omega)
    obtain ⟨d1, d2⟩ := hca Z HZ2.out.1
    rw [HZ2.out.2] at d1 d2
    simp only at d1 d2
    have HB := Lib.hid hb
    clear hx hb1 hca hb
    go_wp2
    exact bodyPost_ret (v := .agg #[.bool true, .string v]) (by simp [results, Try.results59, go_sem, c0, c1]) rfl ⟨rfl, (HB.out.setCell (by simp) _).setCell (by simp) _⟩

set_option maxHeartbeats 1000000 in
set_option maxRecDepth 100000 in
theorem behind_any (s : Int) (k : ByteArray) (h : Bool) (b : ByteArray) (g : Bool) (a : ByteArray) (w : World) :
    Calls Try.prog 61 #[chV s k h b g a] w fun e w' => e = .returned (.agg #[.bool g, .string a]) ∧ Below w.heap.size w w' := by
  unfold chV
  go_enter Try.func61, Try.ntmps61
  go_wp2
  exact bodyPost_ret (v := .agg #[.bool g, .string a]) (by simp [results, Try.results61, go_sem]) rfl ⟨rfl, by (repeat (first | exact Below.refl _ _ | refine Below.setCell ?_ (by simp) _ | refine Below.alloc ?_ (by simp <;> omega) _))⟩

set_option maxHeartbeats 1000000 in
set_option maxRecDepth 100000 in
theorem ahead_any (s : Int) (k : ByteArray) (h : Bool) (b : ByteArray) (g : Bool) (a : ByteArray) (w : World) :
    Calls Try.prog 60 #[chV s k h b g a] w fun e w' => e = .returned (.agg #[.bool h, .string b]) ∧ Below w.heap.size w w' := by
  unfold chV
  go_enter Try.func60, Try.ntmps60
  go_wp2
  exact bodyPost_ret (v := .agg #[.bool h, .string b]) (by simp [results, Try.results60, go_sem]) rfl ⟨rfl, by (repeat (first | exact Below.refl _ _ | refine Below.setCell ?_ (by simp) _ | refine Below.alloc ?_ (by simp <;> omega) _))⟩

set_option maxHeartbeats 1000000 in
set_option maxRecDepth 100000 in
theorem between_any (s : Int) (k : ByteArray) (h : Bool) (b : ByteArray) (g : Bool) (a : ByteArray) (w : World) :
    Calls Try.prog 67 #[.int .i64 s, .string k, .agg #[.bool h, .string b], .agg #[.bool g, .string a]] w fun e w' => e = .returned (chV s k h b g a) ∧ Below w.heap.size w w' := by
  unfold chV
  go_enter Try.func67, Try.ntmps67
  go_wp2
  exact bodyPost_ret (v := .agg #[.int .i64 s, .string k, .bool h, .string b, .bool g, .string a]) (by simp [results, Try.results67, go_sem]) rfl ⟨rfl, by (repeat (first | exact Below.refl _ _ | refine Below.setCell ?_ (by simp) _ | refine Below.alloc ?_ (by simp <;> omega) _))⟩

set_option maxHeartbeats 1000000 in
set_option maxRecDepth 100000 in
theorem note_of (s : Int) (k : ByteArray) (h : Bool) (b : ByteArray) (g : Bool) (a : ByteArray) (w : World) :
    Calls Try.prog 62 #[chV s k h b g a] w fun e w' => e = .returned (.agg (noteC ⟨s, k, h, b, g, a⟩).cells.toArray) ∧ Below w.heap.size w w' := by
  unfold chV noteC
  cases g with
  | false =>
    go_enter Try.func62, Try.ntmps62
    go_wp2
    exact bodyPost_ret (v := .agg #[.int .i64 2, .string k, .string ⟨#[]⟩, .int .u64 0]) (by simp [results, Try.results62, go_sem]) rfl ⟨rfl, by (repeat (first | exact Below.refl _ _ | refine Below.setCell ?_ (by simp) _ | refine Below.alloc ?_ (by simp <;> omega) _))⟩
  | true =>
    go_enter Try.func62, Try.ntmps62
    go_wp2
    exact bodyPost_ret (v := .agg #[.int .i64 1, .string k, .string a, .int .u64 0]) (by simp [results, Try.results62, go_sem]) rfl ⟨rfl, by (repeat (first | exact Below.refl _ _ | refine Below.setCell ?_ (by simp) _ | refine Below.alloc ?_ (by simp <;> omega) _))⟩

end Go.Proofs.Ytgpjbajfkagdbaa
