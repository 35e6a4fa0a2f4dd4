/- The walks of rightGen, rightPlace, Need and headOf. -/
import Derived.Test.YtdgjnjhmjgdhnaaDoorJp
import Derived.Test.YtdgjnjhmjgdhnaaDoorPk
import Derived.Test.YtdgjnjhmjgdhnaaDoorBox
import Derived.Lib.MinMaxS
namespace Go.Proofs.YtdgjnjhmjgdhnaaDoor
open Go.RowKit

def genB (g : Int) : Bool := decide (1 ≤ g) && decide (g ≤ 2147483647)
def plcB (a : Int) : Bool := decide (0 ≤ a) && decide (a ≤ 128)
theorem gen_parts {g : Int} (h : genB g = true) : ∃ n : Nat, g = n ∧ 1 ≤ n ∧ n ≤ 2147483647 := by
  unfold genB at h
  simp only [Bool.and_eq_true, decide_eq_true_eq] at h
  exact ⟨g.toNat, by omega, by omega, by omega⟩
theorem gen_of {n : Nat} (h1 : 1 ≤ n) (h2 : n ≤ 2147483647) : genB n = true := by
  unfold genB
  rw [decide_eq_true (by omega), decide_eq_true (by omega)]
  rfl
theorem plc_parts {a : Int} (h : plcB a = true) : ∃ n : Nat, a = n ∧ n ≤ 128 := by
  unfold plcB at h
  simp only [Bool.and_eq_true, decide_eq_true_eq] at h
  exact ⟨a.toNat, by omega, by omega⟩
theorem plc_of {n : Nat} (h : n ≤ 128) : plcB n = true := by
  unfold plcB
  rw [decide_eq_true (by omega), decide_eq_true (by omega)]
  rfl

set_option maxRecDepth 100000 in
set_option maxHeartbeats 400000 in
theorem rgen_any (g : Int) (w : World) :
    Calls Tryd.prog 27 #[.int .i64 g] w fun e w' => e = .returned (.bool (genB g)) ∧ w = w' := by
  unfold genB
  by_cases h1 : 1 ≤ g
  · by_cases h2 : g ≤ 2147483647
    · rw [decide_eq_true h1, decide_eq_true h2]
      go_enter Tryd.func27, Tryd.ntmps27
      go_wp2
      go_ret
      exact ⟨rfl, rfl⟩
    · rw [decide_eq_true h1, decide_eq_false h2]
      go_enter Tryd.func27, Tryd.ntmps27
      go_wp2
      go_ret
      exact ⟨rfl, rfl⟩
  · rw [decide_eq_false h1]
    go_enter Tryd.func27, Tryd.ntmps27
    go_wp2
    go_ret
    exact ⟨rfl, rfl⟩

set_option maxRecDepth 100000 in
set_option maxHeartbeats 400000 in
theorem rplc_any (a : Int) (w : World) :
    Calls Tryd.prog 28 #[.int .i64 a] w fun e w' => e = .returned (.bool (plcB a)) ∧ w = w' := by
  unfold plcB
  by_cases h1 : 0 ≤ a
  · by_cases h2 : a ≤ 128
    · rw [decide_eq_true h1, decide_eq_true h2]
      go_enter Tryd.func28, Tryd.ntmps28
      go_wp2
      go_ret
      exact ⟨rfl, rfl⟩
    · rw [decide_eq_true h1, decide_eq_false h2]
      go_enter Tryd.func28, Tryd.ntmps28
      go_wp2
      go_ret
      exact ⟨rfl, rfl⟩
  · rw [decide_eq_false h1]
    go_enter Tryd.func28, Tryd.ntmps28
    go_wp2
    go_ret
    exact ⟨rfl, rfl⟩

set_option maxRecDepth 100000 in
theorem ret_i64 {a b : Int} (h : a = b) : Ending.returned (.int .i64 a) = .returned (.int .i64 b) := by rw [h]

set_option maxRecDepth 100000 in
set_option maxHeartbeats 400000 in
theorem needj_in (n : Nat) (w : World) (h : n ≤ 1000) :
    Calls Tryd.prog 16 #[.int .i64 n] w fun e w' => e = .returned (.int .i64 (needJ n)) ∧ w = w' := by
  have hd : decide ((1000 : Int) < n) = false := decide_eq_false (by omega)
  have hw1 : IntKind.i64.wrap ((n : Int) + 24) = n + 24 := IntWalk.i64_in _ (by omega)
  have hw2 : IntKind.i64.wrap ((n : Int) + 24 - 1) = n + 24 - 1 := IntWalk.i64_in _ (by omega)
  go_enter Tryd.func16, Tryd.ntmps16
  go_wp2
  go_ret
  refine ⟨ret_i64 ?_, rfl⟩
  unfold needJ
  omega

set_option maxRecDepth 100000 in
set_option maxHeartbeats 400000 in
theorem needj_out (n : Int) (w : World) (h : n < 0 ∨ 1000 < n) :
    Calls Tryd.prog 16 #[.int .i64 n] w fun e w' => e = .returned (.int .i64 0) ∧ w = w' := by
  rcases h with h | h
  · go_enter Tryd.func16, Tryd.ntmps16
    go_wp2
    go_ret
    exact ⟨rfl, rfl⟩
  · have hd : decide (n < 0) = false := decide_eq_false (by omega)
    have hd2 : decide (1000 < n) = true := decide_eq_true h
    go_enter Tryd.func16, Tryd.ntmps16
    go_wp2
    go_ret
    exact ⟨rfl, rfl⟩

/-- The text of the first k numbers. -/
def hdT (g a n : Nat) : Nat → List UInt8
  | 0 => []
  | 1 => be 4 g
  | 2 => be 4 g ++ be 2 a
  | _ => be 4 g ++ be 2 a ++ be 2 n
theorem hdT_all (g a n : Nat) : hdT g a n 3 = hdL g a n := by
  show be 4 g ++ be 2 a ++ be 2 n = _
  rw [List.append_assoc]
  rfl
def hdS (g a n : Nat) : ByteArray := ⟨(hdL g a n).toArray⟩
theorem hdS_size (g a n : Nat) : (hdS g a n).size = 8 := by
  show (hdL g a n).toArray.size = 8
  rw [List.size_toArray, hd_len]

set_option maxHeartbeats 1000000 in
set_option maxRecDepth 100000 in
theorem head_ok (g a n : Nat) (w : World) (hg : g ≤ 2147483647) (ha : a ≤ 65535) (hn : n ≤ 65535) :
    Calls Tryd.prog 29 #[.int .i64 g, .int .i64 a, .int .i64 n] w fun e w' => e = .returned (.tuple #[.string (hdS g a n), .int .i64 0]) ∧ Below w.heap.size w w' := by
  have sz : ∀ k v : Nat, (⟨(be k v).toArray⟩ : ByteArray).size = k := fun k v => by
    show (be k v).toArray.size = k
    rw [List.size_toArray, be_length]
  have HX := Lib.hid (fun wx => num_ok g 4 wx (by omega) (by omega) (by omega) (by omega))
  have HY := Lib.hid (fun wx => num_ok a 2 wx (by omega) (by omega) (by omega) (by omega))
  have HZ := Lib.hid (fun wx => num_ok n 2 wx (by omega) (by omega) (by omega) (by omega))
  obtain ⟨tx, htx⟩ : ∃ tx : Nat → ByteArray, ∀ k, tx k = ⟨(hdT g a n k).toArray⟩ := ⟨_, fun _ => rfl⟩
  have HALL := Lib.hid (show tx 3 = hdS g a n by rw [htx, hdT_all]; rfl)
  have T0 := Lib.hid (show tx 0 = ⟨#[]⟩ by rw [htx]; rfl)
  have T1 := Lib.hid (show tx 0 ++ (⟨(be 4 g).toArray⟩ : ByteArray) = tx 1 by rw [htx, htx, ba_append]; rfl)
  have T2 := Lib.hid (show tx 1 ++ (⟨(be 2 a).toArray⟩ : ByteArray) = tx 2 by rw [htx, htx, ba_append]; rfl)
  have T3 := Lib.hid (show tx 2 ++ (⟨(be 2 n).toArray⟩ : ByteArray) = tx 3 by rw [htx, htx, ba_append]; rfl)
  have z0 : (tx 0).size = 0 := by rw [T0.out]; rfl
  have z1 : (tx 1).size = 4 := by rw [← T1.out, ByteArray.size_append, z0, sz]
  have z2 : (tx 2).size = 6 := by rw [← T2.out, ByteArray.size_append, z1, sz]
  have zx := sz 4 g
  have zy := sz 2 a
  have zz := sz 2 n
  generalize (⟨(be 4 g).toArray⟩ : ByteArray) = sx at *
  generalize (⟨(be 2 a).toArray⟩ : ByteArray) = sy at *
  generalize (⟨(be 2 n).toArray⟩ : ByteArray) = sv at *
  clear htx sz
  have cg : IntKind.u64.wrap (g : Int) = g := IntWalk.u64_in _ (by omega)
  have ca : IntKind.u64.wrap (a : Int) = a := IntWalk.u64_in _ (by omega)
  have cn : IntKind.u64.wrap (n : Int) = n := IntWalk.u64_in _ (by omega)
  go_enter Tryd.func29, Tryd.ntmps29
  go_wp2
  go_loopw [8, 20] (fun t i wr => ∃ (k : Nat), i = .int .i64 k ∧ k ≤ 3 ∧ t = .string (tx k) ∧ Below w.heap.size w wr) (fun _ i _ => (3 - intOf i).toNat)
  case atStart => exact ⟨0, rfl, by omega, by rw [T0.out], Below.refl _ _⟩
  case round =>
    obtain ⟨k, rfl, hk, rfl, hb⟩ := hrel
    have HB := Lib.hid hb
    clear hb
    rcases (show k = 0 ∨ k = 1 ∨ k = 2 ∨ k = 3 by omega) with rfl | rfl | rfl | rfl
    · have hix : (Instr.index 96 (.agg #[.int .i64 g, .int .i64 4, .int .i64 a, .int .i64 2, .int .i64 n, .int .i64 2]) (.int .i64 0)).run Tryd.prog wr = .ok (.agg #[.int .i64 g, .int .i64 4]) wr := by kernel_rfl
      have HB0 := Lib.hid (HB.out.alloc HB.out.size (.cells #[.int .i64 g, .int .i64 4] 95))
      go_wp2_with fail
      refine (HX.out _).mono ?_
      rintro e w1 ⟨rfl, hb1⟩
      have HB1 := Lib.hid (HB0.out.trans (hb1.mono HB0.out.size))
      clear hb1
      go_wp2
      go_roundw
      case rel => exact ⟨1, rfl, by omega, by rw [T1.out], HB1.out⟩
      case measure => simp [intOf]
    · have hix : (Instr.index 96 (.agg #[.int .i64 g, .int .i64 4, .int .i64 a, .int .i64 2, .int .i64 n, .int .i64 2]) (.int .i64 1)).run Tryd.prog wr = .ok (.agg #[.int .i64 a, .int .i64 2]) wr := by kernel_rfl
      have HB0 := Lib.hid (HB.out.alloc HB.out.size (.cells #[.int .i64 a, .int .i64 2] 95))
      go_wp2_with fail
      refine (HY.out _).mono ?_
      rintro e w1 ⟨rfl, hb1⟩
      have HB1 := Lib.hid (HB0.out.trans (hb1.mono HB0.out.size))
      clear hb1
      go_wp2
      go_roundw
      case rel => exact ⟨2, rfl, by omega, by rw [T2.out], HB1.out⟩
      case measure => simp [intOf]
    · have hix : (Instr.index 96 (.agg #[.int .i64 g, .int .i64 4, .int .i64 a, .int .i64 2, .int .i64 n, .int .i64 2]) (.int .i64 2)).run Tryd.prog wr = .ok (.agg #[.int .i64 n, .int .i64 2]) wr := by kernel_rfl
      have HB0 := Lib.hid (HB.out.alloc HB.out.size (.cells #[.int .i64 n, .int .i64 2] 95))
      go_wp2_with fail
      refine (HZ.out _).mono ?_
      rintro e w1 ⟨rfl, hb1⟩
      have HB1 := Lib.hid (HB0.out.trans (hb1.mono HB0.out.size))
      clear hb1
      go_wp2
      go_roundw
      case rel => exact ⟨3, rfl, by omega, by rw [T3.out], HB1.out⟩
      case measure => simp [intOf]
    · rw [HALL.out]
      go_wp2
      go_ret2
      exact ⟨rfl, HB.out⟩

end Go.Proofs.YtdgjnjhmjgdhnaaDoor
