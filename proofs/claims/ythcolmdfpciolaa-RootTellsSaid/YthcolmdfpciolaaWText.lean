/- The walk of textOf: the text of a root. -/
import Derived.Test.YthcolmdfpciolaaWRight7
import Derived.Test.YthcolmdfpciolaaPk
namespace Go.Proofs.Ythcolmdfpciolaa
open Go.RowKit

/-- The text of the first k numbers. -/
def txt (r : Rt) : Nat → List UInt8
  | 0 => []
  | 1 => be 4 r.g.toNat
  | 2 => be 4 r.g.toNat ++ be 4 r.a.toNat
  | _ => be 4 r.g.toNat ++ be 4 r.a.toNat ++ be 4 r.n.toNat
theorem txt_all (r : Rt) : txt r 3 = rtT r := by
  show be 4 r.g.toNat ++ be 4 r.a.toNat ++ be 4 r.n.toNat = _
  rw [List.append_assoc]
  rfl

set_option maxHeartbeats 1000000 in
set_option maxRecDepth 100000 in
theorem rtext_ok (r : Rt) (w : World) (h : rtB r = true) :
    Calls Try.prog 23 #[r.v] w fun e w' => e = .returned (.tuple #[.string (rtS r), .int .i64 0]) ∧ Below w.heap.size w w' := by
  obtain ⟨⟨h1, h2⟩, ⟨h3, h4⟩, h5, h6⟩ := rt_parts h
  obtain ⟨g, a, n⟩ := r
  have HF := Lib.hid (show Below w.heap.size w (w.alloc (.cells #[.int .i64 g, .int .i64 a, .int .i64 n] 27)) from (Below.refl _ _).alloc (Nat.le_refl _) _)
  simp only [Rt.v] at h1 h2 h3 h4 h5 h6 ⊢
  obtain ⟨x, rfl⟩ := Int.eq_ofNat_of_zero_le h1
  obtain ⟨y, rfl⟩ := Int.eq_ofNat_of_zero_le h3
  obtain ⟨z, rfl⟩ := Int.eq_ofNat_of_zero_le h5
  have sz : ∀ v : Nat, (⟨(be 4 v).toArray⟩ : ByteArray).size = 4 := fun v => by
    show (be 4 v).toArray.size = 4
    rw [List.size_toArray, be_length]
  have HX := Lib.hid (fun wx => num_ok x 4 wx (by omega) (by omega) (by omega) (by omega))
  have HY := Lib.hid (fun wx => num_ok y 4 wx (by omega) (by omega) (by omega) (by omega))
  have HZ := Lib.hid (fun wx => num_ok z 4 wx (by omega) (by omega) (by omega) (by omega))
  obtain ⟨tx, htx⟩ : ∃ tx : Nat → ByteArray, ∀ k, tx k = ⟨(txt ⟨x, y, z⟩ k).toArray⟩ := ⟨_, fun _ => rfl⟩
  have HALL := Lib.hid (show tx 3 = rtS ⟨x, y, z⟩ by rw [htx, txt_all]; rfl)
  have T0 := Lib.hid (show tx 0 = ⟨#[]⟩ by rw [htx]; rfl)
  have T1 := Lib.hid (show tx 0 ++ (⟨(be 4 x).toArray⟩ : ByteArray) = tx 1 by rw [htx, htx, ba_append]; rfl)
  have T2 := Lib.hid (show tx 1 ++ (⟨(be 4 y).toArray⟩ : ByteArray) = tx 2 by rw [htx, htx, ba_append]; rfl)
  have T3 := Lib.hid (show tx 2 ++ (⟨(be 4 z).toArray⟩ : ByteArray) = tx 3 by rw [htx, htx, ba_append]; rfl)
  have z0 : (tx 0).size = 0 := by rw [T0.out]; rfl
  have z1 : (tx 1).size = 4 := by rw [← T1.out, ByteArray.size_append, z0, sz]
  have z2 : (tx 2).size = 8 := by rw [← T2.out, ByteArray.size_append, z1, sz]
  have zx := sz x
  have zy := sz y
  have zz := sz z
  generalize (⟨(be 4 x).toArray⟩ : ByteArray) = sx at *
  generalize (⟨(be 4 y).toArray⟩ : ByteArray) = sy at *
  generalize (⟨(be 4 z).toArray⟩ : ByteArray) = sv at *
  clear htx sz
  clear h
  go_enter Try.func23, Try.ntmps23
  go_wp2
  go_loopw [4, 16] (fun t i wr => ∃ (k : Nat), i = .int .i64 k ∧ k ≤ 3 ∧ t = .string (tx k) ∧ Below w.heap.size w wr) (fun _ i _ => (3 - intOf i).toNat)
  case atStart => exact ⟨0, rfl, by omega, by rw [T0.out], HF.out⟩
  case round =>
    obtain ⟨k, rfl, hk, rfl, hb⟩ := hrel
    have HB := Lib.hid hb
    clear hb
    rcases (show k = 0 ∨ k = 1 ∨ k = 2 ∨ k = 3 by omega) with rfl | rfl | rfl | rfl
    · have hix : (Instr.index 83 (.agg #[.int .i64 x, .int .i64 y, .int .i64 z]) (.int .i64 0)).run Try.prog wr = .ok (.int .i64 x) wr := by kernel_rfl
      go_wp2_with fail
      refine (HX.out _).mono ?_
      rintro e w1 ⟨rfl, hb1⟩
      have HB1 := Lib.hid (HB.out.trans (hb1.mono HB.out.size))
      clear hb1
      go_wp2
      go_roundw
      case rel => exact ⟨1, rfl, by omega, by rw [T1.out], HB1.out⟩
      case measure => simp [intOf]
    · have hix : (Instr.index 83 (.agg #[.int .i64 x, .int .i64 y, .int .i64 z]) (.int .i64 1)).run Try.prog wr = .ok (.int .i64 y) wr := by kernel_rfl
      go_wp2_with fail
      refine (HY.out _).mono ?_
      rintro e w1 ⟨rfl, hb1⟩
      have HB1 := Lib.hid (HB.out.trans (hb1.mono HB.out.size))
      clear hb1
      go_wp2
      go_roundw
      case rel => exact ⟨2, rfl, by omega, by rw [T2.out], HB1.out⟩
      case measure => simp [intOf]
    · have hix : (Instr.index 83 (.agg #[.int .i64 x, .int .i64 y, .int .i64 z]) (.int .i64 2)).run Try.prog wr = .ok (.int .i64 z) wr := by kernel_rfl
      go_wp2_with fail
      refine (HZ.out _).mono ?_
      rintro e w1 ⟨rfl, hb1⟩
      have HB1 := Lib.hid (HB.out.trans (hb1.mono HB.out.size))
      clear hb1
      go_wp2
      go_roundw
      case rel => exact ⟨3, rfl, by omega, by rw [T3.out], HB1.out⟩
      case measure => simp [intOf]
    · rw [HALL.out]
      go_wp2
      go_ret2
      exact ⟨rfl, HB.out⟩

end Go.Proofs.Ythcolmdfpciolaa
