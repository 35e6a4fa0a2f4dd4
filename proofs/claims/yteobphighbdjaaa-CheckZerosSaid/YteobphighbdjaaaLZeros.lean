/- The walk of the law CheckZeros. -/
import Derived.Test.YteobphighbdjaaaLEasy
import Derived.Test.YteobphighbdjaaaBytes
import Derived.Laws.OwnMore
import Derived.OwnWalk
namespace Go.Proofs.Yteobphighbdjaaa
open Go.RowKit

theorem u8_info : (Try.prog.info? 5).map (fun i => (i.zero, i.size, i.bytes)) = some (some (.int .u8 0), 1, 1) := by kernel_rfl

def zeroS (k : Nat) : ByteArray := ⟨(List.replicate k 0).toArray⟩

theorem zeroS_size (k : Nat) : (zeroS k).size = k := by
  show (List.replicate k 0).toArray.size = k
  simp
theorem moreN_zeroS (k n : Nat) : moreN n (zeroS k) = 0 ↔ n % 16777216 = 0 := by
  have h : moreN n (zeroS k) = (moreB (BitVec.ofNat 24 n) (List.replicate k 0)).toNat := rfl
  rw [h]
  have e : ∀ x : BitVec 24, x.toNat = 0 ↔ x = 0#24 := fun x => by
    rw [← BitVec.toNat_inj]; rfl
  rw [e, moreB_zeros_iff, ← e, BitVec.toNat_ofNat]

theorem made_zeros (k : Nat) : List.replicate k (Value.int .u8 0) = Lib.byteCells (List.replicate k 0) := by simp [Lib.byteCells]

theorem made_conv {w1 : World} {base g k : Nat} (h : w1.ownsRow base 5 1 (.slice (some ⟨g, 0, none⟩) k k) k (madeCells (Value.int .u8 0).cells (k * 1)).toList) :
    (convert 31 9 (.slice (some ⟨g, 0, none⟩) k k)).run Try.prog w1 = .ok (.string (zeroS k)) w1 := by
  rw [Nat.mul_one, show (Value.int .u8 0).cells = #[.int .u8 0] from rfl, toList_madeCells_one, made_zeros] at h
  have hcv := conv_row (P := Try.prog) (ts := 31) (te := 5) (tt := 9) (w := w1) (base := base) (g := g) (cap := k) (l := List.replicate k 0) Try.underlying31 Try.underlying5 Try.underlying9 (by rw [List.length_replicate]; exact h)
  rw [List.length_replicate] at hcv
  exact hcv

set_option maxHeartbeats 400000 in
set_option maxRecDepth 100000 in
theorem zeros_walk (n m : Nat) (w : World) (hn : n < 4294967296) (hm : m < 65536) :
    Calls Try.prog 10 #[.int .u32 n, .int .u16 m] w fun e w' => e = .returned (.bool true) ∧ Below w.heap.size w w' := by
  obtain ⟨i0, hi0, hz0, hz1, hz2⟩ := info_parts u8_info
  obtain ⟨k, hk⟩ : ∃ k, k = m % 300 := ⟨_, rfl⟩
  have hk3 : k < 300 := by omega
  have HK := Lib.hid (show (m : Int) % 300 = (k : Int) by omega)
  clear hk
  obtain ⟨b, hb1, hb2⟩ : ∃ b : Bool, (((moreN n (zeroS k) : Nat) : Int) == 0) = b ∧ ((n : Int) % 16777216 == 0) = b := by
    refine ⟨_, rfl, ?_⟩
    have h := moreN_zeroS k n
    rw [Bool.eq_iff_iff, beq_iff_eq, beq_iff_eq]
    omega
  have H0 := Lib.hid ((moreN_zeroS k 0).2 rfl)
  have HS := Lib.hid (show (zeroS k).size ≤ maxLen by rw [zeroS_size]; unfold maxLen; omega)
  go_enter Try.func10, Try.ntmps10
  go_wp2_with (first | (at_make; go_loud (refine wpList_make_full _ rfl (.tmp 7) (.tmp 7) 31 rfl w.heap.size 5 i0 (.int .u8 0) 1 Try.underlying31 hi0 hz0 hz1 .u16 .u16 _ _ k rfl rfl HK.out HK.out (by rw [hz2]; omega) (by unfold maxLen; omega) (Nat.le_refl _) ?_); intro w1 hown1 hg1; have hcv := made_conv hown1))
  have hbel : Below w.heap.size w w1 := (Below.refl _ _).grown hg1 (Nat.le_refl _) (by simp)
  clear hown1 hg1 hcv
  generalize zeroS k = z at *
  go_wp2_with fail
  refine (more_any 0 z _ (by omega) HS.out).mono ?_
  rintro e w2 ⟨rfl, rfl⟩
  rw [H0.out]
  go_wp2_with fail
  refine (more_any n z _ hn HS.out).mono ?_
  rintro e w2 ⟨rfl, rfl⟩
  generalize moreN n z = x at *
  go_wp2_with fail
  refine (awake_true _).mono ?_
  rintro e w2 ⟨rfl, hb3⟩
  go_wp2
  go_ret
  exact ⟨rfl, hbel.trans (hb3.mono hbel.size)⟩

end Go.Proofs.Yteobphighbdjaaa
