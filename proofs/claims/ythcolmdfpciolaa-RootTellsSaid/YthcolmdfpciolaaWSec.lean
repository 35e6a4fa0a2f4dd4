/- The walk of sectors: those of a text. -/
import Derived.Test.YthcolmdfpciolaaWCut
import Derived.Test.YthcolmdfpciolaaWMore
import Derived.Test.YthcolmdfpciolaaPk
namespace Go.Proofs.Ythcolmdfpciolaa
open Go.RowKit

theorem sum_two (w : World) (x y : ByteArray) (g : Nat) (hg : g = w.heap.size) (hx : x.size ≤ maxLen) (hy : y.size ≤ maxLen) :
    Calls Try.prog 62 #[.slice (some ⟨g, 0, none⟩) 2 2] (w.alloc (.cells #[.string x, .string y] 9)) fun e w' => e = .returned (.int .u32 (sumN [x, y] : Nat)) ∧ w.alloc (.cells #[.string x, .string y] 9) = w' := by
  subst hg
  have h := strs_two w 9 x y
  exact sum_any _ 2 [x, y] _ (by simpa using h) (by unfold maxLen; simp) (by simp [hx, hy])

theorem sum_of (t : ByteArray) : sumN [⟨(be 4 t.size).toArray⟩, t] = sumT t.data.toList := by
  unfold sumN sumT allB
  simp

/-- The bytes of a text, as the call joins them. -/
theorem bytes_of (t : ByteArray) (a b : ByteArray) (ha : a = ⟨(be 4 t.size).toArray⟩) (hb : b = ⟨(be 3 (sumT t.data.toList)).toArray⟩) : (a ++ b ++ t).data.toList = bytesL t.data.toList := by
  subst ha hb
  rw [ByteArray.data_append, Array.toList_append, ByteArray.data_append, Array.toList_append]
  unfold bytesL
  simp

set_option maxHeartbeats 1000000 in
theorem secs_any (t : ByteArray) (w : World) (ht : t.size ≤ 65535) :
    Calls Try.prog 39 #[.string t] w fun e w' => ∃ v', e = .returned (.tuple #[v', .int .i64 0]) ∧ RowV w' v' (secsL t.data.toList) ∧ Below w.heap.size w w' := by
  have hlt := sumT_lt t.data.toList
  obtain ⟨a, ha⟩ : ∃ a : ByteArray, a = ⟨(be 4 t.size).toArray⟩ := ⟨_, rfl⟩
  obtain ⟨b, hb⟩ : ∃ b : ByteArray, b = ⟨(be 3 (sumT t.data.toList)).toArray⟩ := ⟨_, rfl⟩
  have HBY := Lib.hid (bytes_of t a b ha hb)
  have haz : a.size = 4 := by rw [ha]; show (be 4 t.size).toArray.size = 4; rw [List.size_toArray, be_length]
  have hbz : b.size = 3 := by rw [hb]; show (be 3 _).toArray.size = 3; rw [List.size_toArray, be_length]
  have HN1 := Lib.hid (fun wx => num_ok t.size 4 wx (by omega) (by omega) (by omega) (by omega))
  have HN2 := Lib.hid (fun wx => num_ok (sumT t.data.toList) 3 wx (by omega) (by omega) (by omega) (by omega))
  have HS := Lib.hid (fun (wx : World) (g : Nat) (hg : g = wx.heap.size) => sum_two wx a t g hg (by unfold maxLen; omega) (by unfold maxLen; omega))
  have HC := Lib.hid (fun wx => cut_any (a ++ b ++ t) wx (by rw [ByteArray.size_append, ByteArray.size_append]; omega))
  have hso := sum_of t
  rw [← ha] at HN1 hso
  rw [hso] at HS
  rw [← hb] at HN2
  rw [HBY.out] at HC
  clear hso ha hb
  generalize sumT t.data.toList = sm at *
  have hl2 : ¬ 9223372036854775807 < a.size + b.size := by omega
  have hl3 : ¬ 9223372036854775807 < (a ++ b).size + t.size := by rw [ByteArray.size_append]; omega
  have hl4 : ¬ 9223372036854775807 < a.size + b.size + t.size := by omega
  go_enter Try.func39, Try.ntmps39
  go_wp2_with fail
  refine (HN1.out _).mono ?_
  rintro e w1 ⟨rfl, hb1⟩
  go_wp2_with fail
  refine (HS.out w1 _ rfl).mono ?_
  rintro e w2 ⟨rfl, rfl⟩
  go_wp2_with fail
  refine (HN2.out _).mono ?_
  rintro e w3 ⟨rfl, hb3⟩
  have HB3 := Lib.hid ((hb1.alloc hb1.size _).trans (hb3.mono (by have := hb1.size; simp; omega)))
  clear hb1 hb3
  go_wp2_with fail
  refine (HC.out _).mono ?_
  rintro e w4 ⟨v4, rfl, hv4, hb4⟩
  have HV := Lib.hid hv4
  clear hv4
  go_wp2
  go_ret2
  exact ⟨_, rfl, HV.out, HB3.out.trans (hb4.mono HB3.out.size)⟩

end Go.Proofs.Ythcolmdfpciolaa
