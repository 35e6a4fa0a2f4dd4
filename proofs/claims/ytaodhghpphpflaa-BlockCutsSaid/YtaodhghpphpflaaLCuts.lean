/- The walk of the law BlockCuts. -/
import Derived.Test.YtaodhghpphpflaaAwake
namespace Go.Proofs.Ytaodhghpphpflaa
open Go.RowKit

/-- The first k sectors, one behind the other. -/
def cutHead (l : List UInt8) (k : Nat) : ByteArray := ⟨((padL l).take (32 * k)).toArray⟩
theorem head_size (l : List UInt8) (k : Nat) (h : k ≤ secN l.length) : (cutHead l k).size = 32 * k := by
  show ((padL l).take (32 * k)).toArray.size = _
  rw [List.size_toArray, List.length_take, pad_len]
  omega
theorem head_zero (l : List UInt8) : cutHead l 0 = ⟨#[]⟩ := by unfold cutHead; simp
theorem head_step (l : List UInt8) (k : Nat) : cutHead l k ++ secL l k = cutHead l (k + 1) := by
  unfold cutHead secL
  apply ba_ext
  rw [ByteArray.data_append, Array.toList_append, Nat.mul_succ, List.take_add]
theorem head_all (l : List UInt8) : cutHead l (secN l.length) = ⟨(padL l).toArray⟩ := by
  unfold cutHead
  rw [← pad_len, List.take_length]
theorem pad_ahead (s : ByteArray) : (⟨(padL s.data.toList).toArray⟩ : ByteArray).extract 0 s.size = s := by
  apply ba_ext
  rw [ByteArray.data_extract, Array.toList_extract]
  unfold padL
  simp
theorem pad_zero (s : ByteArray) (i : Nat) (h0 : s.size ≤ i) (h : i < (⟨(padL s.data.toList).toArray⟩ : ByteArray).size) : (⟨(padL s.data.toList).toArray⟩ : ByteArray)[i] = 0 := by
  show (padL s.data.toList).toArray[i] = 0
  rw [List.getElem_toArray]
  unfold padL
  rw [List.getElem_append_right (by simpa using h0), List.getElem_replicate]
theorem pad_asize (l : List UInt8) : (⟨(padL l).toArray⟩ : ByteArray).size = 32 * secN l.length := by
  show (padL l).toArray.size = _
  rw [List.size_toArray, pad_len]

set_option maxHeartbeats 2000000 in
set_option maxRecDepth 100000 in
theorem cuts_walk (s : ByteArray) (w : World) (hs : s.size ≤ maxLen) :
    Calls Try.prog 5 #[.string s] w fun e w' => e = .returned (.bool true) ∧ Below w.heap.size w w' := by
  unfold maxLen at hs
  by_cases h : 2000 < s.size
  · go_enter Try.func5, Try.ntmps5
    go_wp2_with fail
    refine (awake_true _).mono ?_
    rintro e w1 ⟨rfl, hb1⟩
    go_wp2
    go_ret
    exact ⟨rfl, hb1⟩
  · have HLN := Lib.hid (show s.data.toList.length = s.size by simp)
    obtain ⟨l, hl⟩ : ∃ l, l = s.data.toList := ⟨_, rfl⟩
    have hroom := sec_room l.length
    have hcl := cut_len l
    have hcu := cut_any s w (by omega)
    rw [← hl] at HLN hcu
    rw [HLN.out] at hroom hcl
    have HL := Lib.hid hl
    clear hl
    obtain ⟨N, hN⟩ : ∃ N, N = secN s.size := ⟨_, rfl⟩
    rw [← hN] at hroom hcl
    have HN := Lib.hid hN
    clear hN
    go_enter Try.func5, Try.ntmps5
    go_wp2_with fail
    refine hcu.mono ?_
    clear hcu
    rintro e w1 ⟨v1, rfl, hv1, hb1⟩
    obtain ⟨A, c, rfl, hA, _⟩ := hv1
    have HA := Lib.hid hA
    have HB := Lib.hid hb1
    have HCL := Lib.hid hcl
    rw [hcl]
    clear hA hb1 hcl
    go_wp2
    go_loop [3, 14] (fun t i => ∃ k : Nat, k ≤ N ∧ i = .int .i64 k ∧ t = .string (cutHead l k)) (fun _ i => N - (intOf i).toNat)
    case atStart => exact ⟨0, by omega, rfl, by rw [head_zero]⟩
    case round =>
      obtain ⟨k, hk, rfl, rfl⟩ := hrel
      have hz := head_size l k (by rw [HLN.out, ← HN.out]; exact hk)
      by_cases h8 : k < N
      · obtain ⟨a1, rfl, hab, hca⟩ := HA.out (by rw [HCL.out]; omega)
        have c1 := hca k (by rw [HCL.out]; omega)
        have e1 : (cutL l)[k]'(by rw [HCL.out]; omega) = secL l k := by simp [cutL]
        rw [e1] at c1
        have hz2 := sec_size l k (by rw [HLN.out, ← HN.out]; exact h8)
        have HST := Lib.hid (head_step l k)
        generalize secL l k = x at *
        generalize cutHead l k = y at *
        have hl2 : ¬ 9223372036854775807 < y.size + x.size := by omega
        clear hca e1
        go_wp2
        go_round
        case rel => exact ⟨k + 1, by omega, by go_num, by rw [← HST.out]⟩
        case measure => simp [intOf]; omega
      · have hkN : k = N := by omega
        have HE := Lib.hid (show cutHead l k = ⟨(padL l).toArray⟩ by rw [hkN, HN.out, ← HLN.out, head_all])
        rw [HE.out] at hz ⊢
        have HZ := Lib.hid (fun i h0 h => pad_zero s i h0 h)
        have HP := Lib.hid (pad_ahead s)
        rw [← HL.out] at HZ HP
        generalize (⟨(padL l).toArray⟩ : ByteArray) = P at *
        rw [hkN] at hz
        clear hkN
        go_wp2
        go_loop [6] (fun i => ∃ j : Nat, s.size ≤ j ∧ j ≤ P.size ∧ i = .int .i64 j) (fun i => P.size - (intOf i).toNat)
        case atStart => exact ⟨s.size, by omega, by omega, rfl⟩
        case round =>
          obtain ⟨j, hj0, hj, rfl⟩ := hrel
          by_cases h9 : j < P.size
          · have hx := HZ.out j hj0 h9
            have hx2 : P[j].toNat = 0 := by rw [hx]; rfl
            have hx3 : ((P[j].toNat : Int) != 0) = false := by rw [hx2]; rfl
            go_wp2
            go_round
            case rel => exact ⟨j + 1, by omega, by omega, by go_num⟩
            case measure => simp [intOf]; omega
          · have hjP : j = P.size := by omega
            have g1 : decide (P.size < s.size + 32) = true := decide_eq_true (by omega)
            have hss := str_eq (x := s) rfl
            have HP2 := HP.out
            clear hjP
            go_wp2_with fail
            refine (awake_true _).mono ?_
            rintro e w2 ⟨rfl, hb2⟩
            go_wp2
            go_ret
            exact ⟨rfl, HB.out.trans (hb2.mono HB.out.size)⟩

end Go.Proofs.Ytaodhghpphpflaa
