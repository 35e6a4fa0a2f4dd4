/- The walks of Right and of the law's 'short'. -/
import Derived.Test.YtifemajgdbihnaaWNote
namespace Go.Proofs.Ytifemajgdbihnaa
open Go.RowKit

theorem u64_zero (n : UInt64) : ((n.toNat : Int) == 0) = decide (n = 0) := by
  rw [Bool.eq_iff_iff, beq_iff_eq, decide_eq_true_eq]
  constructor
  · intro h
    exact UInt64.toNat_inj.1 (by rw [show n.toNat = 0 by omega]; rfl)
  · rintro rfl
    rfl
theorem str_empty (x : ByteArray) : x.toList.isEmpty = decide (x = noB) := by
  by_cases h : x = noB
  · rw [h, decide_eq_true rfl, ByteArray.toList_eq]; rfl
  · rw [decide_eq_false h, str_some h]

set_option maxRecDepth 100000 in
set_option maxHeartbeats 2000000 in
theorem right_any (xk : Int) (xkey xval : ByteArray) (xn : UInt64) (w : World) :
    Calls Try.prog 12 #[.agg #[.int .i64 xk, .string xkey, .string xval, .int .u64 (xn.toNat : Int)]] w fun e w' => e = .returned (.bool (rightN ⟨xk, xkey, xval, xn⟩)) ∧ Below w.heap.size w w' := by
  obtain ⟨R, hR⟩ : ∃ R, R = rightN ⟨xk, xkey, xval, xn⟩ := ⟨_, rfl⟩
  rw [← hR]
  unfold rightN at hR
  simp only at hR
  by_cases h16 : xkey.size ≤ 16
  · have hd : decide (16 < (xkey.size : Int)) = false := by simp; omega
    rw [decide_eq_true h16, Bool.true_and] at hR
    by_cases h1 : xk = 1
    · subst h1
      rw [if_pos rfl] at hR
      by_cases h32 : xval.size ≤ 32
      · have hd2 : decide ((xval.size : Int) ≤ 32) = true := by simp; omega
        rw [decide_eq_true h32, Bool.true_and, ← u64_zero] at hR
        have HR := Lib.hid hR
        clear hR
        go_enter Try.func12, Try.ntmps12
        go_wp2
        go_ret
        rw [HR.out]
        exact ⟨rfl, (Below.refl _ _).alloc (Nat.le_refl _) _⟩
      · have hd2 : decide ((xval.size : Int) ≤ 32) = false := by simp; omega
        rw [decide_eq_false h32, Bool.false_and] at hR
        subst hR
        go_enter Try.func12, Try.ntmps12
        go_wp2
        go_ret
        exact ⟨rfl, (Below.refl _ _).alloc (Nat.le_refl _) _⟩
    · rw [if_neg h1] at hR
      by_cases h2 : xk = 2
      · subst h2
        rw [if_pos rfl, ← str_empty, ← u64_zero] at hR
        clear h1
        cases hb : xval.toList.isEmpty with
        | true =>
          rw [hb, Bool.true_and] at hR
          have HR := Lib.hid hR
          clear hR
          go_enter Try.func12, Try.ntmps12
          go_wp2
          go_ret
          rw [HR.out]
          exact ⟨rfl, (Below.refl _ _).alloc (Nat.le_refl _) _⟩
        | false =>
          rw [hb, Bool.false_and] at hR
          subst hR
          go_enter Try.func12, Try.ntmps12
          go_wp2
          go_ret
          exact ⟨rfl, (Below.refl _ _).alloc (Nat.le_refl _) _⟩
      · rw [if_neg h2, ← str_empty] at hR
        by_cases h3 : xk = 3
        · subst h3
          rw [decide_eq_true rfl, Bool.true_and] at hR
          clear h1 h2
          have HR := Lib.hid hR
          clear hR
          go_enter Try.func12, Try.ntmps12
          go_wp2
          go_ret
          rw [HR.out]
          exact ⟨rfl, (Below.refl _ _).alloc (Nat.le_refl _) _⟩
        · rw [decide_eq_false h3, Bool.false_and] at hR
          subst hR
          go_enter Try.func12, Try.ntmps12
          go_wp2
          go_ret
          exact ⟨rfl, (Below.refl _ _).alloc (Nat.le_refl _) _⟩
  · have hd : decide (16 < (xkey.size : Int)) = true := by simp; omega
    rw [decide_eq_false h16, Bool.false_and] at hR
    subst hR
    go_enter Try.func12, Try.ntmps12
    go_wp2
    go_ret
    exact ⟨rfl, (Below.refl _ _).alloc (Nat.le_refl _) _⟩

/-- Are texts short? -/
def shortN (x : Nt) : Bool := decide (x.key.size ≤ 300) && decide (x.value.size ≤ 300)

set_option maxRecDepth 100000 in
set_option maxHeartbeats 2000000 in
theorem short_any (A : Option Addr) (c : Nat) (l : List Nt) (w : World) (hA : Nts w w.heap.size A l) (hn : l.length ≤ maxLen) :
    Calls Try.prog 8 #[.slice A l.length c] w fun e w' => e = .returned (.bool (l.all shortN)) ∧ Below w.heap.size w w' := by
  unfold maxLen at hn
  obtain ⟨R, hR⟩ : ∃ R, R = l.all shortN := ⟨_, rfl⟩
  rw [← hR]
  have hF : ∀ (k : Nat) (x : Nt), l[k]? = some x → shortN x = false → R = false := fun k x hx hs => by
    rw [hR, List.all_eq_false]
    exact ⟨x, List.mem_of_getElem? hx, by rw [hs]; decide⟩
  have hT : ((l.take l.length).all shortN = true) → R = true := fun h => by rw [List.take_length] at h; rw [hR, h]
  have hS : ∀ (k : Nat) (x : Nt), l[k]? = some x → (l.take k).all shortN = true → shortN x = true → (l.take (k + 1)).all shortN = true := fun k x hx h1 h2 => by
    obtain ⟨h, rfl⟩ := List.getElem?_eq_some_iff.1 hx
    rw [List.take_succ_eq_append_getElem h, List.all_append, h1]
    simpa using h2
  generalize hl : l.length = n at *
  have HL := Lib.hid hl
  have HA := Lib.hid hA
  have HF := Lib.hid hF
  have HT := Lib.hid hT
  have HS := Lib.hid hS
  clear hl hA hF hT hS hR
  go_enter Try.func8, Try.ntmps8
  go_wp2
  go_loopw [7] (fun i wr => ∃ (k : Nat), i = .int .i64 k ∧ k ≤ n ∧ (l.take k).all shortN = true ∧ Below w.heap.size w wr) (fun i _ => (n - intOf i).toNat)
  case atStart => exact ⟨0, rfl, by omega, rfl, Below.refl _ _⟩
  case round =>
    obtain ⟨k, rfl, hk, hall, hbr⟩ := hrel
    have HALL := Lib.hid hall
    clear hall
    by_cases hlt : k < n
    · obtain ⟨ad, rfl, hab, hca⟩ := (HA.out.below hbr).seeN (by rw [HL.out]; omega)
      obtain ⟨c1, c2, c3, c4⟩ := hca k (by rw [HL.out]; omega)
      obtain ⟨x, hx⟩ : ∃ x, x = l[k]'(by rw [HL.out]; omega) := ⟨_, rfl⟩
      have HX := Lib.hid (show l[k]? = some x by rw [hx]; exact List.getElem?_eq_getElem _)
      rw [← hx] at c1 c2 c3 c4
      clear hx hca
      obtain ⟨xk, xkey, xval, xn⟩ := x
      simp only at c1 c2 c3 c4
      have hlt3 : (ad.add (k * 4)).block < w.heap.size := by rw [block_of_add]; exact hab
      by_cases h1 : xkey.size ≤ 300
      · have hd1 : decide (300 < (xkey.size : Int)) = false := by simp; omega
        by_cases h2 : xval.size ≤ 300
        · have hd2 : decide (300 < (xval.size : Int)) = false := by simp; omega
          have HO := Lib.hid (HS.out k _ HX.out HALL.out (by unfold shortN; simp [h1, h2]))
          go_wp2
          go_roundw
          case rel => exact ⟨k + 1, by go_num, by omega, HO.out, hbr.alloc hbr.size _⟩
          case measure => simp [intOf]; omega
        · have hd2 : decide (300 < (xval.size : Int)) = true := by simp; omega
          have hR := HF.out k _ HX.out (by unfold shortN; simp [h2])
          subst hR
          go_wp2
          go_ret
          exact ⟨rfl, hbr.alloc hbr.size _⟩
      · have hd1 : decide (300 < (xkey.size : Int)) = true := by simp; omega
        have hR := HF.out k _ HX.out (by unfold shortN; simp [h1])
        subst hR
        go_wp2
        go_ret
        exact ⟨rfl, hbr.alloc hbr.size _⟩
    · have hkn : k = n := by omega
      subst hkn
      have hR := HT.out HALL.out
      subst hR
      go_wp2
      go_ret
      exact ⟨rfl, hbr⟩

end Go.Proofs.Ytifemajgdbihnaa
