/- The walk of 'awake', the fixed answer at each statement's end: it is true. -/
import Derived.Test.YtngiadcbmfbonaaWParts
namespace Go.Proofs.Ytngiadcbmfbonaa
open Go.RowKit

def sAB : ByteArray := ⟨#[97, 98]⟩
def sNo : ByteArray := ⟨#[]⟩
def sPacked : ByteArray := ⟨#[0, 2, 97, 98, 0, 0]⟩

theorem aw_texts : textsS [sAB, sNo] = sPacked ∧ textsE [sAB, sNo] = 0 := by
  constructor
  · unfold textsS; rw [if_pos (by decide +kernel)]; exact congrArg (fun l : List UInt8 => (⟨l.toArray⟩ : ByteArray)) (by decide +kernel)
  · decide +kernel

theorem ba_ext {x y : ByteArray} (h : x.data.toList = y.data.toList) : x = y := ByteArray.ext (Array.toList_inj.1 h)

theorem aw_ok1 : ttOk sPacked = true := by decide +kernel
theorem aw_t1 : ttT sPacked = sAB := ba_ext (by decide +kernel)
theorem aw_r1 : ttR sPacked = ⟨#[0, 0]⟩ := ba_ext (by decide +kernel)
theorem aw_ok2 : ttOk ⟨#[0, 0]⟩ = true := by decide +kernel
theorem aw_t2 : ttT ⟨#[0, 0]⟩ = sNo := ba_ext (by decide +kernel)
theorem aw_r2 : ttR ⟨#[0, 0]⟩ = sNo := ba_ext (by decide +kernel)
theorem aw_parts : parts sPacked = some [sAB, sNo] := by
  rw [parts_ok sPacked (by decide) aw_ok1, aw_r1, parts_ok _ (by decide) aw_ok2, aw_r2, parts_nil _ (by decide), aw_t1, aw_t2]; rfl
theorem aw_partsL : partsL sPacked = [sAB, sNo] := by simp [partsL, aw_parts]
theorem aw_partsE : partsE sPacked = 0 := by simp [partsE, aw_parts]
theorem aw_take : takeN ⟨#[1, 2, 120]⟩ 2 = 258 ∧ takeR ⟨#[1, 2, 120]⟩ 2 = ⟨#[120]⟩ ∧ takeE ⟨#[1, 2, 120]⟩ 2 = 0 := ⟨by decide +kernel, ba_ext (by decide +kernel), by decide +kernel⟩
theorem aw_num : numE 256 1 = 1 := by decide +kernel
theorem aw_tt : ttE ⟨#[0, 3, 97, 98]⟩ = 2 := by decide +kernel

theorem strs_two (w : World) (x y : ByteArray) : Strs (w.alloc (.cells #[.string x, .string y] 9)) (w.heap.size + 1) (some ⟨w.heap.size, 0, none⟩) [x, y] := by
  intro _
  refine ⟨_, rfl, by simp, fun i hi => ?_⟩
  match i, hi with
  | 0, _ => simp [Addr.add]
  | 1, _ => simp [Addr.add]

theorem aw1 (w : World) : Calls Try.prog 15 #[.slice (some ⟨w.heap.size, 0, none⟩) 2 2] (w.alloc (.cells #[.string ⟨#[97, 98]⟩, .string ⟨#[]⟩] 9)) fun e w' =>
    e = .returned (.tuple #[.string ⟨#[0, 2, 97, 98, 0, 0]⟩, .int .i64 0]) ∧ Below w.heap.size w w' := by
  have h := texts_any (some ⟨w.heap.size, 0, none⟩) 2 [sAB, sNo] (w.alloc (.cells #[.string sAB, .string sNo] 9)) (by simpa using strs_two w sAB sNo) (by simp) (by
    intro t ht
    simp only [List.mem_cons, List.not_mem_nil, or_false] at ht
    rcases ht with rfl | rfl <;> (unfold maxLen; decide))
  rw [aw_texts.1, aw_texts.2] at h
  refine h.mono fun e w' ⟨he, hb⟩ => ⟨he, ?_⟩
  exact ((Below.refl _ w).alloc (Nat.le_refl _) _).trans (hb.mono (by simp))

theorem aw2 (w : World) : Calls Try.prog 19 #[.string ⟨#[0, 2, 97, 98, 0, 0]⟩] w fun e w' =>
    ∃ A c, e = .returned (.tuple #[.slice A 2 c, .int .i64 0]) ∧ Strs w' w'.heap.size A [sAB, sNo] ∧ Below w.heap.size w w' := by
  refine (parts_any sPacked w (by decide)).mono fun e w' ⟨A, c, he, hs, hb⟩ => ?_
  rw [aw_partsL] at he hs
  rw [aw_partsE] at he
  exact ⟨A, c, he, hs, hb⟩

theorem aw3 (w : World) : Calls Try.prog 13 #[.string ⟨#[1, 2, 120]⟩, .int .i64 2] w fun e w' => e = .returned (.tuple #[.int .u64 258, .string ⟨#[120]⟩, .int .i64 0]) ∧ Below w.heap.size w w' := by
  have h := take_any ⟨#[1, 2, 120]⟩ 2 w
  rw [aw_take.1, aw_take.2.1, aw_take.2.2] at h
  exact h

theorem aw4 (w : World) : Calls Try.prog 11 #[.int .u64 256, .int .i64 1] w fun e w' => e = .returned (.tuple #[.string ⟨(numS 256 1).toArray⟩, .int .i64 1]) ∧ Below w.heap.size w w' := by
  have h := num_any 256 1 w (by decide)
  rw [aw_num] at h
  exact h

theorem aw5 (w : World) : Calls Try.prog 17 #[.string ⟨#[0, 3, 97, 98]⟩] w fun e w' => e = .returned (.tuple #[.string (ttT ⟨#[0, 3, 97, 98]⟩), .string (ttR ⟨#[0, 3, 97, 98]⟩), .int .i64 2]) ∧ Below w.heap.size w w' := by
  have h := tt_any ⟨#[0, 3, 97, 98]⟩ w (by unfold maxLen; decide)
  rw [aw_tt] at h
  exact h

theorem aw6 (A : Option Addr) (c : Nat) (w : World) (hs : Strs w w.heap.size A [sAB, sNo]) : Calls Try.prog 21 #[.slice A 2 c, .slice (some ⟨w.heap.size, 0, none⟩) 2 2] (w.alloc (.cells #[.string ⟨#[97, 98]⟩, .string ⟨#[]⟩] 9)) fun e w' =>
    e = .returned (.bool true) ∧ Below w.heap.size w w' := by
  have hb : Below w.heap.size w (w.alloc (.cells #[.string sAB, .string sNo] 9)) := (Below.refl _ w).alloc (Nat.le_refl _) _
  have h := same_any A (some ⟨w.heap.size, 0, none⟩) c 2 [sAB, sNo] [sAB, sNo] (w.alloc (.cells #[.string sAB, .string sNo] 9)) (by simpa using (hs.below hb).more (by simp)) (by simpa using strs_two w sAB sNo) (by simp [maxLen]) (by simp [maxLen])
  rw [decide_eq_true rfl] at h
  refine h.mono fun e w' ⟨he, hb2⟩ => ⟨he, hb.trans (hb2.mono (by simp))⟩

set_option maxHeartbeats 400000 in
set_option maxRecDepth 100000 in
theorem awake_true (w : World) :
    Calls Try.prog 10 #[] w fun e w' => e = .returned (.bool true) ∧ Below w.heap.size w w' := by
  go_enter Try.func10, Try.ntmps10
  go_wp2_with fail
  refine (aw1 w).mono ?_
  rintro e w1 ⟨rfl, hb1⟩
  go_wp2_with fail
  refine (aw2 w1).mono ?_
  rintro e w2 ⟨A, c, rfl, hs, hb2⟩
  have hb02 : Below w.heap.size w w2 := hb1.trans (hb2.mono hb1.size)
  go_wp2_with fail
  refine (aw3 w2).mono ?_
  rintro e w3 ⟨rfl, hb3⟩
  have hb03 : Below w.heap.size w w3 := hb02.trans (hb3.mono hb02.size)
  go_wp2_with fail
  refine (aw4 w3).mono ?_
  rintro e w4 ⟨rfl, hb4⟩
  have hb04 : Below w.heap.size w w4 := hb03.trans (hb4.mono hb03.size)
  generalize numS 256 1 = ns
  go_wp2_with fail
  refine (aw5 w4).mono ?_
  rintro e w5 ⟨rfl, hb5⟩
  have hb05 : Below w.heap.size w w5 := hb04.trans (hb5.mono hb04.size)
  have hs5 := (((hs.below hb3).more hb3.size).below hb4).more hb4.size
  have hs6 := (hs5.below hb5).more hb5.size
  have HS := Lib.hid hs6
  clear hs hs5 hs6 hb1 hb2 hb3 hb4 hb5 hb02 hb03 hb04
  generalize ttT ⟨#[0, 3, 97, 98]⟩ = t1
  generalize ttR ⟨#[0, 3, 97, 98]⟩ = t2
  go_wp2_with fail
  refine (aw6 A c w5 HS.out).mono ?_
  rintro e w6 ⟨rfl, hb6⟩
  go_wp2
  go_ret
  exact ⟨rfl, hb05.trans (hb6.mono hb05.size)⟩

end Go.Proofs.Ytngiadcbmfbonaa
