/- The walk of pack.Texts. -/
import Derived.Test.YtfbcmcckgjfdhaaWBuild
import Derived.Test.YtfbcmcckgjfdhaaBp
set_option linter.unusedVariables false
set_option linter.unusedSimpArgs false
namespace Go.Proofs.Ytfbcmcckgjfdhaa
open Go.RowKit

/-- What the document says of Texts. -/
def cat (ss : List ByteArray) : List UInt8 := ss.flatMap fun t => (textS t).data.toList

def allOk (ss : List ByteArray) : Bool := ss.all textOk

def textsS (ss : List ByteArray) : ByteArray := if allOk ss then ⟨(cat ss).toArray⟩ else ⟨#[]⟩

def textsE (ss : List ByteArray) : Int := if allOk ss then 0 else 1

theorem textS_size (t : ByteArray) : (textS t).size ≤ 65537 := by
  unfold textS
  by_cases h : textOk t = true
  · rw [if_pos h]
    simp only [textOk, decide_eq_true_eq] at h
    rw [ByteArray.size_append]
    have : (ByteArray.mk (be 2 t.size).toArray).size = 2 := by
      show (be 2 t.size).toArray.size = 2
      simp [be_length]
    omega
  · rw [if_neg h]; show 0 ≤ 65537; omega

theorem cat_take_succ (ss : List ByteArray) (k : Nat) (h : k < ss.length) : cat (ss.take (k + 1)) = cat (ss.take k) ++ (textS ss[k]).data.toList := by
  rw [List.take_succ_eq_append_getElem h]; unfold cat; rw [List.flatMap_append, List.flatMap_singleton]

theorem cat_length (ss : List ByteArray) : (cat ss).length ≤ 65537 * ss.length := by
  induction ss with
  | nil => simp [cat]
  | cons t ss ih =>
    have h1 := textS_size t
    have h2 : (textS t).data.toList.length = (textS t).size := by simp
    simp only [cat, List.flatMap_cons, List.length_append, List.length_cons] at ih ⊢
    omega

theorem allOk_take {ss : List ByteArray} {k : Nat} (h : k < ss.length) : allOk (ss.take (k + 1)) = (allOk (ss.take k) && textOk ss[k]) := by
  rw [List.take_succ_eq_append_getElem h]; unfold allOk; rw [List.all_append, List.all_cons, List.all_nil, Bool.and_true]

theorem allOk_no {ss : List ByteArray} {k : Nat} (h : k < ss.length) (e : textOk ss[k] = false) : allOk ss = false := by
  unfold allOk
  rw [List.all_eq_false]
  exact ⟨_, List.getElem_mem h, by simp [e]⟩

theorem textE_ok {t : ByteArray} (h : textOk t = true) : textE t = 0 := by simp [textE, h]

theorem textE_no {t : ByteArray} (h : textOk t = false) : textE t = 1 := by simp [textE, h]

set_option maxHeartbeats 400000 in
set_option maxRecDepth 100000 in
theorem texts_any (A : Option Addr) (c : Nat) (ss : List ByteArray) (w : World) (hA : Strs w w.heap.size A ss) (hn : ss.length ≤ 65536) (hs : ∀ t ∈ ss, t.size ≤ maxLen) :
    Calls Try.prog 70 #[.slice A ss.length c] w fun e w' => e = .returned (.tuple #[.string (textsS ss), .int .i64 (textsE ss)]) ∧ Below w.heap.size w w' := by
  generalize hl : ss.length = n at *
  have HL := Lib.hid hl
  have HA := Lib.hid hA
  have HS := Lib.hid hs
  clear hl hA hs
  go_enter Try.func70, Try.ntmps70
  go_wp2
  go_loopw [11] (fun i wr => ∃ (k : Nat), i = .int .i64 k ∧ k ≤ n ∧ allOk (ss.take k) = true ∧ Lib.IsBuilder 116 5 w.heap.size w.heap.size (Lib.byteCells (cat (ss.take k))) wr ∧ Below w.heap.size w wr) (fun i _ => (n - intOf i).toNat)
  case atStart => exact ⟨0, rfl, by omega, by simp [allOk], Lib.fresh_isBuilder _ _ w, (Below.refl _ _).alloc (Nat.le_refl _) _⟩
  case round =>
    obtain ⟨k, rfl, hk, hok, hbd, hbr⟩ := hrel
    have HO := Lib.hid hok
    have HB := Lib.hid hbd
    clear hok hbd
    by_cases hlt : k < n
    · obtain ⟨a1, rfl, hab, hca⟩ := (HA.out.below hbr) (by rw [HL.out]; omega)
      have c1 := hca k (by rw [HL.out]; omega)
      have hm := HS.out _ (List.getElem_mem (by rw [HL.out]; omega : k < ss.length))
      obtain ⟨x, hx⟩ : ∃ x, x = ss[k]'(by rw [HL.out]; omega) := ⟨_, rfl⟩
      rw [← hx] at c1 hm
      have HX := Lib.hid hx
      clear hx hca
      by_cases hxo : textOk x = true
      · have HE := Lib.hid (textE_ok hxo)
        have HXO := Lib.hid hxo
        clear hxo
        go_wp2_with fail
        refine (text_any x _ hm).mono ?_
        rintro e w1 ⟨rfl, hb1⟩
        rw [HE.out]
        have HB1 := Lib.hid (bld_below HB.out hb1)
        have hbr1 : Below w.heap.size w w1 := hbr.trans (hb1.mono hbr.size)
        have hlen : (Lib.byteCells (cat (ss.take k))).length + (textS x).size ≤ 140737488355328 := by
          have h1 := cat_length (ss.take k)
          have h2 := textS_size x
          rw [List.length_take] at h1
          rw [Lib.byteCells_length]; omega
        go_wp2_with fail
        refine (write_any _ _ _ (textS x) _ HB1.out hlen hbr1.size).mono ?_
        rintro e w2 ⟨rfl, hb2, hb3⟩
        have HB2 := Lib.hid hb2
        clear hb2 hlen
        go_wp2
        go_roundw
        case rel =>
          refine ⟨k + 1, by go_num, by omega, ?_, ?_, hbr1.trans hb3⟩
          · rw [allOk_take (by rw [HL.out]; omega), HO.out, ← HX.out, HXO.out]; rfl
          · have e : Lib.byteCells (cat (ss.take (k + 1))) = Lib.byteCells (cat (ss.take k)) ++ Lib.strCells (textS x) := by
              rw [cat_take_succ ss k (by rw [HL.out]; omega), ← HX.out]; simp [Lib.byteCells, Lib.strCells]
            rw [e]
            exact .inr HB2.out
        case measure => simp [intOf]; omega
      · have HE := Lib.hid (textE_no (by simpa using hxo))
        have e0 : allOk ss = false := allOk_no (by rw [HL.out]; omega : k < ss.length) (by rw [← HX.out]; simpa using hxo)
        have HF := Lib.hid (show textsS ss = ⟨#[]⟩ by simp [textsS, e0])
        have HG := Lib.hid (show textsE ss = 1 by simp [textsE, e0])
        clear hxo e0
        go_wp2_with fail
        refine (text_any x _ hm).mono ?_
        rintro e w1 ⟨rfl, hb1⟩
        rw [HE.out]
        go_wp2
        go_ret2
        rw [HF.out, HG.out]
        exact ⟨rfl, hbr.trans (hb1.mono hbr.size)⟩
    · have hkn : k = n := by omega
      have e0 : allOk ss = true := by
        have h := HO.out
        rwa [List.take_of_length_le (by rw [HL.out]; omega)] at h
      have HF := Lib.hid (show textsS ss = ⟨(cat ss).toArray⟩ by simp [textsS, e0])
      have HG := Lib.hid (show textsE ss = 0 by simp [textsE, e0])
      have HB1 := HB.out
      rw [List.take_of_length_le (by rw [HL.out]; omega)] at HB1
      have HB2 := Lib.hid HB1
      clear HB1 e0 hkn
      go_wp2_with fail
      refine (Try.Builder_String_any _ _ (cat ss) _ HB2.out hbr.size).mono ?_
      rintro e w1 ⟨rfl, hb1⟩
      go_wp2
      go_ret2
      rw [HF.out, HG.out]
      exact ⟨rfl, hbr.trans hb1⟩

end Go.Proofs.Ytfbcmcckgjfdhaa
