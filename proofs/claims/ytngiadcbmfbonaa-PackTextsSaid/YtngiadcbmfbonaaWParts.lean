/- The walks of Parts and of the document's Parts: what each does to the world. -/
import Derived.Test.YtngiadcbmfbonaaWTexts
namespace Go.Proofs.Ytngiadcbmfbonaa
open Go.RowKit

/-- The texts of which s is Texts, if there are any: at most f of them are looked for. -/
def partsF : Nat → ByteArray → Option (List ByteArray)
  | 0, s => if s.size = 0 then some [] else none
  | f + 1, s => if s.size = 0 then some [] else if ttOk s then (partsF f (ttR s)).map (ttT s :: ·) else none
def parts (s : ByteArray) : Option (List ByteArray) := partsF s.size s
def partsL (s : ByteArray) : List ByteArray := (parts s).getD []
def partsE (s : ByteArray) : Int := if (parts s).isSome then 0 else 2

theorem ttR_size (s : ByteArray) (h : ttOk s = true) : (ttR s).size + 2 + (ttT s).size = s.size := by
  have h2 := h
  simp only [ttOk, Bool.and_eq_true, decide_eq_true_eq] at h2
  simp only [ttR, ttT, h, if_true, ByteArray.size_extract]
  omega

theorem partsF_fuel : ∀ (f g : Nat) (s : ByteArray), s.size ≤ f → s.size ≤ g → partsF f s = partsF g s := by
  intro f
  induction f with
  | zero =>
    intro g s hf hg
    have : s.size = 0 := by omega
    cases g <;> simp [partsF, this]
  | succ f ih =>
    intro g s hf hg
    cases g with
    | zero =>
      have : s.size = 0 := by omega
      simp [partsF, this]
    | succ g =>
      simp only [partsF]
      by_cases h0 : s.size = 0
      · simp [h0]
      · rw [if_neg h0, if_neg h0]
        by_cases ho : ttOk s = true
        · have hz := ttR_size s ho
          rw [if_pos ho, if_pos ho, ih g (ttR s) (by omega) (by omega)]
        · rw [if_neg ho, if_neg ho]

theorem parts_nil (s : ByteArray) (h : s.size = 0) : parts s = some [] := by unfold parts; rw [h]; simp [partsF, h]
theorem parts_ok (s : ByteArray) (h : s.size ≠ 0) (ho : ttOk s = true) : parts s = (parts (ttR s)).map (ttT s :: ·) := by
  have hz := ttR_size s ho
  unfold parts
  obtain ⟨f, hf⟩ : ∃ f, s.size = f + 1 := ⟨s.size - 1, by omega⟩
  rw [hf]
  simp only [partsF]
  rw [if_neg h, if_pos ho, partsF_fuel f (ttR s).size (ttR s) (by omega) (Nat.le_refl _)]
theorem parts_no (s : ByteArray) (h : s.size ≠ 0) (ho : ttOk s = false) : parts s = none := by
  unfold parts
  obtain ⟨f, hf⟩ : ∃ f, s.size = f + 1 := ⟨s.size - 1, by omega⟩
  rw [hf]
  simp [partsF, h, ho]

/-- What is left, when the texts ls are taken: r. -/
def Taken (s r : ByteArray) (ls : List ByteArray) : Prop := parts s = (parts r).map (ls ++ ·) ∧ 2 * ls.length + r.size ≤ s.size
theorem Taken.start (s : ByteArray) : Taken s s [] := ⟨by simp, by simp⟩
theorem Taken.step {s r : ByteArray} {ls : List ByteArray} (h : Taken s r ls) (h0 : r.size ≠ 0) (ho : ttOk r = true) : Taken s (ttR r) (ls ++ [ttT r]) := by
  have hz := ttR_size r ho
  refine ⟨?_, by have := h.2; simp; omega⟩
  rw [h.1, parts_ok r h0 ho, Option.map_map]
  congr 1
  funext l; simp
theorem Taken.done {s r : ByteArray} {ls : List ByteArray} (h : Taken s r ls) (h0 : r.size = 0) : parts s = some ls := by
  rw [h.1, parts_nil r h0]; simp
theorem Taken.none {s r : ByteArray} {ls : List ByteArray} (h : Taken s r ls) (h0 : r.size ≠ 0) (ho : ttOk r = false) : parts s = .none := by
  rw [h.1, parts_no r h0 ho]; rfl

def strLen : Value → Nat
  | .string s => s.size
  | _ => 0

theorem str_info : (Try.prog.info? 9).map (fun i => (i.zero, i.size, i.bytes)) = some (some (.string ⟨#[]⟩), 1, 16) := by kernel_rfl

/-- A row of strings of the call's own reads as a list. -/
theorem strs_of_own {w : World} {base : Nat} {A : Option Addr} {n c : Nat} {ls : List ByteArray} (h : w.ownsRow base 9 1 (.slice A n c) ls.length (ls.map Value.string)) : Strs w w.heap.size A ls := by
  intro hl
  rcases h.2 with ⟨_, h0⟩ | ⟨g, cap, cur, hv, hbg, hg, _⟩
  · omega
  · injection hv with hA
    subst hA
    have hlt := (h.lt g rfl).2
    refine ⟨_, rfl, hlt, fun i hi => ?_⟩
    have := h.cells (g := g) rfl i (.string ls[i]) (by simp [hi])
    exact this

theorem own_shape {w : World} {base n : Nat} {e : TypeId} {v : Value} {xs : List Value} (h : w.ownsRow base e 1 v n xs) : ∃ A c, v = .slice A n c := by
  rcases h.2 with ⟨hv, h0⟩ | ⟨g, cap, cur, hv, _⟩
  · exact ⟨_, _, by rw [hv, h0]⟩
  · exact ⟨_, _, hv⟩

theorem empty_str {r : ByteArray} (h : r.size = 0) : r = ⟨#[]⟩ := by
  apply ByteArray.ext
  apply Array.eq_empty_of_size_eq_zero
  exact h

theorem nonempty_str {r : ByteArray} (h : r.size ≠ 0) : r.toList.isEmpty = false := by
  rw [ByteArray.toList_eq, List.isEmpty_eq_false_iff]
  intro e
  have : r.data.toList.length = r.size := by simp
  rw [e] at this; simp at this; omega

/-- What a call of Parts comes to. -/
def PartsPost (s : ByteArray) (w : World) (e : Ending) (w' : World) : Prop :=
  ∃ (A : Option Addr) (c : Nat), e = .returned (.tuple #[.slice A (partsL s).length c, .int .i64 (partsE s)]) ∧ Strs w' w'.heap.size A (partsL s) ∧ Below w.heap.size w w'

set_option maxHeartbeats 400000 in
theorem parts_any (s : ByteArray) (w : World) (hs : s.size ≤ 4294967296) :
    Calls Try.prog 19 #[.string s] w (PartsPost s w) := by
  obtain ⟨i0, hi0, hz0, hz1, hz2⟩ := info_parts str_info
  go_enter Try.func19, Try.ntmps19
  go_wp2
  go_loopw [0, 4] (fun q v wr => ∃ (r : ByteArray) (ls : List ByteArray), q = .string r ∧ Taken s r ls ∧ wr.ownsRow w.heap.size 9 1 v ls.length (ls.map Value.string) ∧ Below w.heap.size w wr) (fun q _ _ => strLen q)
  case atStart => exact ⟨s, [], rfl, Taken.start s, World.ownsRow_nil _ _ _ _, Below.refl _ _⟩
  case round =>
    obtain ⟨r, ls, rfl, htk, hown, hbr⟩ := hrel
    have hsz := htk.2
    have HT := Lib.hid htk
    clear htk
    obtain ⟨A, c, rfl⟩ := own_shape hown
    by_cases h0 : r.size = 0
    · have e : parts s = some ls := HT.out.done h0
      have HL := Lib.hid (show partsL s = ls by simp [partsL, e])
      have HE := Lib.hid (show partsE s = 0 by simp [partsE, e])
      have HA := Lib.hid (strs_of_own hown)
      obtain rfl := empty_str h0
      clear e hown h0
      go_wp2
      go_ret2
      refine ⟨A, c, ?_, ?_, hbr⟩
      · rw [HL.out, HE.out]; rfl
      · rw [HL.out]; exact HA.out
    · have hne := nonempty_str h0
      by_cases ho : ttOk r = true
      · have hz := ttR_size r ho
        have HN := Lib.hid (HT.out.step h0 ho)
        have HE := Lib.hid (show ttE r = 0 by simp [ttE, ho])
        have HO := Lib.hid hown
        clear ho hown
        go_wp2_with fail
        refine (tt_any r _ (by unfold maxLen; omega)).mono ?_
        rintro e w1 ⟨rfl, hb1⟩
        rw [HE.out]
        have hbr1 : Below w.heap.size w w1 := hbr.trans (hb1.mono hbr.size)
        have hown1 : w1.ownsRow w.heap.size 9 1 (.slice A ls.length c) ls.length (ls.map Value.string) := HO.out.kept (row := .none) ⟨hb1.os, hb1.tape, hb1.output, hb1.size, fun k hk _ => hb1.block k hk⟩ (by cases A <;> simp [Value.ownBlock])
        have HZ := Lib.hid hz
        clear hz
        go_wp2_with (at_builtin; refine wpList_append_own _ rfl _ _ 34 rfl w.heap.size 9 i0 (.string ⟨#[]⟩) 1 16 Try.underlying34 hi0 hz0 hz1 hz2 rfl (by decide) _ _ _ rfl (hown1.alloc _) ⟨w1.heap.size, 0, none⟩ 1 1 [.string (ttT r)] rfl rfl ?c1 ?c2 ?c3 ?c4 ?c5 ?_)
        case c1 =>
          intro j u hj
          match j, hj with
          | 0, hj => simp at hj; subst hj; simp [Addr.add]
        case c2 => intro u hu; simp at hu; subst hu; rfl
        case c3 => unfold maxLen; omega
        case c4 => omega
        case c5 => have := hbr1.size; simp; omega
        intro v' w2 hown2 hg2 _
        have hbr2 : Below w.heap.size w w2 := (hbr1.alloc hbr1.size _).grown hg2 (by have := hbr1.size; simp; omega) (fun k hk => (hown1.lt k hk).1)
        have HO2 := Lib.hid hown2
        clear hown1 hown2 hg2
        go_wp2
        go_roundw
        case rel => exact ⟨ttR r, ls ++ [ttT r], rfl, HN.out, by simpa using HO2.out, hbr2⟩
        case measure => have := HZ.out; simp only [strLen]; omega
      · have e : parts s = .none := HT.out.none h0 (by simpa using ho)
        have HL := Lib.hid (show partsL s = [] by simp [partsL, e])
        have HF := Lib.hid (show partsE s = 2 by simp [partsE, e])
        have HE := Lib.hid (show ttE r = 2 by simp [ttE, ho])
        clear ho hown e
        go_wp2_with fail
        refine (tt_any r _ (by unfold maxLen; omega)).mono ?_
        rintro e w1 ⟨rfl, hb1⟩
        rw [HE.out]
        go_wp2
        go_ret2
        refine ⟨.none, 0, ?_, ?_, hbr.trans (hb1.mono hbr.size)⟩
        · rw [HL.out, HF.out]; rfl
        · rw [HL.out]; exact Strs.nil _ _ _

theorem cut_end (s : ByteArray) (p h : Nat) (hp : p ≤ s.size) : (s.extract p s.size).extract h (s.size - p) = s.extract (p + h) s.size := by
  rw [cut_cut s p h (s.size - p) (by omega), Nat.add_sub_of_le hp]

theorem rest_of (s : ByteArray) (p : Nat) (hp : p ≤ s.size) (ho : ttOk (s.extract p s.size) = true) :
    s.extract (s.size - (ttR (s.extract p s.size)).size) s.size = ttR (s.extract p s.size) ∧ (ttR (s.extract p s.size)).size ≤ s.size := by
  have hrs : (s.extract p s.size).size = s.size - p := by simp
  have h2 := ho
  simp only [ttOk, Bool.and_eq_true, decide_eq_true_eq] at h2
  have e2 : ttR (s.extract p s.size) = s.extract (p + (2 + head2 (s.extract p s.size))) s.size := by
    rw [ttR, if_pos ho, hrs]
    exact cut_end s p _ hp
  generalize head2 (s.extract p s.size) = h at *
  rw [e2, hrs] at *
  have e3 : (s.extract (p + (2 + h)) s.size).size = s.size - (p + (2 + h)) := by simp
  rw [e3]
  have h3 := h2.2
  constructor
  · rw [show s.size - (s.size - (p + (2 + h))) = p + (2 + h) by omega]
  · omega

set_option maxHeartbeats 400000 in
theorem rparts_any (s : ByteArray) (w : World) (hs : s.size ≤ 4294967296) :
    Calls Try.prog 20 #[.string s] w (PartsPost s w) := by
  obtain ⟨i0, hi0, hz0, hz1, hz2⟩ := info_parts str_info
  go_enter Try.func20, Try.ntmps20
  go_wp2
  go_loopw [4, 5] (fun v i wr => ∃ (p : Nat) (ls : List ByteArray), i = .int .i64 p ∧ p ≤ s.size ∧ Taken s (s.extract p s.size) ls ∧ wr.ownsRow w.heap.size 9 1 v ls.length (ls.map Value.string) ∧ Below w.heap.size w wr) (fun _ i _ => (s.size - intOf i).toNat)
  case atStart => exact ⟨0, [], rfl, by omega, by simpa using Taken.start s, World.ownsRow_nil _ _ _ _, Below.refl _ _⟩
  case round =>
    obtain ⟨p, ls, rfl, hp, htk, hown, hbr⟩ := hrel
    have hrs : (s.extract p s.size).size = s.size - p := by simp
    have hll : 2 * ls.length ≤ s.size := by have := htk.2; omega
    have HT := Lib.hid htk
    have HS := Lib.hid hrs
    clear htk hrs
    obtain ⟨A, c, rfl⟩ := own_shape hown
    by_cases h0 : p < s.size
    · obtain ⟨r, hr⟩ : ∃ r, r = s.extract p s.size := ⟨_, rfl⟩
      have HR := Lib.hid hr
      have hr0 : r.size ≠ 0 := by rw [hr]; have := HS.out; omega
      have hrm : r.size ≤ maxLen := by rw [hr]; have := HS.out; unfold maxLen; omega
      clear hr
      by_cases ho : ttOk r = true
      · have ho2 : ttOk (s.extract p s.size) = true := by rw [← HR.out]; exact ho
        have hro := rest_of s p hp ho2
        have hz := ttR_size _ ho2
        have HN := Lib.hid (HT.out.step (by have := HS.out; omega) ho2)
        rw [← HR.out] at hro hz HN
        have hrl := hro.2
        have HP := Lib.hid hro.1
        have hrz : (ttR r).size + 2 + p ≤ s.size := by rw [HR.out] at hz ⊢; have := HS.out; omega
        have HE := Lib.hid (show ttE r = 0 by simp [ttE, ho])
        have HO := Lib.hid hown
        clear ho hown ho2 hro hz hrl
        go_wp2_with fail
        rw [← HR.out]
        refine (rtt_any r _ hrm).mono ?_
        rintro e w1 ⟨rfl, hb1⟩
        rw [HE.out]
        have hbr1 : Below w.heap.size w w1 := hbr.trans (hb1.mono hbr.size)
        have hown1 : w1.ownsRow w.heap.size 9 1 (.slice A ls.length c) ls.length (ls.map Value.string) := HO.out.kept (row := .none) ⟨hb1.os, hb1.tape, hb1.output, hb1.size, fun k hk _ => hb1.block k hk⟩ (by cases A <;> simp [Value.ownBlock])
        generalize hrr : ttR r = rr at *
        generalize htt : ttT r = tt at *
        have HRR := Lib.hid hrr
        clear hrr htt
        go_wp2_with (at_builtin; refine wpList_append_own _ rfl _ _ 34 rfl w.heap.size 9 i0 (.string ⟨#[]⟩) 1 16 Try.underlying34 hi0 hz0 hz1 hz2 rfl (by decide) _ _ _ rfl (hown1.alloc _) ⟨w1.heap.size, 0, none⟩ 1 1 [.string tt] rfl rfl ?c1 ?c2 ?c3 ?c4 ?c5 ?_)
        case c1 =>
          intro j u hj
          match j, hj with
          | 0, hj => simp at hj; subst hj; simp [Addr.add]
        case c2 => intro u hu; simp at hu; subst hu; rfl
        case c3 => unfold maxLen; omega
        case c4 => omega
        case c5 => have := hbr1.size; simp; omega
        intro v' w2 hown2 hg2 _
        have hbr2 : Below w.heap.size w w2 := (hbr1.alloc hbr1.size _).grown hg2 (by have := hbr1.size; simp; omega) (fun k hk => (hown1.lt k hk).1)
        have HO2 := Lib.hid hown2
        clear hown1 hown2 hg2
        go_wp2
        go_roundw
        case rel => exact ⟨s.size - rr.size, ls ++ [tt], by go_num, by omega, by rw [HP.out]; exact HN.out, by simpa using HO2.out, hbr2⟩
        case measure => simp only [intOf]; omega
      · have e : parts s = .none := HT.out.none (by have := HS.out; omega) (by rw [← HR.out]; simpa using ho)
        have HL := Lib.hid (show partsL s = [] by simp [partsL, e])
        have HF := Lib.hid (show partsE s = 2 by simp [partsE, e])
        have HE := Lib.hid (show ttE r = 2 by simp [ttE, ho])
        clear ho hown e
        go_wp2_with fail
        rw [← HR.out]
        refine (rtt_any r _ hrm).mono ?_
        rintro e w1 ⟨rfl, hb1⟩
        rw [HE.out]
        go_wp2
        go_ret2
        refine ⟨.none, 0, ?_, ?_, hbr.trans (hb1.mono hbr.size)⟩
        · rw [HL.out, HF.out]; rfl
        · rw [HL.out]; exact Strs.nil _ _ _
    · have e : parts s = some ls := HT.out.done (by have := HS.out; omega)
      have HL := Lib.hid (show partsL s = ls by simp [partsL, e])
      have HE := Lib.hid (show partsE s = 0 by simp [partsE, e])
      have HA := Lib.hid (strs_of_own hown)
      clear e hown
      go_wp2
      go_ret2
      refine ⟨A, c, ?_, ?_, hbr⟩
      · rw [HL.out, HE.out]; rfl
      · rw [HL.out]; exact HA.out

end Go.Proofs.Ytngiadcbmfbonaa
