/- The contracts of the disk's calls, of values that are disks. -/
import Derived.Test.YtdgjnjhmjgdhnaaDoorWPut
import Derived.Test.YtdgjnjhmjgdhnaaDoorWRead
import Derived.Test.YtdgjnjhmjgdhnaaDoorWRef
import Derived.Test.YtdgjnjhmjgdhnaaDoorWCrash
namespace Go.Proofs.YtdgjnjhmjgdhnaaDoor
open Go.RowKit

/-- A value that is a slice of these bools; of these strings. -/
def BV (w : World) (v : Value) (l : List Bool) : Prop := ∃ A c, v = .slice A l.length c ∧ Bls w w.heap.size A l
def SV (w : World) (v : Value) (l : List ByteArray) : Prop := ∃ A c, v = .slice A l.length c ∧ Strs w w.heap.size A l
theorem BV.on {w w' : World} {v : Value} {l : List Bool} (h : BV w v l) (hb : Below w.heap.size w w') : BV w' v l := by
  obtain ⟨A, c, e, hp⟩ := h
  exact ⟨A, c, e, hp.on hb⟩
theorem SV.on {w w' : World} {v : Value} {l : List ByteArray} (h : SV w v l) (hb : Below w.heap.size w w') : SV w' v l := by
  obtain ⟨A, c, e, hp⟩ := h
  exact ⟨A, c, e, hp.on hb⟩
theorem BV.nil (w : World) : BV w (.slice none 0 0) [] := ⟨none, 0, rfl, Lies.nil⟩

theorem right_dv {v : Value} {S : List ByteArray} {W : List Wr} {w : World} (h : DV w v S W) (hn : S.length ≤ 1000000) (hm : W.length ≤ 1000000) :
    Calls Tryd.prog 46 #[v] w fun e w' => e = .returned (.bool (rightB S W)) ∧ Below w.heap.size w w' := by
  obtain ⟨A, c, B, d, rfl, hA, hB⟩ := h
  exact right_any A c S B d W w hA hB hn hm
theorem flush_dv {v : Value} {S : List ByteArray} {W : List Wr} {w : World} (h : DV w v S W) (hm : W.length ≤ 1000000) (hR : rightB S W = true) :
    Calls Tryd.prog 25 #[v] w fun e w' => ∃ v', e = .returned v' ∧ DV w' v' (doneL S W) [] ∧ Below w.heap.size w w' := by
  obtain ⟨A, c, B, d, rfl, hA, hB⟩ := h
  exact flush_right A c S B d W w hA hB hm hR
theorem put_dv_ok {v t : Value} {S : List ByteArray} {W : List Wr} {a : Int} {l : List ByteArray} {w : World} (h : DV w v S W) (ht : SV w t l) (hm : W.length ≤ 100000) (hl : l.length ≤ 100000) (hR : rightB S W = true) (hf : fillB l = true) (hh : hasB S.length a l.length = true) :
    Calls Tryd.prog 41 #[v, .int .i64 a, t] w fun e w' => ∃ v', e = .returned (.tuple #[v', .int .i64 0]) ∧ DV w' v' S (W ++ putL a l) ∧ Below w.heap.size w w' := by
  obtain ⟨A, c, B, d, rfl, hA, hB⟩ := h
  obtain ⟨T, tc, rfl, hT⟩ := ht
  exact put_ok A c S B d W a T tc l w hA hB hT hm hl hR hf hh
theorem put_dv_bad {v t : Value} {S : List ByteArray} {W : List Wr} {a : Int} {l : List ByteArray} {w : World} (h : DV w v S W) (ht : SV w t l) (hm : W.length ≤ 1000000) (hl : l.length ≤ 1000000) (hR : rightB S W = true) (hbad : fillB l = false ∨ hasB S.length a l.length = false) :
    Calls Tryd.prog 41 #[v, .int .i64 a, t] w fun e w' => e = .returned (.tuple #[v, .int .i64 1]) ∧ Below w.heap.size w w' := by
  obtain ⟨A, c, B, d, rfl, hA, hB⟩ := h
  obtain ⟨T, tc, rfl, hT⟩ := ht
  exact put_bad A c S B d W a T tc l w hA hB hT hm hl hR hbad
theorem read_dv {v : Value} {S : List ByteArray} {W : List Wr} {a k : Nat} {w : World} (h : DV w v S W) (hm : W.length ≤ 1000000) (hR : rightB S W = true) (hak : a + k ≤ S.length) :
    Calls Tryd.prog 37 #[v, .int .i64 a, .int .i64 k] w fun e w' => e = .returned (.tuple #[.string (flatS (((doneL S W).drop a).take k)), .int .i64 0]) ∧ Below w.heap.size w w' := by
  obtain ⟨A, c, B, d, rfl, hA, hB⟩ := h
  exact read_ok A c S B d W a k w hA hB hm hR hak
theorem ref_dv {v : Value} {S : List ByteArray} {W : List Wr} {w : World} (h : DV w v S W) (h24 : W.length * 24 ≤ 140737488355328) :
    Calls Tryd.prog 18 #[v] w fun e w' => ∃ v', e = .returned v' ∧ DV w' v' S W ∧ Below w.heap.size w w' := by
  obtain ⟨A, c, B, d, rfl, hA, hB⟩ := h
  exact ref_any A c S B d W w hA hB h24
/-- One sector, read. -/
theorem read_one {v : Value} {S : List ByteArray} {W : List Wr} {i : Nat} {w : World} (h : DV w v S W) (hm : W.length ≤ 1000000) (hR : rightB S W = true) (hi : i < S.length) :
    Calls Tryd.prog 37 #[v, .int .i64 i, .int .i64 1] w fun e w' => e = .returned (.tuple #[.string ((doneL S W)[i]'(by rw [done_len]; exact hi)), .int .i64 0]) ∧ Below w.heap.size w w' := by
  have h1 := read_dv (a := i) (k := 1) h hm hR (by omega)
  have e : ((doneL S W).drop i).take 1 = [(doneL S W)[i]'(by rw [done_len]; exact hi)] := by
    rw [List.drop_eq_getElem_cons (by rw [done_len]; exact hi)]
    rfl
  rw [e, flat_one] at h1
  exact h1

set_option maxRecDepth 100000 in
theorem crash_dv {v k : Value} {S : List ByteArray} {W : List Wr} {ks : List Bool} {w : World} (h : DV w v S W) (hk : BV w k ks) (hm : W.length ≤ 1000000) (hl : ks.length ≤ 1000000) (hR : rightB S W = true) :
    Calls Tryd.prog 26 #[v, k] w fun e w' => ∃ v', e = .returned v' ∧ DV w' v' (doneL S (keptL ks W)) [] ∧ Below w.heap.size w w' := by
  obtain ⟨A, c, B, d, rfl, hA, hB⟩ := h
  obtain ⟨K, kc, rfl, hK⟩ := hk
  exact crash_right A c S B d W K kc ks w hA hB hK hm hl hR

end Go.Proofs.YtdgjnjhmjgdhnaaDoor
