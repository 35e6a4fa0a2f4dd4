/- What was written is read: plain facts, and the contracts at them. -/
import Derived.Test.YthcolmdfpciolaaWTell
namespace Go.Proofs.Ythcolmdfpciolaa
open Go.RowKit

theorem read_put (S : List ByteArray) (W : List Wr) (a : Nat) (l : List ByteArray) (h : a + l.length ≤ S.length) : ((doneL S (W ++ putL a l)).drop a).take l.length = l := by
  apply List.ext_getElem
  · rw [List.length_take, List.length_drop, done_len]
    omega
  · intro i h1 h2
    rw [List.getElem_take, List.getElem_drop]
    have hi : a + i < S.length := by omega
    have e := done_put (doneL S W) a l (by rw [done_len]; exact h) (a + i) (by rw [done_len]; exact hi)
    simp only [done_append]
    rw [e, dif_pos (by omega)]
    congr 1
    omega
theorem read_apart (S : List ByteArray) (W : List Wr) (a k b : Nat) (l : List ByteArray) (h : b + l.length ≤ S.length) (hk : a + k ≤ S.length) (hd : b + l.length ≤ a ∨ a + k ≤ b) : ((doneL S (W ++ putL b l)).drop a).take k = ((doneL S W).drop a).take k := by
  apply List.ext_getElem
  · rw [List.length_take, List.length_drop, done_len, List.length_take, List.length_drop, done_len]
  · intro i h1 h2
    rw [List.getElem_take, List.getElem_drop, List.getElem_take, List.getElem_drop]
    have hi : i < k := by rw [List.length_take] at h1; omega
    have e := done_put (doneL S W) b l (by rw [done_len]; exact h) (a + i) (by rw [done_len]; omega)
    simp only [done_append]
    rw [e, dif_neg (by omega)]

/-- The sectors from a on are those of t. -/
def Lays (S : List ByteArray) (W : List Wr) (a : Nat) (t : ByteArray) : Prop := a + needN t.size ≤ S.length ∧ ((doneL S W).drop a).take (needN t.size) = secsL t.data.toList
theorem secs_len' (t : ByteArray) : (secsL t.data.toList).length = needN t.size := by rw [secs_len]; simp
theorem Lays.put (S : List ByteArray) (W : List Wr) (a : Nat) (t : ByteArray) (h : a + needN t.size ≤ S.length) : Lays S (W ++ putL a (secsL t.data.toList)) a t := by
  refine ⟨h, ?_⟩
  have e := read_put S W a (secsL t.data.toList) (by rw [secs_len']; exact h)
  rwa [secs_len'] at e
theorem Lays.apart {S : List ByteArray} {W : List Wr} {a : Nat} {t : ByteArray} (hl : Lays S W a t) (b : Nat) (l : List ByteArray) (h : b + l.length ≤ S.length) (hd : b + l.length ≤ a ∨ a + needN t.size ≤ b) : Lays S (W ++ putL b l) a t :=
  ⟨hl.1, (read_apart S W a (needN t.size) b l h hl.1 hd).trans hl.2⟩
theorem Lays.flush {S : List ByteArray} {W : List Wr} {a : Nat} {t : ByteArray} (hl : Lays S W a t) : Lays (doneL S W) [] a t := ⟨by rw [done_len]; exact hl.1, hl.2⟩

theorem back_any {v : Value} {S : List ByteArray} {W : List Wr} {a k : Nat} {t : ByteArray} {w : World} (h : DV w v S W) (hm : W.length ≤ 1000000) (hR : rightB S W = true) (hl : Lays S W a t) (ht : t.size ≤ 65535) (hk : k = needN t.size) :
    Calls Try.prog 28 #[v, .int .i64 a, .int .i64 k] w fun e w' => e = .returned (.tuple #[.string t, .int .i64 0]) ∧ Below w.heap.size w w' := by
  subst hk
  have h1 := tell_any (a := a) (k := needN t.size) h hm hR hl.1
  have e : (readS S W a (needN t.size)).data.toList = padL (bytesL t.data.toList) := by
    unfold readS
    rw [hl.2, flat_secs]
  have hb := tell_back t.data.toList (by simpa using ht)
  rw [show t.data.toList.length = t.size by simp] at hb
  rw [e, hb.1, hb.2] at h1
  exact h1

end Go.Proofs.Ythcolmdfpciolaa
