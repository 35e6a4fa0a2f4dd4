/- A variable's block and the disk that it holds, as one; Write at a place; Put, whatever comes of it. -/
import Derived.Test.YthcolmdfpciolaaBack
namespace Go.Proofs.Ythcolmdfpciolaa
open Go.RowKit

theorem has_nat {n a k : Nat} (h : a + k ≤ n) : hasB n a k = true := by
  unfold hasB
  exact decide_eq_true (by omega)
theorem write_nat {v : Value} {S : List ByteArray} {W : List Wr} {a : Nat} {ai : Int} {t : ByteArray} {w : World} (ha : ai = a) (h : DV w v S W) (hm : W.length ≤ 100000) (ht : t.size ≤ 65535) (hR : rightB S W = true) (hh : a + needN t.size ≤ S.length) :
    Calls Try.prog 24 #[v, .int .i64 ai, .string t] w fun e w' => ∃ v', e = .returned (.tuple #[v', .int .i64 0]) ∧ DV w' v' S (W ++ putL a (secsL t.data.toList)) ∧ Below w.heap.size w w' := by
  subst ha
  exact write_ok h hm ht hR (has_nat hh)
theorem right_write {S : List ByteArray} {W : List Wr} {a : Nat} {t : ByteArray} (hR : rightB S W = true) (hh : a + needN t.size ≤ S.length) : rightB S (W ++ putL a (secsL t.data.toList)) = true :=
  put_right hR (secs_fill _) (by rw [secs_len']; exact has_nat hh)
theorem len_write (W : List Wr) (a : Nat) (t : ByteArray) : (W ++ putL a (secsL t.data.toList)).length = W.length + needN t.size := by rw [List.length_append, put_len, secs_len']

/-- A value that is a disk, and the block of a variable that holds it. -/
structure Holds (w0 w : World) (g : Nat) (A : Option Addr) (n c : Nat) (B : Option Addr) (m d : Nat) (S : List ByteArray) (W : List Wr) : Prop where
  dv : DV w (.agg #[.slice A n c, .slice B m d]) S W
  blk : DBlk w g A n c B m d
  low : w0.heap.size ≤ g
  below : Below w0.heap.size w0 w
theorem Holds.on {w0 w w' : World} {g : Nat} {A : Option Addr} {n c : Nat} {B : Option Addr} {m d : Nat} {S : List ByteArray} {W : List Wr} (h : Holds w0 w g A n c B m d S W) (hb : Below w.heap.size w w') : Holds w0 w' g A n c B m d S W :=
  ⟨h.dv.on hb, Box.on h.blk hb, h.low, h.below.trans (hb.mono h.below.size)⟩
theorem Holds.fresh {w0 w : World} {A : Option Addr} {n c : Nat} {B : Option Addr} {m d : Nat} {S : List ByteArray} {W : List Wr} (h : DV w (.agg #[.slice A n c, .slice B m d]) S W) (hb : Below w0.heap.size w0 w) : Holds w0 (w.alloc (.cells #[.slice A n c, .slice B m d] 25)) w.heap.size A n c B m d S W :=
  ⟨h.on ((Below.refl _ _).alloc (Nat.le_refl _) _), Box.fresh _ _ _, hb.size, hb.alloc hb.size _⟩
theorem Holds.put {w0 w : World} {g : Nat} {A : Option Addr} {n c : Nat} {B : Option Addr} {m d : Nat} {S : List ByteArray} {W : List Wr} {A' : Option Addr} {n' c' : Nat} {B' : Option Addr} {m' d' : Nat} {S' : List ByteArray} {W' : List Wr} (h : Holds w0 w g A n c B m d S W) (hv : DV w (.agg #[.slice A' n' c', .slice B' m' d']) S' W') :
    Holds w0 ((w.setCell ⟨g, 0, none⟩ (.slice A' n' c')).setCell ⟨g, 1, none⟩ (.slice B' m' d')) g A' n' c' B' m' d' S' W' :=
  ⟨hv.apart h.blk A' n' c' B' m' d', Box.set (Box.set h.blk 0 _) 1 _, h.low, (h.below.setCell h.low _).setCell h.low _⟩

/-- Put, whatever comes of it. -/
def putsB (n : Nat) (a : Int) (l : List ByteArray) : Bool := fillB l && hasB n a l.length
def putW (n : Nat) (W : List Wr) (a : Int) (l : List ByteArray) : List Wr := if putsB n a l then W ++ putL a l else W
def putE (n : Nat) (a : Int) (l : List ByteArray) : Int := if putsB n a l then 0 else 1
theorem put_dv {v t : Value} {S : List ByteArray} {W : List Wr} {a : Int} {l : List ByteArray} {w : World} (h : DV w v S W) (ht : SV w t l) (hm : W.length ≤ 100000) (hl : l.length ≤ 100000) (hR : rightB S W = true) :
    Calls Try.prog 40 #[v, .int .i64 a, t] w fun e w' => ∃ v', e = .returned (.tuple #[v', .int .i64 (putE S.length a l)]) ∧ DV w' v' S (putW S.length W a l) ∧ Below w.heap.size w w' := by
  unfold putE putW putsB
  cases hok : (fillB l && hasB S.length a l.length) with
  | true =>
    rw [Bool.and_eq_true] at hok
    exact put_dv_ok h ht hm hl hR hok.1 hok.2
  | false =>
    rw [Bool.and_eq_false_iff] at hok
    refine (put_dv_bad h ht (by omega) (by omega) hR hok).mono ?_
    rintro e w' ⟨he, hb⟩
    exact ⟨v, he, h.on hb, hb⟩
theorem putW_right {S : List ByteArray} {W : List Wr} {a : Int} {l : List ByteArray} (hR : rightB S W = true) : rightB S (putW S.length W a l) = true := by
  unfold putW putsB
  split
  · rename_i h
    rw [Bool.and_eq_true] at h
    exact put_right hR h.1 h.2
  · exact hR
theorem putW_len (n : Nat) (W : List Wr) (a : Int) (l : List ByteArray) : (putW n W a l).length ≤ W.length + l.length := by
  unfold putW
  split
  · rw [List.length_append, put_len]; omega
  · omega
theorem Lays.putW {S : List ByteArray} {W : List Wr} {a : Nat} {t : ByteArray} (hl : Lays S W a t) (b : Nat) (l : List ByteArray) (hd : b + l.length ≤ a ∨ a + needN t.size ≤ b) : Lays S (putW S.length W b l) a t := by
  unfold Go.Proofs.Ythcolmdfpciolaa.putW
  split
  · rename_i h
    unfold putsB hasB at h
    simp only [Bool.and_eq_true, decide_eq_true_eq] at h
    exact hl.apart b l (by omega) hd
  · exact hl
theorem has_parts {n : Nat} {a : Int} {k : Nat} (h : hasB n a k = true) : ∃ b : Nat, a = b ∧ b + k ≤ n := by
  unfold hasB at h
  simp only [decide_eq_true_eq] at h
  exact ⟨a.toNat, by omega, by omega⟩

end Go.Proofs.Ythcolmdfpciolaa
