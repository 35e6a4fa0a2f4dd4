/- The contracts of the cache at values whose shape is told. -/
import Derived.Test.YthoffknkpogfhaaAwk
set_option linter.unusedVariables false
set_option linter.unusedSimpArgs false
namespace Go.Proofs.Ythoffknkpogfhaa
open Go.RowKit

theorem IV.shape {w : World} {v : Value} {l : List It} {n : Nat} (h : IV w v l) (hn : l.length = n) : ∃ A c, v = .slice A n c := by
  obtain ⟨A, c, rfl, _⟩ := h
  exact ⟨A, c, by rw [hn]⟩
theorem get_s {s : Value} {l G : List It} {z : It} {is : Bool} {n : Nat} (m a : Int) (w : World) (hv : IV w s l) (hn : l.length = n) (hn1 : n ≤ 1000) (h1 : getL m l a = G) (h2 : getI m l a = z) (h3 : getB m l a = is) :
    Calls Try.prog 10 #[.agg #[.int .i64 m, s], .int .i64 a] w fun e w' => ∃ A c, e = .returned (.tuple #[.agg #[.int .i64 m, .slice A n c], .agg #[.int .i64 z.a, .string z.t, .bool z.d], .bool is]) ∧ IV w' (.slice A n c) G ∧ Below w.heap.size w w' := by
  refine (get_any m a w hv (by omega)).mono ?_
  rintro e w' ⟨s', rfl, hs, hb⟩
  have hl : (getL m l a).length = n := by rw [getL_len, hn]
  obtain ⟨A, c, rfl⟩ := hs.shape hl
  rw [h1] at hs
  rw [h2, h3]
  exact ⟨A, c, rfl, hs, hb⟩
theorem put_s {s it : Value} {l xs P O : List It} {np no : Nat} {er : Int} (m : Int) (w : World) (hv : IV w s l) (hn : l.length ≤ 1000) (hx : IV w it xs) (hxn : xs.length ≤ 10000) (h : putC m l xs = (P, O)) (hp : P.length = np) (ho : O.length = no) (he : (if rightL m l then 0 else 1) = er) :
    Calls Try.prog 13 #[.agg #[.int .i64 m, s], it] w fun e w' => ∃ A c B d, e = .returned (.tuple #[.agg #[.int .i64 m, .slice A np c], .slice B no d, .int .i64 er]) ∧ IV w' (.slice A np c) P ∧ IV w' (.slice B no d) O ∧ Below w.heap.size w w' := by
  refine (put_any m w hv hn hx hxn).mono ?_
  rintro e w' ⟨s', o', rfl, h1, h2, hb⟩
  rw [h] at h1 h2
  obtain ⟨A, c, rfl⟩ := h1.shape hp
  obtain ⟨B, d, rfl⟩ := h2.shape ho
  rw [he]
  exact ⟨A, c, B, d, rfl, h1, h2, hb⟩
theorem clean_s {s : Value} {l P O : List It} {np no : Nat} (m : Int) (w : World) (hv : IV w s l) (hn : l.length ≤ 1000) (h : cleanC m l = (P, O)) (hp : P.length = np) (ho : O.length = no) :
    Calls Try.prog 16 #[.agg #[.int .i64 m, s]] w fun e w' => ∃ A c B d, e = .returned (.tuple #[.agg #[.int .i64 m, .slice A np c], .slice B no d]) ∧ IV w' (.slice A np c) P ∧ IV w' (.slice B no d) O ∧ Below w.heap.size w w' := by
  refine (clean_any m w hv hn).mono ?_
  rintro e w' ⟨s', o', rfl, h1, h2, hb⟩
  rw [h] at h1 h2
  obtain ⟨A, c, rfl⟩ := h1.shape hp
  obtain ⟨B, d, rfl⟩ := h2.shape ho
  exact ⟨A, c, B, d, rfl, h1, h2, hb⟩
theorem right_s {s : Value} {l : List It} {b : Bool} (m : Int) (w : World) (hv : IV w s l) (hn : l.length ≤ 1000000) (h : rightL m l = b) :
    Calls Try.prog 19 #[.agg #[.int .i64 m, s]] w fun e w' => e = .returned (.bool b) ∧ Below w.heap.size w w' := by
  rw [← h]; exact right_any m w hv hn
theorem same_s {s u : Value} {l h : List It} (m k : Int) (w : World) (hv : IV w s l) (hu : IV w u h) (hn : l.length ≤ 1000) {b : Bool} (hb : decide (m = k ∧ l = h) = b) :
    Calls Try.prog 18 #[.agg #[.int .i64 m, s], .agg #[.int .i64 k, u]] w fun e w' => e = .returned (.bool b) ∧ Below w.heap.size w w' := by
  rw [← hb]; exact same_v m k w hv hu hn
theorem same_yes {s u : Value} {l : List It} (m : Int) (w : World) (hv : IV w s l) (hu : IV w u l) (hn : l.length ≤ 1000) :
    Calls Try.prog 18 #[.agg #[.int .i64 m, s], .agg #[.int .i64 m, u]] w fun e w' => e = .returned (.bool true) ∧ Below w.heap.size w w' :=
  same_s m m w hv hu hn (by simp)

end Go.Proofs.Ythoffknkpogfhaa
