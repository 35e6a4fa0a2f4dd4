/- The contracts of the document's functions at values whose shape is told. -/
import Derived.Test.YthoffknkpogfhaaKc
import Derived.Test.YthoffknkpogfhaaRClean
set_option linter.unusedVariables false
set_option linter.unusedSimpArgs false
namespace Go.Proofs.Ythoffknkpogfhaa
open Go.RowKit

theorem ref_s {s : Value} {l : List It} {n : Nat} (m : Int) (w : World) (hv : IV w s l) (hn : l.length = n) (h : n ≤ 1000) :
    Calls Try.prog 12 #[.agg #[.int .i64 m, s]] w fun e w' => ∃ A c, e = .returned (.agg #[.int .i64 m, .slice A n c]) ∧ IV w' (.slice A n c) l ∧ Below w.heap.size w w' := by
  refine (ref_any m w hv (by omega)).mono ?_
  rintro e w' ⟨s', rfl, hs, hb⟩
  obtain ⟨A, c, rfl⟩ := hs.shape hn
  exact ⟨A, c, rfl, hs, hb⟩
theorem refs_s {s : Value} {l : List It} {n : Nat} (w : World) (hv : IV w s l) (hn : l.length = n) (h : n ≤ 1000) :
    Calls Try.prog 15 #[s] w fun e w' => ∃ A c, e = .returned (.slice A n c) ∧ IV w' (.slice A n c) l ∧ Below w.heap.size w w' := by
  refine (refs_v hv (by omega)).mono ?_
  rintro e w' ⟨s', rfl, hs, hb⟩
  obtain ⟨A, c, rfl⟩ := hs.shape hn
  exact ⟨A, c, rfl, hs, hb⟩
theorem rget_s {s : Value} {l G : List It} {z : It} {is : Bool} {n : Nat} (m a : Int) (w : World) (hv : IV w s l) (hn : l.length = n) (hn1 : n ≤ 1000) (h1 : getL m l a = G) (h2 : getI m l a = z) (h3 : getB m l a = is) :
    Calls Try.prog 11 #[.agg #[.int .i64 m, s], .int .i64 a] w fun e w' => ∃ A c, e = .returned (.tuple #[.agg #[.int .i64 m, .slice A n c], .agg #[.int .i64 z.a, .string z.t, .bool z.d], .bool is]) ∧ IV w' (.slice A n c) G ∧ Below w.heap.size w w' := by
  refine (rget_any m a w hv (by omega)).mono ?_
  rintro e w' ⟨s', rfl, hs, hb⟩
  have hl : (getL m l a).length = n := by rw [getL_len, hn]
  obtain ⟨A, c, rfl⟩ := hs.shape hl
  rw [h1] at hs
  rw [h2, h3]
  exact ⟨A, c, rfl, hs, hb⟩
theorem rput_s {s it : Value} {l xs P O : List It} {np no : Nat} {R : Bool} (m : Int) (w : World) (hv : IV w s l) (hn : l.length ≤ 1000) (hx : IV w it xs) (hxn : xs.length ≤ 10000) (h : putC m l xs = (P, O)) (hp : P.length = np) (ho : O.length = no) (he : rightL m l = R) :
    Calls Try.prog 14 #[.agg #[.int .i64 m, s], it] w fun e w' => ∃ A c B d, e = .returned (.tuple #[.agg #[.int .i64 m, .slice A np c], .slice B no d, .bool R]) ∧ IV w' (.slice A np c) P ∧ IV w' (.slice B no d) O ∧ Below w.heap.size w w' := by
  refine (rput_any m w hv hn hx hxn).mono ?_
  rintro e w' ⟨s', o', rfl, h1, h2, hb⟩
  rw [h] at h1 h2
  obtain ⟨A, c, rfl⟩ := h1.shape hp
  obtain ⟨B, d, rfl⟩ := h2.shape ho
  rw [he]
  exact ⟨A, c, B, d, rfl, h1, h2, hb⟩
theorem rclean_s {s : Value} {l P O : List It} {np no : Nat} (m : Int) (w : World) (hv : IV w s l) (hn : l.length ≤ 1000) (h : cleanC m l = (P, O)) (hp : P.length = np) (ho : O.length = no) :
    Calls Try.prog 17 #[.agg #[.int .i64 m, s]] w fun e w' => ∃ A c B d, e = .returned (.tuple #[.agg #[.int .i64 m, .slice A np c], .slice B no d]) ∧ IV w' (.slice A np c) P ∧ IV w' (.slice B no d) O ∧ Below w.heap.size w w' := by
  refine (rclean_any m w hv hn).mono ?_
  rintro e w' ⟨s', o', rfl, h1, h2, hb⟩
  rw [h] at h1 h2
  obtain ⟨A, c, rfl⟩ := h1.shape hp
  obtain ⟨B, d, rfl⟩ := h2.shape ho
  exact ⟨A, c, B, d, rfl, h1, h2, hb⟩
theorem rright_s {s : Value} {l : List It} {b : Bool} (m : Int) (w : World) (hv : IV w s l) (hn : l.length ≤ 1000000) (h : rightL m l = b) :
    Calls Try.prog 20 #[.agg #[.int .i64 m, s]] w fun e w' => e = .returned (.bool b) ∧ Below w.heap.size w w' := by
  rw [← h]; exact rright_any m w hv hn
theorem rsame_yes {v u : Value} {l : List It} {w : World} (h : IV w v l) (g : IV w u l) (hn : l.length ≤ 10000) :
    Calls Try.prog 22 #[v, u] w fun e w' => e = .returned (.bool true) ∧ Below w.heap.size w w' := by
  have := rsame_v h g hn
  rw [decide_eq_true rfl] at this
  exact this
theorem putC_len (m : Int) (l xs : List It) (hl : l.length ≤ 1000) : (putC m l xs).1.length ≤ 1000 ∧ (putC m l xs).2.length ≤ xs.length := by
  unfold putC
  cases h : rightL m l with
  | false => exact ⟨by simpa using hl, by simp⟩
  | true =>
    rw [if_pos rfl]
    exact ⟨Nat.le_trans (right_len (put_right h xs)) (by decide), put_out_len m l xs⟩
theorem cleanC_len (m : Int) (l : List It) : (cleanC m l).1.length = l.length ∧ (cleanC m l).2.length ≤ l.length := by
  unfold cleanC
  cases h : rightL m l with
  | false => exact ⟨by simp, by simp⟩
  | true =>
    rw [if_pos rfl]
    exact ⟨by simp, List.length_filter_le _ _⟩

end Go.Proofs.Ythoffknkpogfhaa
