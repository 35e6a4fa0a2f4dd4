/- Slices of changes that read as lists; values that are such; append onto a row of the call's own. -/
import Derived.Test.YtgpjbajfkagdbaaApp
import Derived.Test.YtgpjbajfkagdbaaCD
set_option linter.unusedVariables false
set_option linter.unusedSimpArgs false
namespace Go.Proofs.Ytgpjbajfkagdbaa
open Go.RowKit Go.Sort

def Ch.cells (x : Ch) : List Value := [.int .i64 x.seq, .string x.key, .bool x.had, .string x.before, .bool x.has, .string x.after]
theorem Ch.cells6 (x : Ch) : x.cells.length = 6 := rfl
abbrev Chs (w : World) (B : Nat) (A : Option Addr) (l : List Ch) : Prop := Lies Ch.cells 6 w B A l
theorem Lies.seeC {w : World} {B : Nat} {A : Option Addr} {l : List Ch} (h : Chs w B A l) (hl : 0 < l.length) : ∃ ad, A = some ad ∧ ad.block < B ∧ ∀ (i : Nat) (h : i < l.length),
    w.cell? (ad.add (i * 6)) = some (.int .i64 l[i].seq) ∧ w.cell? ⟨(ad.add (i * 6)).block, (ad.add (i * 6)).off + 1, none⟩ = some (.string l[i].key) ∧ w.cell? ⟨(ad.add (i * 6)).block, (ad.add (i * 6)).off + 2, none⟩ = some (.bool l[i].had) ∧ w.cell? ⟨(ad.add (i * 6)).block, (ad.add (i * 6)).off + 3, none⟩ = some (.string l[i].before)
     ∧ w.cell? ⟨(ad.add (i * 6)).block, (ad.add (i * 6)).off + 4, none⟩ = some (.bool l[i].has) ∧ w.cell? ⟨(ad.add (i * 6)).block, (ad.add (i * 6)).off + 5, none⟩ = some (.string l[i].after) := by
  obtain ⟨ad, e, hB, hc⟩ := h hl
  refine ⟨ad, e, hB, fun i hi => ⟨?_, ?_, ?_, ?_, ?_, ?_⟩⟩
  · have := hc i hi 0 _ rfl; rwa [Addr.add_zero'] at this
  · have := hc i hi 1 _ rfl; rwa [Addr.add_succ'] at this
  · have := hc i hi 2 _ rfl; rwa [Addr.add_succ'] at this
  · have := hc i hi 3 _ rfl; rwa [Addr.add_succ'] at this
  · have := hc i hi 4 _ rfl; rwa [Addr.add_succ'] at this
  · have := hc i hi 5 _ rfl; rwa [Addr.add_succ'] at this

theorem change_info : (Try.prog.info? 55).map (fun i => (i.zero, i.size, i.bytes)) = some (some (.agg #[.int .i64 0, .string ⟨#[]⟩, .bool false, .string ⟨#[]⟩, .bool false, .string ⟨#[]⟩]), 6, 72) := by kernel_rfl
theorem chs_len (l : List Ch) : (l.flatMap Ch.cells).length = l.length * 6 := by
  induction l with
  | nil => rfl
  | cons x l ih => rw [List.flatMap_cons, List.length_append, ih, Ch.cells6, List.length_cons]; omega
theorem chs_cells {w : World} {B : Nat} {ad : Addr} {l : List Ch} (h : Chs w B (some ad) l) : ∀ j u, (l.flatMap Ch.cells)[j]? = some u → w.cell? (ad.add j) = some u := by
  intro j u hu
  have hj : j < l.length * 6 := by rw [← chs_len]; exact (List.getElem?_eq_some_iff.1 hu).1
  obtain ⟨ad', e, _, hc⟩ := h (by omega)
  injection e with e
  subst e
  have h1 := flat_get Ch.cells6 l (j / 6) (by omega) (j % 6) (by omega)
  rw [show j / 6 * 6 + j % 6 = j by omega, hu] at h1
  have h2 := hc (j / 6) (by omega) (j % 6) u h1.symm
  rwa [Go.Addr.add_add, show j / 6 * 6 + j % 6 = j by omega] at h2
theorem chs_plain (l : List Ch) : ∀ u ∈ l.flatMap Ch.cells, u.oneCell' = true := by
  intro u hu
  obtain ⟨x, _, hx⟩ := List.mem_flatMap.1 hu
  unfold Ch.cells at hx
  simp at hx
  rcases hx with rfl | rfl | rfl | rfl | rfl | rfl <;> rfl

/-- A value that is a slice of these changes. -/
def CV (w : World) (v : Value) (l : List Ch) : Prop := ∃ A c, v = .slice A l.length c ∧ Chs w w.heap.size A l ∧ l.length ≤ c ∧ (A = none → c = 0)
theorem CV.on {w w' : World} {v : Value} {l : List Ch} (h : CV w v l) (hb : Below w.heap.size w w') : CV w' v l := by
  obtain ⟨A, c, e, hp, h2⟩ := h
  exact ⟨A, c, e, hp.on hb, h2⟩
theorem CV.push {w : World} {v : Value} {l : List Ch} (h : CV w v l) (o : Obj) : CV (w.alloc o) v l := h.on ((Below.refl _ w).alloc (Nat.le_refl _) o)
theorem CV.nil (w : World) : CV w (.slice none 0 0) [] := ⟨none, 0, rfl, Lies.nil, Nat.le_refl _, fun _ => rfl⟩
theorem CV.own {w : World} {base n : Nat} {v : Value} {l : List Ch} (h : w.ownsRow base 55 6 v n (l.flatMap Ch.cells)) (hn : n = l.length) : CV w v l := by
  subst hn
  obtain ⟨A, c, rfl⟩ := own_shape h
  have h1 := row_cap h
  exact ⟨A, c, rfl, Lies.own Ch.cells6 h, h1.1, h1.2⟩
theorem CV.lit {w : World} {C : Array Value} {l : List Ch} {g n : Nat} (hg : g = w.heap.size) (h : C.toList = l.flatMap Ch.cells) (hn : n = l.length) : CV (w.alloc (.cells C 55)) (.slice (some ⟨g, 0, none⟩) n n) l := by
  subst hg hn
  exact ⟨_, _, rfl, (Lies.lit Ch.cells6 h).more (by simp), Nat.le_refl _, fun h => by cases h⟩

end Go.Proofs.Ytgpjbajfkagdbaa
