/- Trees apart from a block that is as it was made; deletes of all keys. -/
import Derived.Test.YteddjmkoleclpaaFT
set_option linter.unusedVariables false
set_option linter.unusedSimpArgs false
namespace Go.Proofs.Yteddjmkoleclpaa
open Go.RowKit Go.Sort

/-- A tree's block as it was made. -/
abbrev ZB (w : World) (g : Nat) : Prop := TBox w g ⟨noB, nilS, nilS, nilS⟩
theorem ZB.at {w : World} {g : Nat} (h : ZB w g) (k : Nat) : w.cell? ⟨g, k, none⟩ = (#[Value.string noB, .slice none 0 0, .slice none 0 0, .slice none 0 0] : Array Value)[k]? := cell_of_row w g k _ _ (0, 0) h
theorem ZB.string {w : World} {g off : Nat} {x : ByteArray} (h : ZB w g) (hc : w.cell? ⟨g, off + 1, none⟩ = some (.string x)) : False := by
  rw [h.at] at hc
  match off, hc with
  | 0, hc => simp at hc
  | 1, hc => simp at hc
  | 2, hc => simp at hc
  | n + 3, hc => simp at hc
theorem SlB.offz {α : Type} {cs : α → List Value} {k : Nat} {w : World} {S : Nat → Prop} {s : Sl} {l : List α} {g : Nat} (h : SlB cs k w S s l) (hne : ∀ (hl : 0 < l.length) (ad : Addr), s.a = some ad → (∀ (j : Nat) (v : Value), (cs (l[0]'hl))[j]? = some v → w.cell? (ad.add j) = some v) → ad.block ≠ g) : SlB cs k w (fun b => S b ∧ b ≠ g) s l := by
  refine ⟨h.1, fun hl => ?_, h.2.2⟩
  obtain ⟨ad, e, hS, hc⟩ := h.2.1 hl
  refine ⟨ad, e, ⟨hS, hne hl ad e fun j v hv => ?_⟩, hc⟩
  have := hc 0 hl j v hv
  rwa [Nat.zero_mul, Addr.add_zero'] at this
theorem SlB.pairs_off {w : World} {S : Nat → Prop} {s : Sl} {l : List Pr} {g : Nat} (h : SlB Pr.cells 2 w S s l) (hz : ZB w g) : SlB Pr.cells 2 w (fun b => S b ∧ b ≠ g) s l :=
  h.offz fun hl ad _ hc eb => by
    have c1 := hc 1 (.string (l[0]'hl).v) rfl
    rw [Addr.add_succ', eb] at c1
    exact hz.string c1
theorem SlB.notes_off {w : World} {S : Nat → Prop} {s : Sl} {l : List Nt} {g : Nat} (h : SlB Nt.cells 4 w S s l) (hz : ZB w g) : SlB Nt.cells 4 w (fun b => S b ∧ b ≠ g) s l :=
  h.offz fun hl ad _ hc eb => by
    have c1 := hc 1 (.string (l[0]'hl).key) rfl
    rw [Addr.add_succ', eb] at c1
    exact hz.string c1
theorem ZB.nodes {w : World} {g : Nat} {ad : Addr} {y : Nr} (hz : ZB w g) (eb : ad.block = g) (hc : ∀ (j : Nat) (v : Value), y.cells[j]? = some v → w.cell? (ad.add j) = some v) : y.k.n = 0 ∧ y.p.n = 0 := by
  have c1 := hc 1 (.slice y.k.a y.k.n y.k.c) rfl
  have c3 := hc 3 (.slice y.p.a y.p.n y.p.c) rfl
  rw [Addr.add_succ', eb, hz.at] at c1 c3
  match ad.off, c1, c3 with
  | 0, c1, c3 =>
    simp at c1 c3
    exact ⟨c1.2.1.symm, c3.2.1.symm⟩
  | n + 1, c1, c3 =>
    simp at c3
theorem AllN.imp2 {α β : Type} {R R' : α → β → Prop} : ∀ {l : List α} {m : List β}, AllN R l m → (∀ x y, y ∈ m → R x y → R' x y) → AllN R' l m
  | [], [], _, _ => trivial
  | x :: l, y :: m, h, g => ⟨g x y List.mem_cons_self h.1, AllN.imp2 h.2 fun a b hb => g a b (List.mem_cons_of_mem _ hb)⟩
  | [], _ :: _, h, _ => h.elim
  | _ :: _, [], h, _ => h.elim
theorem AllN.head {α β : Type} {R : α → β → Prop} : ∀ {l : List α} {m : List β}, AllN R l m → ∀ (hl : 0 < l.length), ∃ y ∈ m, R (l[0]'hl) y
  | [], _, _, hl => absurd hl (by simp)
  | x :: l, y :: m, h, _ => ⟨y, List.mem_cons_self, h.1⟩
  | _ :: _, [], h, _ => h.elim
theorem okN_some {lo : ByteArray} {hi : Option ByteArray} {t : List Pr} (h : okN 0 lo hi t) : t ≠ [] := by
  rintro rfl
  obtain ⟨_, h⟩ := h
  simp at h
theorem NodeB.offz {w : World} {g : Nat} (hz : ZB w g) : ∀ (h : Nat) {S : Nat → Prop} {r : Nr} {lo : ByteArray} {hi : Option ByteArray} {t : TrH h}, NodeB h w S r lo t → okN h lo hi t → NodeB h w (fun b => S b ∧ b ≠ g) r lo t
  | 0, _, _, _, _, _, hn, _ => ⟨hn.1, hn.2.1, hn.2.2.1, hn.2.2.2.pairs_off hz⟩
  | h + 1, S, r, lo, hi, t, hn, hok => by
    obtain ⟨h1, h2, h3, rs, h4, h5⟩ := hn
    have hmem := (okNK_mem hok.2.2.2.2.2).1
    refine ⟨h1, h2.notes_off hz, h3, rs, h4.offz fun hl ad _ hc eb => ?_, h5.imp2 fun x k hk hx => ?_⟩
    · obtain ⟨k, hk, hy⟩ := AllN.head h5 hl
      obtain ⟨e1, e2⟩ := hz.nodes eb hc
      obtain ⟨b, hb, _⟩ := hmem k hk
      cases h with
      | zero =>
        have e3 := hy.2.2.2.1
        rw [e2] at e3
        exact okN_some hb (List.length_eq_zero_iff.1 e3.symm)
      | succ h =>
        obtain ⟨_, _, _, rs2, g4, g5⟩ := hy
        have e3 := g4.1
        rw [e1] at e3
        obtain rfl := List.length_eq_zero_iff.1 e3.symm
        obtain ⟨_, _, _, _, ⟨x, r0, e⟩, _⟩ := hb
        rw [e] at g5
        exact g5.elim
    · obtain ⟨b, hb, _⟩ := hmem k hk
      exact NodeB.offz hz h hx hb
theorem TreeS.zoff {w : World} {g : Nat} {S : Nat → Prop} {v : Value} {p : List Pr} {M H : Nat} (h : TreeS w S v p M H) (hz : ZB w g) : TreeS w (fun b => S b ∧ b ≠ g) v p M H := by
  obtain ⟨n, r, t, e, h1, h2, h3⟩ := h
  refine ⟨n, r, t, e, ?_, h2, h3⟩
  cases n with
  | zero => exact ⟨h1.1, h1.2.1, h1.2.2.1, h1.2.2.2.pairs_off hz⟩
  | succ n => exact NodeB.offz hz (n + 1) h1 h2
theorem TreeS.put2 {g g2 : Nat} {w : World} {v : Value} {p : List Pr} {M H : Nat} (h : TreeS w (fun b => Off g2 w b ∧ b ≠ g) v p M H) (a b c d : Value) :
    TreeS ((((w.setCell ⟨g, 0, none⟩ a).setCell ⟨g, 1, none⟩ b).setCell ⟨g, 2, none⟩ c).setCell ⟨g, 3, none⟩ d) (Off g2 ((((w.setCell ⟨g, 0, none⟩ a).setCell ⟨g, 1, none⟩ b).setCell ⟨g, 2, none⟩ c).setCell ⟨g, 3, none⟩ d)) v p M H := by
  refine (h.keep fun q hq => ?_).mono fun b hb => ⟨by have := hb.1.1; simpa using this, hb.1.2⟩
  have hne : q.block ≠ g := hq.2
  simp only [World.cell?]
  rw [Below.heap_setCell _ _ _ _ (show q.block ≠ (⟨g, 3, none⟩ : Addr).block from hne), Below.heap_setCell _ _ _ _ (show q.block ≠ (⟨g, 2, none⟩ : Addr).block from hne), Below.heap_setCell _ _ _ _ (show q.block ≠ (⟨g, 1, none⟩ : Addr).block from hne), Below.heap_setCell _ _ _ _ (show q.block ≠ (⟨g, 0, none⟩ : Addr).block from hne)]

/-! All keys deleted. -/
def delN (p : Pr) : Nt := ⟨2, p.k, noB, 0⟩
theorem steps_del : ∀ (l : List Nt) (o : Option ByteArray), (∀ n ∈ l, n.kind = 2) → l ≠ [] ∨ o = none → stepsO o l = none
  | [], o, _, h => by
    rcases h with h | h
    · exact absurd rfl h
    · rw [stepsO_nil, h]
  | n :: l, o, hk, _ => by
    rw [stepsO_cons]
    refine steps_del l _ (fun m hm => hk m (List.mem_cons_of_mem _ hm)) (.inr ?_)
    have h2 := hk n List.mem_cons_self
    unfold stepsO step optOf
    simp [h2]
theorem fold_del {P : List Pr} (hs : Sorted P) (d : Nat) : foldOne P (turnN (P.map delN) d) = [] := by
  refine sorted_ext (sorted_fold hs _) .nil fun k => ?_
  rw [getL_fold, getL_nil]
  refine steps_del _ _ (fun n hn => ?_) ?_
  · obtain ⟨p, _, rfl⟩ := List.mem_map.1 (turnN_mem (List.mem_filter.1 hn).1)
    rfl
  · by_cases h : ∃ p ∈ P, p.k = k
    · obtain ⟨p, hp, rfl⟩ := h
      left
      have h1 : delN p ∈ (turnN (P.map delN) d).filter fun n => decide (n.key = p.k) := List.mem_filter.2 ⟨turnN_back d (List.mem_map.2 ⟨p, hp, rfl⟩), by simp [delN]⟩
      intro e
      rw [e] at h1
      cases h1
    · right
      exact getL_none fun p hp e => h ⟨p, hp, e⟩

end Go.Proofs.Yteddjmkoleclpaa
