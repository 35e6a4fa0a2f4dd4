/- Values that are slices of pairs, or of notes. -/
import Derived.Test.YtfbcmcckgjfdhaaPrs
set_option linter.unusedVariables false
set_option linter.unusedSimpArgs false
namespace Go.Proofs.Ytfbcmcckgjfdhaa
open Go.RowKit

theorem row_cap {w : World} {base n k c : Nat} {e : TypeId} {A : Option Addr} {xs : List Value} (h : w.ownsRow base e k (.slice A n c) n xs) : n ≤ c ∧ (A = none → c = 0) := by
  rcases h.2 with ⟨hv, h0⟩ | ⟨g, cap, cur, hv, _, _, h1, _⟩
  · injection hv with e1 e2 e3
    exact ⟨by omega, fun _ => e3⟩
  · injection hv with e1 e2 e3
    exact ⟨by omega, fun h => by rw [e1] at h; cases h⟩

/-- A value that is a slice of these pairs, or notes. -/
def PV (w : World) (v : Value) (l : List Pr) : Prop := ∃ A c, v = .slice A l.length c ∧ Prs w w.heap.size A l ∧ l.length ≤ c ∧ (A = none → c = 0)

def NV (w : World) (v : Value) (l : List Nt) : Prop := ∃ A c, v = .slice A l.length c ∧ Nts w w.heap.size A l ∧ l.length ≤ c ∧ (A = none → c = 0)

theorem PV.on {w w' : World} {v : Value} {l : List Pr} (h : PV w v l) (hb : Below w.heap.size w w') : PV w' v l := by
  obtain ⟨A, c, e, hp, h2⟩ := h
  exact ⟨A, c, e, hp.on hb, h2⟩

theorem NV.on {w w' : World} {v : Value} {l : List Nt} (h : NV w v l) (hb : Below w.heap.size w w') : NV w' v l := by
  obtain ⟨A, c, e, hp, h2⟩ := h
  exact ⟨A, c, e, hp.on hb, h2⟩

theorem PV.push {w : World} {v : Value} {l : List Pr} (h : PV w v l) (o : Obj) : PV (w.alloc o) v l := h.on ((Below.refl _ w).alloc (Nat.le_refl _) o)

theorem NV.push {w : World} {v : Value} {l : List Nt} (h : NV w v l) (o : Obj) : NV (w.alloc o) v l := h.on ((Below.refl _ w).alloc (Nat.le_refl _) o)

theorem PV.nil (w : World) : PV w (.slice none 0 0) [] := ⟨none, 0, rfl, Lies.nil, Nat.le_refl _, fun _ => rfl⟩

theorem NV.nil (w : World) : NV w (.slice none 0 0) [] := ⟨none, 0, rfl, Lies.nil, Nat.le_refl _, fun _ => rfl⟩

theorem PV.own {w : World} {base n : Nat} {v : Value} {l : List Pr} (h : w.ownsRow base 66 2 v n (l.flatMap Pr.cells)) (hn : n = l.length) : PV w v l := by
  subst hn
  obtain ⟨A, c, rfl⟩ := own_shape h
  have h1 := row_cap h
  exact ⟨A, c, rfl, Lies.own Pr.cells2 h, h1.1, h1.2⟩

theorem NV.own {w : World} {base n : Nat} {v : Value} {l : List Nt} (h : w.ownsRow base 62 4 v n (l.flatMap Nt.cells)) (hn : n = l.length) : NV w v l := by
  subst hn
  obtain ⟨A, c, rfl⟩ := own_shape h
  have h1 := row_cap h
  exact ⟨A, c, rfl, Lies.own Nt.cells4 h, h1.1, h1.2⟩

theorem PV.lit {w : World} {C : Array Value} {l : List Pr} {g n : Nat} (hg : g = w.heap.size) (h : C.toList = l.flatMap Pr.cells) (hn : n = l.length) : PV (w.alloc (.cells C 66)) (.slice (some ⟨g, 0, none⟩) n n) l := by
  subst hg hn
  exact ⟨_, _, rfl, (Lies.lit Pr.cells2 h).more (by simp), Nat.le_refl _, fun h => by cases h⟩

theorem NV.lit {w : World} {C : Array Value} {l : List Nt} {g n : Nat} (hg : g = w.heap.size) (h : C.toList = l.flatMap Nt.cells) (hn : n = l.length) : NV (w.alloc (.cells C 62)) (.slice (some ⟨g, 0, none⟩) n n) l := by
  subst hg hn
  exact ⟨_, _, rfl, (Lies.lit Nt.cells4 h).more (by simp), Nat.le_refl _, fun h => by cases h⟩

theorem right_v {v : Value} {l : List Pr} {w : World} (h : PV w v l) (hn : l.length ≤ maxLen) :
    Calls Try.prog 69 #[v] w fun e w' => e = .returned (.bool (wellL l)) ∧ Below w.heap.size w w' := by
  obtain ⟨A, c, rfl, h1, h2, h3⟩ := h
  exact right_pr A c l w h1 hn

theorem same_v {v u : Value} {l m : List Pr} {w : World} (h : PV w v l) (g : PV w u m) (hn : l.length ≤ maxLen) :
    Calls Try.prog 36 #[v, u] w fun e w' => e = .returned (.bool (decide (l = m))) ∧ Below w.heap.size w w' := by
  obtain ⟨A, c, rfl, h1, h2, h3⟩ := h
  obtain ⟨B, d, rfl, g1, g2, g3⟩ := g
  exact same_any A B c d l m w h1 g1 hn

end Go.Proofs.Ytfbcmcckgjfdhaa
