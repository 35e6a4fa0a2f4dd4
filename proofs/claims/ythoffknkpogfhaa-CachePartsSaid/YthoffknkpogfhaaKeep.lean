/- append onto a row of the call's own that is read on afterwards: the old slice reads as it did, and what the new one says of the old one's block holds however often it is laid. Nothing of the program. -/
import Derived.Laws.OwnMore
import Derived.Laws.AppendOwn
set_option linter.unusedVariables false
set_option linter.unusedSimpArgs false
namespace Go.Proofs.Ythoffknkpogfhaa

section
variable {P : Program} {w : World} {base e size n m cap g : Nat} {xs news : List Value}

theorem own_front (h : w.ownsRow base e size (.slice (some ⟨g, 0, none⟩) (n + m) cap) (n + m) (xs ++ news)) (hx : xs.length = n * size) :
    w.ownsRow base e size (.slice (some ⟨g, 0, none⟩) n cap) n xs := by
  refine ⟨hx, ?_⟩
  rcases h.2 with ⟨h0, _⟩ | ⟨g', cap', cur, hv, hb, hg, hc, hm, hs, ht⟩
  · simp at h0
  · simp only [Value.slice.injEq, Option.some.injEq, Addr.mk.injEq, and_true, true_and] at hv
    obtain ⟨rfl, rfl⟩ := hv
    refine .inr ⟨g, cap, cur, rfl, hb, hg, by omega, hm, hs, ?_⟩
    have h1 : (cur.toList.take ((n + m) * size)).take (n * size) = xs := by rw [ht, ← hx]; exact List.take_left
    rw [List.take_take, Nat.min_eq_left (Nat.mul_le_mul_right _ (Nat.le_add_right n m))] at h1
    exact h1

/-- 'append(v, x...)', v a row of the call's own that is no nil: v reads on; the new slice holds both; the block of v says nothing else than it said, or what the new one says. -/
theorem run_append_keeps (t ty : TypeId) (i : TypeInfo) (z : Value) (bytes : Nat) (ht : P.underlying t = some (.slice e)) (hi : P.info? e = some i) (hz : i.zero = some z) (hsize : i.size = size) (hby : i.bytes = bytes) (hzs : z.cells.size = size)
    (hown : w.ownsRow base e size (.slice (some ⟨g, 0, none⟩) n cap) n xs) (a : Addr) (c : Nat) (hl : news.length = m * size) (hnews : ∀ j u, news[j]? = some u → w.cell? (a.add j) = some u) (h1 : ∀ u ∈ news, u.oneCell' = true)
    (h63 : n + m ≤ 1000000) (hbytes : (n + m) * bytes ≤ 140737488355328) :
    ∃ v' w', (Builtin.append_ #[t, t] ty #[.slice (some ⟨g, 0, none⟩) n cap, .slice (some a) m c]).run P w = .ok v' w' ∧ w'.ownsRow base e size (.slice (some ⟨g, 0, none⟩) n cap) n xs ∧ w.grownBy w' (some g) ∧
      (∃ g' c', v' = .slice (some ⟨g', 0, none⟩) (n + m) c' ∧ g' < w'.heap.size ∧ ∀ j u, (xs ++ news)[j]? = some u → w'.cell? ⟨g', j, none⟩ = some u) ∧
      (∀ j u, (xs ++ news)[j]? = some u → w.cell? ⟨g, j, none⟩ = some u → w'.cell? ⟨g, j, none⟩ = some u) := by
  have hadd : ∀ k j : Nat, (⟨k, 0, none⟩ : Addr).add j = ⟨k, j, none⟩ := fun k j => by unfold Addr.add; split <;> simp_all
  by_cases hroom : n + m ≤ cap
  · obtain ⟨w', hr, ho, hg⟩ := run_append_fits (P := P) w base t ty e i size ht hi hsize g n cap xs hown a m c news hl hnews h1 hroom
    have hc : ∀ j u, (xs ++ news)[j]? = some u → w'.cell? ⟨g, j, none⟩ = some u := fun j u hu => by
      have := ho.cells (g := g) rfl j u hu
      rwa [hadd] at this
    exact ⟨_, w', hr, own_front ho hown.1, hg, ⟨g, cap, rfl, (ho.lt g rfl).2, hc⟩, fun j u hu _ => hc j u hu⟩
  · subst hsize
    subst hby
    have hr := run_append_grow (P := P) w t ty e i z ht hi hz ⟨g, 0, none⟩ n cap xs hown.1 (hown.cells (g := g) rfl) a m c news hl hnews (by omega) (by omega) (growslice_fits (by omega) hbytes)
    have hlt := (hown.lt g rfl).2
    have hold : ∀ k, k < w.heap.size → (w.drew.alloc (.cells (xs.toArray ++ news.toArray ++ Builtin.zeroCells z.cells (grownCap w (n + m) cap e - (n + m))) e)).heap[k]? = w.heap[k]? := fun k hk => heap_alloc_old w.drew _ k hk
    have hgb : w.grownBy (w.drew.alloc (.cells (xs.toArray ++ news.toArray ++ Builtin.zeroCells z.cells (grownCap w (n + m) cap e - (n + m))) e)) none := ⟨rfl, rfl, rfl, by simp, fun k hk _ => hold k hk⟩
    refine ⟨_, _, hr, hown.kept hgb (.inr (by simp [Value.ownBlock])), ⟨hgb.os, hgb.tape, hgb.output, hgb.size, fun k hk _ => hold k hk⟩, ⟨w.heap.size, _, rfl, by simp, fun j u hu => ?_⟩, fun j u _ hu => ?_⟩
    · have hn := heap_alloc_new w.drew (.cells (xs.toArray ++ news.toArray ++ Builtin.zeroCells z.cells (grownCap w (n + m) cap e - (n + m))) e)
      refine (cell_of_row _ w.heap.size j _ e (0, 0) hn).trans ?_
      rw [← Array.getElem?_toList, Array.toList_append, Array.toList_append]
      rw [List.getElem?_append_left (by simpa using (List.getElem?_eq_some_iff.1 hu).1)]
      simpa using hu
    · rw [← hu]
      exact World.cell?_of_block (hold g hlt)
end

end Go.Proofs.Ythoffknkpogfhaa
