/- sort.Search over the places of pairs, by the closure of run.of. -/
import Derived.Test.YtgpjbajfkagdbaaFN
import Derived.Test.YtgpjbajfkagdbaaRStep
set_option linter.unusedVariables false
set_option linter.unusedSimpArgs false
namespace Go.Proofs.Ytgpjbajfkagdbaa
open Go.RowKit Go.Sort

theorem less_is {l : List Pr} (hs : Sorted l) (key : ByteArray) (i : Nat) (h : i < l.length) : l[i].k < key ↔ i < lessL l key := by
  have h1 := less_place hs i h
  constructor
  · intro h2
    rcases Nat.lt_or_ge i (lessL l key) with h3 | h3
    · exact h3
    · exfalso
      have h4 := drop_less hs key
      have h5 : l[i] ∈ l.drop (lessL l key) := by
        rw [List.mem_iff_getElem]
        exact ⟨i - lessL l key, by simp; omega, by rw [List.getElem_drop]; congr 1; omega⟩
      rw [h4] at h5
      have h6 := (List.mem_filter.1 h5).2
      simp only [decide_eq_true_eq] at h6
      grind
  · intro h2
    have h4 := take_less hs key
    have h5 : l[i] ∈ l.take (lessL l key) := by
      rw [List.mem_iff_getElem]
      exact ⟨i, by simp; omega, by rw [List.getElem_take]⟩
    rw [h4] at h5
    have h6 := (List.mem_filter.1 h5).2
    simpa using h6

set_option maxHeartbeats 2000000 in
set_option maxRecDepth 100000 in
/-- The closure: the run's pairs lie in block g, r's box is gr, the key's box is gk. -/
theorem closureS {lv : Value} (l : List Pr) (key : ByteArray) (i : Nat) (g gr gk : Nat) (m cv : Value) (s : Int) (w : World) (hi : i < l.length)
    (hr : Box w gr 84 #[.pointer (some ⟨g, 0, none⟩)]) (hk : Box w gk 9 #[.string key]) (hg : Box w g 70 #[lv, m, cv, .int .i64 s]) (hl : PV w lv l) (hn : l.length ≤ 1000000) :
    Calls Try.prog 70 #[.int .i64 i, .pointer (some ⟨gr, 0, none⟩), .pointer (some ⟨gk, 0, none⟩)] w fun e w' => e = .returned (.bool (!decide (l[i].k < key))) ∧ Below w.heap.size w w' := by
  obtain ⟨A, c, rfl, hA, _⟩ := hl
  obtain ⟨ad, rfl, hab, hca⟩ := hA.seeP (by omega)
  obtain ⟨c1, _⟩ := hca i hi
  obtain ⟨xk, hx⟩ : ∃ x, x = l[i].k := ⟨_, rfl⟩
  rw [← hx] at c1 ⊢
  obtain ⟨n, hl⟩ : ∃ n, l.length = n := ⟨_, rfl⟩
  rw [hl] at hn hi hg
  have r0 := hr.cell 0 rfl
  have k0 := hk.cell 0 rfl
  have g0 := hg.cell 0 rfl
  have hiz : (i : Int) < (n : Int) := by omega
  have HD := Lib.hid (show (!Op.bytesLess xk.toList key.toList) = !decide (xk < key) from by
    show (!ltS xk key) = _
    rw [ltS_eq])
  clear hA hca hx hl hr hk hg hab
  go_enter Try.func70, Try.ntmps70
  go_wp2_with fail
  go_quiet (fail)
  go_wp2
  go_ret
  exact ⟨by rw [HD.out]; rfl, ⟨rfl, rfl, rfl, Nat.le_refl _, fun _ _ => rfl⟩⟩

set_option maxHeartbeats 2000000 in
set_option maxRecDepth 100000 in
/-- sort.Search: Z, where the closure says 'not less' from Z on. -/
theorem search_z (n Z gr gk : Nat) (w : World) (hn : n ≤ 1000000) (hZ : Z ≤ n)
    (hf : ∀ wr, Below w.heap.size w wr → ∀ i, i < n → Calls Try.prog 70 #[.int .i64 i, .pointer (some ⟨gr, 0, none⟩), .pointer (some ⟨gk, 0, none⟩)] wr fun e w' => e = .returned (.bool (!decide (i < Z))) ∧ Below wr.heap.size wr w') :
    Calls Try.prog 69 #[.int .i64 n, .func (.func 70) #[] #[.pointer (some ⟨gr, 0, none⟩), .pointer (some ⟨gk, 0, none⟩)]] w fun e w' => e = .returned (.int .i64 Z) ∧ Below w.heap.size w w' := by
  have HF := Lib.hid hf
  have HZN := Lib.hid hZ
  clear hf hZ
  go_enter Try.func69, Try.ntmps69
  go_wp2
  go_loopw [5, 6] (fun iv jv wr => ∃ (i j : Nat), iv = .int .i64 i ∧ jv = .int .i64 j ∧ i ≤ j ∧ j ≤ n ∧ Hid (i ≤ Z ∧ Z ≤ j) ∧ Below w.heap.size w wr) (fun iv jv _ => (intOf jv - intOf iv).toNat)
  case atStart => exact ⟨0, n, rfl, rfl, by omega, by omega, ⟨Nat.zero_le _, HZN.out⟩, Below.refl _ _⟩
  case round =>
    obtain ⟨i, j, rfl, rfl, hij, hjn, HI, hbr⟩ := hrel
    by_cases hlt : i < j
    · obtain ⟨h', hh'⟩ : ∃ h', h' = (i + j) / 2 := ⟨_, rfl⟩
      have wh : ((i : Int) + (j : Int)) / 2 = (h' : Int) := by omega
      have hhn : h' < n := by omega
      have HH := Lib.hid (show i ≤ h' ∧ h' < j by omega)
      have hbs := hbr.size
      have hc := HF.out wr hbr h' hhn
      clear hh'
      by_cases hz : h' < Z
      · have HZH := Lib.hid hz
        rw [decide_eq_true hz] at hc
        clear hz
        go_wp2_with fail
        refine hc.mono ?_
        rintro e w1 ⟨rfl, hb1⟩
        have hbr1 := hbr.trans (hb1.mono hbs)
        clear hb1 hc
        go_wp2
        go_roundw
        case rel => exact ⟨h' + 1, j, by go_num, rfl, by have := HH.out; omega, hjn, ⟨HZH.out, HI.out.2⟩, hbr1⟩
        case measure => have := HH.out; simp [intOf]; omega
      · have HZH := Lib.hid (show Z ≤ h' from Nat.not_lt.1 hz)
        rw [decide_eq_false hz] at hc
        clear hz
        go_wp2_with fail
        refine hc.mono ?_
        rintro e w1 ⟨rfl, hb1⟩
        have hbr1 := hbr.trans (hb1.mono hbs)
        clear hb1 hc
        go_wp2
        go_roundw
        case rel => exact ⟨i, h', rfl, by go_num, HH.out.1, by omega, ⟨HI.out.1, HZH.out⟩, hbr1⟩
        case measure => have := HH.out; simp [intOf]; omega
    · have hiz : i = Z := by have := HI.out; omega
      have HIZ := Lib.hid hiz
      clear hiz
      go_wp2
      go_ret
      exact ⟨by rw [HIZ.out]; rfl, hbr⟩

end Go.Proofs.Ytgpjbajfkagdbaa
