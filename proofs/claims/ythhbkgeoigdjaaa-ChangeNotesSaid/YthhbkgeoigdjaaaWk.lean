/- The walks of walk, Do and Undo. -/
import Derived.Test.YthhbkgeoigdjaaaNo
import Derived.Test.YthhbkgeoigdjaaaFct
set_option linter.unusedVariables false
set_option linter.unusedSimpArgs false
namespace Go.Proofs.Ythhbkgeoigdjaaa
open Go.RowKit Go.Shelf

theorem clone_v {v : Value} {l : List Pr} {w : World} (h : PV w v l) (hn : l.length ≤ 1000000) :
    Calls Try.prog 42 #[v] w fun e w' => ∃ v', e = .returned v' ∧ PV w' v' l ∧ Below w.heap.size w w' := by
  obtain ⟨A, c, rfl, h1, h2, h3⟩ := h
  refine (clone_pr A c l w h1 hn).mono ?_
  rintro e w' ⟨v', rfl, ho, hb⟩
  exact ⟨v', rfl, PV.own ho rfl, hb⟩

set_option maxRecDepth 100000 in
set_option maxHeartbeats 2000000 in
theorem walk_any {v : Value} {l : List Pr} {C : List Ch} (gf : Nat) (lb : Array Value) (w : World) (hv : PV w v l) (hn : l.length ≤ 100000) (hC : C.length ≤ 100000) (hk : ∀ c ∈ C, c.key.size ≤ maxLen)
    (eg : ∀ args w, (callFunc gf args).run Try.prog w = .ok (.enter gf args) w) (hseq : ∀ w', Below w.heap.size w w' → Gives 25 Try.prog gf lb (fun c : Ch => #[c.v]) (Below w'.heap.size) C w') :
    Calls Try.prog 35 #[v, .func (.func gf) #[] lb] w fun e w' => ∃ v', e = .returned (.tuple #[v', .int .i64 (walkE l C)]) ∧ PV w' v' (walkA l C) ∧ Below w.heap.size w w' := by
  have hr := right_v hv (by unfold maxLen; omega)
  have hcl := fun w' (hb : Below w.heap.size w w') => clone_v (hv.on hb) (by omega)
  have HCL := Lib.hid hcl
  cases hw : wellL l with
  | false =>
    have h1 : walkE l C = 1 ∧ walkA l C = l := by unfold walkE walkA; rw [hw]; exact ⟨rfl, rfl⟩
    rw [h1.1, h1.2]
    rw [hw] at hr
    clear h1 hw hseq hk eg hv hcl
    go_enter Try.func35, Try.ntmps35
    go_wp2_with fail
    refine hr.mono ?_
    clear hr
    rintro e w1 ⟨rfl, hb1⟩
    have HB := Lib.hid hb1
    clear hb1
    go_wp2_with fail
    refine (HCL.out _ HB.out).mono ?_
    rintro e w2 ⟨v', rfl, hv', hb2⟩
    have HV := Lib.hid (And.intro hv' (HB.out.trans (hb2.mono HB.out.size)))
    clear hv' hb2
    go_wp2
    go_ret2
    exact ⟨v', rfl, HV.out⟩
  | true =>
    rw [hw] at hr
    have hno := fun w' (hb : Below w.heap.size w w') => notesOf_any gf lb w' (hv.on hb) hw hn hC hk eg (hseq w' hb)
    have HNO := Lib.hid hno
    have HVV := Lib.hid hv
    have HW := Lib.hid hw
    clear hno hseq hk eg hv hcl hw
    cases hs : doL l C with
    | none =>
      have h1 := walk_no (l := l) (C := C) (by unfold walkE; rw [hs]; simp)
      rw [h1.1, h1.2.1]
      rw [hs] at HNO
      clear h1 hs
      go_enter Try.func35, Try.ntmps35
      go_wp2_with fail
      refine hr.mono ?_
      clear hr
      rintro e w1 ⟨rfl, hb1⟩
      have HB := Lib.hid hb1
      clear hb1
      go_wp2_with fail
      refine (HNO.out _ HB.out).mono ?_
      rintro e w2 ⟨u, rfl, _, hb2⟩
      have HB2 := Lib.hid (HB.out.trans (hb2.mono HB.out.size))
      clear hb2
      simp only [Option.isSome_none]
      go_wp2_with fail
      refine (HCL.out _ HB2.out).mono ?_
      rintro e w3 ⟨v', rfl, hv', hb3⟩
      have HV := Lib.hid (And.intro hv' (HB2.out.trans (hb3.mono HB2.out.size)))
      clear hv' hb3
      go_wp2
      go_ret2
      exact ⟨v', rfl, HV.out⟩
    | some q =>
      obtain ⟨h1, h2⟩ := walk_yes HW.out hs
      rw [h1, h2]
      obtain ⟨a1, a2⟩ := apply_yes HW.out (doL_notes hs)
      rw [fold_notes hs] at a2
      rw [hs] at HNO
      have HA := Lib.hid (And.intro a1 a2)
      clear h1 h2 a1 a2 hs
      go_enter Try.func35, Try.ntmps35
      go_wp2_with fail
      refine hr.mono ?_
      clear hr
      rintro e w1 ⟨rfl, hb1⟩
      have HB := Lib.hid hb1
      clear hb1
      go_wp2_with fail
      refine (HNO.out _ HB.out).mono ?_
      rintro e w2 ⟨u, rfl, hu, hb2⟩
      have HB2 := Lib.hid (HB.out.trans (hb2.mono HB.out.size))
      have hap := apply_v (HVV.out.on HB2.out) (hu rfl) (by rw [List.length_map]; omega)
      rw [HA.out.1, HA.out.2] at hap
      have HAP := Lib.hid hap
      clear hb2 hu hap
      simp only [Option.isSome_some]
      go_wp2_with fail
      refine HAP.out.mono ?_
      rintro e w3 ⟨v', rfl, hv', hb3⟩
      have HV := Lib.hid (And.intro hv' (HB2.out.trans (hb3.mono HB2.out.size)))
      clear hv' hb3
      go_wp2
      go_ret2
      exact ⟨v', rfl, HV.out⟩

set_option maxRecDepth 100000 in
set_option maxHeartbeats 1000000 in
theorem do_v {v u : Value} {l : List Pr} {C : List Ch} {w : World} (hv : PV w v l) (hu : CV w u C) (hn : l.length ≤ 100000) (hC : C.length ≤ 100000) (hk : ∀ c ∈ C, c.key.size ≤ maxLen) :
    Calls Try.prog 16 #[v, u] w fun e w' => ∃ v', e = .returned (.tuple #[v', .int .i64 (walkE l C)]) ∧ PV w' v' (walkA l C) ∧ Below w.heap.size w w' := by
  obtain ⟨A, n, c, rfl⟩ : ∃ A n c, u = .slice A n c := by obtain ⟨A, c, e, _⟩ := hu; exact ⟨A, _, c, e⟩
  have hb1 : Below w.heap.size w (w.alloc (.cells #[.slice A n c] 39)) := (Below.refl _ _).alloc (Nat.le_refl _) _
  have hx := Box.fresh w 39 #[.slice A n c]
  have hwk := walk_any 51 #[.pointer (some ⟨w.heap.size, 0, none⟩)] _ (hv.on hb1) hn hC hk (enters_of Try.func51 (by kernel_rfl) rfl)
    (fun w' hb => values1_gives 25 w' w.heap.size ((hu.on hb1).on hb) (by omega) (hx.on hb).lt ((hx.on hb).cell 0 rfl))
  have HWK := Lib.hid hwk
  have HB1 := Lib.hid hb1
  clear hwk hx hb1 hv hu hn hC hk
  go_enter Try.func16, Try.ntmps16
  go_wp2_with fail
  refine (values_any A n c w).mono ?_
  rintro e w1 ⟨rfl, rfl⟩
  go_wp2_with fail
  refine HWK.out.mono ?_
  rintro e w3 ⟨v', rfl, hv', hb3⟩
  have HV := Lib.hid (And.intro hv' (HB1.out.trans (hb3.mono HB1.out.size)))
  clear hv' hb3
  go_wp2
  go_ret2
  exact ⟨v', rfl, HV.out⟩

theorem back_keys {C : List Ch} (hk : ∀ c ∈ C, c.key.size ≤ maxLen) : ∀ c ∈ backL C, c.key.size ≤ maxLen := by
  intro c hc
  unfold backL at hc
  rw [List.mem_reverse, List.mem_map] at hc
  obtain ⟨x, hx, rfl⟩ := hc
  exact hk x hx

set_option maxRecDepth 100000 in
set_option maxHeartbeats 1000000 in
theorem undo_v {v u : Value} {l : List Pr} {C : List Ch} {w : World} (hv : PV w v l) (hu : CV w u C) (hn : l.length ≤ 100000) (hC : C.length ≤ 100000) (hk : ∀ c ∈ C, c.key.size ≤ maxLen) :
    Calls Try.prog 18 #[v, u] w fun e w' => ∃ v', e = .returned (.tuple #[v', .int .i64 (walkE l (backL C))]) ∧ PV w' v' (walkA l (backL C)) ∧ Below w.heap.size w w' := by
  obtain ⟨A, n, c, rfl⟩ : ∃ A n c, u = .slice A n c := by obtain ⟨A, c, e, _⟩ := hu; exact ⟨A, _, c, e⟩
  have hb1 : Below w.heap.size w (w.alloc (.cells #[.slice A n c] 39)) := (Below.refl _ _).alloc (Nat.le_refl _) _
  have hx := Box.fresh w 39 #[.slice A n c]
  have hwk := walk_any (C := backL C) 52 #[.pointer (some ⟨w.heap.size, 0, none⟩)] _ (hv.on hb1) hn (by rw [back_len]; exact hC) (back_keys hk) (enters_of Try.func52 (by kernel_rfl) rfl)
    (fun w' hb => back1_gives w' w.heap.size ((hu.on hb1).on hb) (by omega) (hx.on hb).lt ((hx.on hb).cell 0 rfl))
  have HWK := Lib.hid hwk
  have HB1 := Lib.hid hb1
  clear hwk hx hb1 hv hu hn hC hk
  go_enter Try.func18, Try.ntmps18
  go_wp2_with fail
  refine (back_any A n c w).mono ?_
  rintro e w1 ⟨rfl, rfl⟩
  go_wp2_with fail
  refine HWK.out.mono ?_
  rintro e w3 ⟨v', rfl, hv', hb3⟩
  have HV := Lib.hid (And.intro hv' (HB1.out.trans (hb3.mono HB1.out.size)))
  clear hv' hb3
  go_wp2
  go_ret2
  exact ⟨v', rfl, HV.out⟩

end Go.Proofs.Ythhbkgeoigdjaaa
