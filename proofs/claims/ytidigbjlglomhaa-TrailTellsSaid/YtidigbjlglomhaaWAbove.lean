/- The walks of above and Last. -/
import Derived.Test.YtidigbjlglomhaaWRight
set_option linter.unusedVariables false
set_option linter.unusedSimpArgs false
namespace Go.Proofs.Ytidigbjlglomhaa
open Go.RowKit

section
variable {α : Type} {cs : α → List Value} {k : Nat} {w : World} {B : Nat} {l : List α}
theorem Lies.tail {ad : Addr} {x : α} (h : Lies cs k w B (some ad) (x :: l)) : Lies cs k w B (some (ad.add k)) l := fun hl => by
  obtain ⟨ad', e, hB, hc⟩ := h (by simp)
  injection e with e
  subst e
  refine ⟨_, rfl, by rw [block_of_add]; exact hB, fun i hi j v hv => ?_⟩
  have h1 := hc (i + 1) (by simpa using hi) j v hv
  rw [show (i + 1) * k = k + i * k from by rw [Nat.add_mul, Nat.one_mul, Nat.add_comm], ← Go.Addr.add_add] at h1
  exact h1
end
theorem chs_tail {w : World} {B c : Nat} {ad : Addr} {x : Ch} {l : List Ch} (h : Chs w B (some ad) (x :: l)) (hc : l.length + 1 ≤ c) : Chs w B (if c = 1 then some ad else some ⟨ad.block, ad.off + 6, none⟩) l := by
  by_cases h1 : c = 1
  · intro hl; omega
  · rw [if_neg h1]; exact h.tail
def sliceLen : Value → Nat | .slice _ n _ => n | _ => 0

set_option maxRecDepth 100000 in
set_option maxHeartbeats 4000000 in
theorem above_any {v : Value} {l : List Ch} (s : Int) (w : World) (h : CV w v l) (hn : l.length ≤ maxLen) :
    Calls Try.prog 23 #[v, .int .i64 s] w fun e w' => ∃ v', e = .returned v' ∧ CV w' v' (aboveL l s) ∧ Below w.heap.size w w' := by
  unfold maxLen at hn
  have HV := Lib.hid h
  obtain ⟨A0, c0, rfl, _⟩ := h
  go_enter Try.func23, Try.ntmps23
  go_wp2
  go_loopw [0] (fun v wr => ∃ L : List Ch, CV wr v L ∧ aboveL L s = aboveL l s ∧ L.length ≤ l.length ∧ Below w.heap.size w wr) (fun v _ => sliceLen v)
  case atStart => exact ⟨l, HV.out, rfl, Nat.le_refl _, Below.refl _ _⟩
  case round =>
    obtain ⟨L, hcv, hE, hle, hbr⟩ := hrel
    have HE := Lib.hid hE
    have HC := Lib.hid hcv
    obtain ⟨A, c, rfl, hA, hlc, hz⟩ := hcv
    clear hE HV
    cases L with
    | nil =>
      rw [List.length_nil] at *
      clear hA hlc hz
      go_wp2
      go_ret
      exact ⟨_, rfl, by rw [← HE.out]; exact HC.out, hbr⟩
    | cons x L =>
      obtain ⟨ad, rfl, hab, hca⟩ := hA.seeC (by simp)
      obtain ⟨c0, _⟩ := hca 0 (by simp)
      simp only [List.getElem_cons_zero, Nat.zero_mul, Addr.add_zero'] at c0
      have HA := Lib.hid hA
      obtain ⟨m, hm⟩ : ∃ m, L.length = m := ⟨_, rfl⟩
      have HM := Lib.hid hm
      have hlc2 : m + 1 ≤ c := by rw [← hm]; simpa using hlc
      have hle2 : m + 1 ≤ l.length := by rw [← hm]; simpa using hle
      rw [show (x :: L).length = m + 1 from by rw [List.length_cons, hm]]
      clear hA hca hm
      by_cases hs : x.seq ≤ s
      · have HS := Lib.hid (show aboveL L s = aboveL l s from by
          rw [← HE.out]; unfold aboveL; rw [List.dropWhile_cons, if_pos (by simpa using hs)])
        go_wp2
        go_roundw
        case rel => exact ⟨L, ⟨_, c - 1, by rw [HM.out], chs_tail HA.out (by rw [HM.out]; exact hlc2), by have := HM.out; omega, by intro h; split at h <;> cases h⟩, HS.out, by have := HM.out; omega, hbr⟩
        case measure => simp [sliceLen]
      · go_wp2
        go_ret
        exact ⟨_, rfl, by
          have e : aboveL l s = x :: L := by rw [← HE.out]; unfold aboveL; rw [List.dropWhile_cons, if_neg (by simpa using hs)]
          have h2 := HC.out
          rw [show (x :: L).length = m + 1 from by rw [List.length_cons, HM.out]] at h2
          rw [e]; exact h2, hbr⟩

set_option maxRecDepth 100000 in
set_option maxHeartbeats 4000000 in
theorem last_v {v : Value} {l : List Ch} {w : World} (h : CV w v l) (hn : l.length ≤ maxLen) :
    Calls Try.prog 16 #[v] w fun e w' => e = .returned (.int .i64 (lastL l)) ∧ Below w.heap.size w w' := by
  have hr := right_v h hn
  unfold maxLen at hn
  obtain ⟨A, c, rfl, hA, hlc, hz⟩ := h
  obtain ⟨n, hl⟩ : ∃ n, l.length = n := ⟨_, rfl⟩
  rw [hl] at hr hn hlc ⊢
  by_cases h0 : n = 0
  · subst h0
    have HE := Lib.hid (show lastL l = 0 from by rw [List.length_eq_zero_iff.1 hl]; unfold lastL; split <;> rfl)
    clear hr hA hlc hz
    go_enter Try.func16, Try.ntmps16
    go_wp2
    go_ret
    rw [HE.out]
    exact ⟨rfl, Below.refl _ _⟩
  · obtain ⟨R, hR⟩ : ∃ R, trailB l = R := ⟨_, rfl⟩
    rw [hR] at hr
    have HA := Lib.hid hA
    have HL := Lib.hid hl
    have HR := Lib.hid hr
    have hn0 : ((n : Int) == 0) = false := by simpa using h0
    have hn1 : ¬ (n : Int) = 0 := by omega
    cases R with
    | false =>
      have HE := Lib.hid (show lastL l = 0 from by unfold lastL; rw [hR]; rfl)
      clear hr hA hlc hz hR hl
      go_enter Try.func16, Try.ntmps16
      go_wp2_with fail
      refine HR.out.mono ?_
      rintro e w1 ⟨rfl, hb⟩
      go_wp2
      go_ret
      rw [HE.out]
      exact ⟨rfl, hb⟩
    | true =>
      have HE := Lib.hid (show lastL l = (l[n - 1]'(by omega)).seq from by
        unfold lastL; rw [hR, if_pos rfl, endL_get (by omega)]
        congr 2; omega)
      obtain ⟨j, rfl⟩ : ∃ j, n = j + 1 := ⟨n - 1, by omega⟩
      clear hr hA hlc hz hR
      go_enter Try.func16, Try.ntmps16
      go_wp2_with fail
      refine HR.out.mono ?_
      rintro e w1 ⟨rfl, hb⟩
      obtain ⟨ad, rfl, hab, hca⟩ := (HA.out.on hb).seeC (by rw [HL.out]; omega)
      have c0 := (hca j (by rw [HL.out]; omega)).1
      have hw : IntKind.i64.wrap (((j + 1 : Nat) : Int) - 1) = (j : Int) := by rw [IntKind.wrap_i64]; omega
      have hj : (j : Int) < ((j + 1 : Nat) : Int) := by omega
      have HB := Lib.hid hb
      obtain ⟨s, hs⟩ : ∃ s, s = (l[j]'(by rw [HL.out]; omega)).seq := ⟨_, rfl⟩
      have HS := Lib.hid hs
      rw [← hs] at c0
      clear hb hs hca
      go_wp2
      go_ret
      rw [HE.out]
      exact ⟨by rw [HS.out]; rfl, HB.out⟩

end Go.Proofs.Ytidigbjlglomhaa
