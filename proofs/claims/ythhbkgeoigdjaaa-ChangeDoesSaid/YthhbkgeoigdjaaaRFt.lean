/- The walk of the document's fits: does a key stand so? -/
import Derived.Test.YthhbkgeoigdjaaaROf
import Derived.Test.YthhbkgeoigdjaaaDo
set_option linter.unusedVariables false
set_option linter.unusedSimpArgs false
namespace Go.Proofs.Ythhbkgeoigdjaaa
open Go.RowKit

theorem tl_beq (x y : ByteArray) : (x.toList == y.toList) = decide (x = y) := by
  rw [Bool.eq_iff_iff, beq_iff_eq, decide_eq_true_iff]
  exact ⟨tl_inj, fun e => by rw [e]⟩

set_option maxRecDepth 100000 in
set_option maxHeartbeats 4000000 in
theorem rfits_any {v : Value} {l : List Pr} (key : ByteArray) (has : Bool) (val : ByteArray) (w : World) (hv : PV w v l) (hn : l.length ≤ 100000) (hs : Sorted l) :
    Calls Try.prog 37 #[v, .string key, .bool has, .string val] w fun e w' => e = .returned (.bool (decide (getL l key = if has then some val else none))) ∧ Below w.heap.size w w' := by
  obtain ⟨R, hR⟩ : ∃ R, decide (getL l key = if has then some val else none) = R := ⟨_, rfl⟩
  rw [hR]
  obtain ⟨A, nl, cap, rfl, hnl⟩ : ∃ A n c, v = .slice A n c ∧ l.length = n := by obtain ⟨A, c, e, _⟩ := hv; exact ⟨A, _, c, e, rfl⟩
  have hfc : Calls Try.prog 29 #[.slice A nl cap, .string key] w fun e w3 => ∃ z, e = .returned (.int .i64 z) ∧ FoundAt l key z ∧ Below w.heap.size w w3 := by
    obtain ⟨A0, c0, e0, hp0, _⟩ := hv
    injection e0 with e1 e2 e3
    have := dfind_any A0 c0 l key w hp0 (by unfold maxLen; omega)
    rw [e1, e2, e3]; exact this
  have HFC := Lib.hid hfc
  have HV := Lib.hid hv
  have HS := Lib.hid hs
  have HR := Lib.hid hR
  have HNL := Lib.hid hnl
  have HN := Lib.hid hn
  clear hfc hv hs hR hnl hn
  go_enter Try.func37, Try.ntmps37
  go_wp2_with fail
  refine HFC.out.mono ?_
  rintro e w1 ⟨z, rfl, hz, hb⟩
  have HB := Lib.hid hb
  have HZ := Lib.hid (found_get HS.out hz)
  clear hz hb
  rcases HZ.out with ⟨rfl, hg⟩ | ⟨i, rfl, hi, hg⟩
  · have HF := Lib.hid (show (!has) = R from by
      rw [← HR.out, hg]
      cases has <;> simp)
    clear hg HZ
    go_wp2
    go_ret
    exact ⟨by first | rfl | (rw [← HF.out]; rfl), HB.out⟩
  · obtain ⟨ad, rfl, hab, hca0⟩ : ∃ ad, A = some ad ∧ ad.block < w1.heap.size ∧ ∀ (i : Nat) (h : i < l.length),
      w1.cell? (ad.add (i * 2)) = some (.string l[i].k) ∧ w1.cell? ⟨(ad.add (i * 2)).block, (ad.add (i * 2)).off + 1, none⟩ = some (.string l[i].v) := by
      obtain ⟨A0, c0, e0, hp0, _⟩ := HV.out.on HB.out
      injection e0 with e1 e2 e3
      subst e1
      exact hp0.seeP (by omega)
    obtain ⟨c1, c2⟩ := hca0 i hi
    have hin : i < nl := by rw [← HNL.out]; exact hi
    have hnl2 : nl ≤ 100000 := by rw [← HNL.out]; exact HN.out
    obtain ⟨x, hx⟩ : ∃ x, x = l[i]'hi := ⟨_, rfl⟩
    rw [← hx] at c1 c2 hg
    obtain ⟨xk, xv⟩ := x
    simp only at c1 c2 hg
    cases has with
    | false =>
      have HF := Lib.hid (show false = R from by rw [← HR.out, hg]; simp)
      clear hg HZ hca0 hx
      go_wp2
      go_ret
      exact ⟨by first | rfl | (rw [← HF.out]; rfl), HB.out⟩
    | true =>
      have HF := Lib.hid (show (xv.toList == val.toList) = R from by rw [← HR.out, hg, tl_beq]; simp)
      clear hg HZ hca0 hx
      go_wp2
      go_ret
      exact ⟨by first | rfl | (rw [← HF.out]; rfl), HB.out⟩

end Go.Proofs.Ythhbkgeoigdjaaa
