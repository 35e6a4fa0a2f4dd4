/- The walk of the law NoteKinds. -/
import Derived.Test.YtifemajgdbihnaaAwake
namespace Go.Proofs.Ytifemajgdbihnaa
open Go.RowKit

set_option maxHeartbeats 4000000 in
set_option maxRecDepth 100000 in
theorem kinds_walk (v : ByteArray) (has : Bool) (xk : Int) (xkey xval : ByteArray) (xn : UInt64) (w : World) :
    Calls Try.prog 7 #[.string v, .bool has, .agg #[.int .i64 xk, .string xkey, .string xval, .int .u64 (xn.toNat : Int)]] w fun e w' => e = .returned (.bool true) ∧ Below w.heap.size w w' := by
  by_cases hsz : v.size ≤ 300
  · have hd1 : decide (300 < (v.size : Int)) = false := by simp; omega
    have hshort := fun w g hg => short_lit1 ⟨xk, xkey, xval, xn⟩ w g hg
    have hdone := fun w g hg => done_lit1 v has ⟨xk, xkey, xval, xn⟩ w g hg
    generalize shortN ⟨xk, xkey, xval, xn⟩ = sh at hshort
    have main : ∀ D, doneL v has [⟨xk, xkey, xval, xn⟩] = D → (xk = 1 → D = (xval, true)) → (xk = 2 → D = (noB, false)) → (xk = 3 → D = (be8 (numB (start v has).1 + xn), true)) → (xk ≠ 1 → xk ≠ 2 → xk ≠ 3 → D = start v has) →
        Calls Try.prog 7 #[.string v, .bool has, .agg #[.int .i64 xk, .string xkey, .string xval, .int .u64 (xn.toNat : Int)]] w fun e w' => e = .returned (.bool true) ∧ Below w.heap.size w w' := by
      intro D hD h1 h2 h3 h0
      rw [hD] at hdone
      obtain ⟨d1, d2⟩ := D
      simp only at hdone
      have H1 := Lib.hid h1
      have H2 := Lib.hid h2
      have H3 := Lib.hid h3
      have H0 := Lib.hid h0
      clear hD h1 h2 h3 h0
      go_enter Try.func7, Try.ntmps7
      go_wp2_with fail
      refine (hshort _ _ (by simp)).mono ?_
      clear hshort
      rintro e w1 ⟨rfl, hb1⟩
      have n1 : NBlk w1 w.heap.size ⟨xk, xkey, xval, xn⟩ := NBlk.on (NBlk.fresh w ⟨xk, xkey, xval, xn⟩ rfl) hb1
      have hb01 : Below w.heap.size w w1 := below1 hb1
      clear hb1
      obtain ⟨c0, c1, c2, c3⟩ := NBlk.cells n1
      have N1 := Lib.hid n1
      clear n1
      cases sh with
      | false =>
        go_wp2_with fail
        refine (awake_true _).mono ?_
        rintro e w2 ⟨rfl, hb2⟩
        go_wp2
        go_ret
        exact ⟨rfl, hb01.trans (hb2.mono hb01.size)⟩
      | true =>
        go_wp2_with fail
        refine (hdone _ _ rfl).mono ?_
        clear hdone
        rintro e w2 ⟨rfl, hb2⟩
        have n2 : NBlk w2 w.heap.size ⟨xk, xkey, xval, xn⟩ := NBlk.on N1.out hb2
        have hb02 : Below w.heap.size w w2 := hb01.trans (hb2.mono hb01.size)
        clear hb01 hb2 c0 c1 c2 c3 N1
        obtain ⟨c0, c1, c2, c3⟩ := NBlk.cells n2
        clear n2
        by_cases k1 : xk = 1
        · have e := H1.out k1
          injection e with e1 e2
          subst e1 e2 k1
          clear H1 H2 H3 H0
          have hs := str_eq (rfl : d1 = d1)
          go_wp2_with fail
          refine (awake_true _).mono ?_
          rintro e w3 ⟨rfl, hb3⟩
          go_wp2
          go_ret
          exact ⟨rfl, hb02.trans (hb3.mono hb02.size)⟩
        · by_cases k2 : xk = 2
          · have e := H2.out k2
            injection e with e1 e2
            subst e1 e2 k2
            clear H1 H2 H3 H0
            go_wp2_with fail
            refine (awake_true _).mono ?_
            rintro e w3 ⟨rfl, hb3⟩
            go_wp2
            go_ret
            exact ⟨rfl, hb02.trans (hb3.mono hb02.size)⟩
          · by_cases k3 : xk = 3
            · have e := H3.out k3
              injection e with e1 e2
              have hs : d1.size = 8 := by rw [e1]; exact be8_size _
              have HE := Lib.hid e1
              subst e2 k3
              clear H1 H2 H3 H0 e1
              go_wp2_with fail
              refine (awake_true _).mono ?_
              rintro e w3 ⟨rfl, hb3⟩
              go_wp2
              go_ret
              exact ⟨rfl, hb02.trans (hb3.mono hb02.size)⟩
            · have e := H0.out k1 k2 k3
              unfold start at e
              injection e with e1 e2
              subst e2
              clear H1 H2 H3 H0
              cases d2 with
              | true =>
                simp only [if_true] at e1
                subst e1
                have hs := str_eq (rfl : d1 = d1)
                go_wp2_with fail
                refine (awake_true _).mono ?_
                rintro e w3 ⟨rfl, hb3⟩
                go_wp2
                go_ret
                exact ⟨rfl, hb02.trans (hb3.mono hb02.size)⟩
              | false =>
                simp only [Bool.false_eq_true, if_false] at e1
                subst e1
                by_cases hv : noB = v
                · subst hv
                  go_wp2_with fail
                  refine (awake_true _).mono ?_
                  rintro e w3 ⟨rfl, hb3⟩
                  go_wp2
                  go_ret
                  exact ⟨rfl, hb02.trans (hb3.mono hb02.size)⟩
                · have hs := str_some (Ne.symm hv)
                  have hs2 := str_ne hv
                  clear hv
                  go_wp2_with fail
                  refine (awake_true _).mono ?_
                  rintro e w3 ⟨rfl, hb3⟩
                  go_wp2
                  go_ret
                  exact ⟨rfl, hb02.trans (hb3.mono hb02.size)⟩
    exact main _ rfl (fun h => by rw [done_one]; exact step1 _ _ h) (fun h => by rw [done_one]; exact step2 _ _ h) (fun h => by rw [done_one]; exact step3 _ _ h) (fun h1 h2 h3 => by rw [done_one]; exact step0 _ _ h1 h2 h3)
  · have hd1 : decide (300 < (v.size : Int)) = true := by simp; omega
    go_enter Try.func7, Try.ntmps7
    go_wp2_with fail
    refine (awake_true _).mono ?_
    rintro e w2 ⟨rfl, hb2⟩
    go_wp2
    go_ret
    exact ⟨rfl, below1 hb2⟩

end Go.Proofs.Ytifemajgdbihnaa
