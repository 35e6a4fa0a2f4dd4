/- The walk of SpaceFits. -/
import Derived.Test.YtodcngkcaeahhaaExsV
namespace Go.Proofs.Ytodcngkcaeahhaa
open Go.RowKit

set_option maxHeartbeats 8000000 in
set_option maxRecDepth 100000 in
theorem fits_walk (n f t : Int) (A : Option Addr) (c : Nat) (l : List Ex) (w : World) (hA : Exs w w.heap.size A l) (hn : l.length ≤ maxLen) (hz : A = none → c = 0) :
    Calls Try.prog 4 #[.int .i64 n, .int .i64 f, .int .i64 t, .slice A l.length c] w fun e w' => e = .returned (.bool true) ∧ Below w.heap.size w w' := by
  unfold maxLen at hn
  by_cases h30 : l.length ≤ 30
  · have hfi := fit_any n f t A c l w hA (by omega)
    have HRI := Lib.hid (fun w1 (h : Below w.heap.size w w1) => right_any f t A c l w1 (Lies.on hA h) (by omega))
    rcases fit_cases n f t l with ⟨hr, hno⟩ | ⟨hr, hyes, _⟩ | ⟨p, hr, _⟩
    · rw [hr] at hfi
      by_cases hok : Ok f t l
      · rw [decide_eq_true hok] at HRI
        generalize l.length = m at *
        have g0 : ¬ (m : Int) > 30 := by omega
        by_cases h1 : n < 1
        · have g1 : ¬ n ≥ 1 := by omega
          clear hA hno hok hr
          go_enter Try.func4, Try.ntmps4
          go_wp2_with fail
          refine hfi.mono ?_
          clear hfi
          rintro e w1 ⟨rfl, hb1⟩
          have hb2 := hb1.alloc hb1.size (.cells #[.int .i64 0, .int .i64 0] 27)
          have hri := HRI.out _ hb2
          simp only
          go_wp2_with fail
          refine hri.mono ?_
          clear hri
          rintro e w3 ⟨rfl, hb3⟩
          have hb3a := hb2.trans (hb3.mono hb2.size)
          go_wp2_with fail
          refine (awake_true _).mono ?_
          rintro e w4 ⟨rfl, hb4⟩
          go_wp2
          go_ret
          exact ⟨rfl, hb3a.trans (hb4.mono hb3a.size)⟩
        · have g1 : n ≥ 1 := by omega
          have g2 : ¬ n ≤ 2147483647 := fun h => hno ⟨hok, g1, h⟩
          clear hA hno hok hr
          go_enter Try.func4, Try.ntmps4
          go_wp2_with fail
          refine hfi.mono ?_
          clear hfi
          rintro e w1 ⟨rfl, hb1⟩
          have hb2 := hb1.alloc hb1.size (.cells #[.int .i64 0, .int .i64 0] 27)
          have hri := HRI.out _ hb2
          simp only
          go_wp2_with fail
          refine hri.mono ?_
          clear hri
          rintro e w3 ⟨rfl, hb3⟩
          have hb3a := hb2.trans (hb3.mono hb2.size)
          go_wp2_with fail
          refine (awake_true _).mono ?_
          rintro e w4 ⟨rfl, hb4⟩
          go_wp2
          go_ret
          rw [decide_eq_false (show ¬ n ≤ 2147483647 by omega)]
          exact ⟨rfl, hb3a.trans (hb4.mono hb3a.size)⟩
      · rw [decide_eq_false hok] at HRI
        generalize l.length = m at *
        have g0 : ¬ (m : Int) > 30 := by omega
        clear hA hno hok hr
        go_enter Try.func4, Try.ntmps4
        go_wp2_with fail
        refine hfi.mono ?_
        clear hfi
        rintro e w1 ⟨rfl, hb1⟩
        have hb2 := hb1.alloc hb1.size (.cells #[.int .i64 0, .int .i64 0] 27)
        have hri := HRI.out _ hb2
        simp only
        go_wp2_with fail
        refine hri.mono ?_
        clear hri
        rintro e w3 ⟨rfl, hb3⟩
        have hb3a := hb2.trans (hb3.mono hb2.size)
        go_wp2_with fail
        refine (awake_true _).mono ?_
        rintro e w4 ⟨rfl, hb4⟩
        go_wp2
        go_ret
        exact ⟨rfl, hb3a.trans (hb4.mono hb3a.size)⟩
    · rw [hr] at hfi
      obtain ⟨hok, g1, g2⟩ := hyes
      rw [decide_eq_true hok] at HRI
      generalize l.length = m at *
      have g0 : ¬ (m : Int) > 30 := by omega
      clear hA hok hr
      go_enter Try.func4, Try.ntmps4
      go_wp2_with fail
      refine hfi.mono ?_
      clear hfi
      rintro e w1 ⟨rfl, hb1⟩
      have hb2 := hb1.alloc hb1.size (.cells #[.int .i64 0, .int .i64 0] 27)
      have hri := HRI.out _ hb2
      simp only
      go_wp2_with fail
      refine hri.mono ?_
      clear hri
      rintro e w3 ⟨rfl, hb3⟩
      have hb3a := hb2.trans (hb3.mono hb2.size)
      go_wp2_with fail
      refine (awake_true _).mono ?_
      rintro e w4 ⟨rfl, hb4⟩
      go_wp2
      go_ret
      exact ⟨rfl, hb3a.trans (hb4.mono hb3a.size)⟩
    · rw [hr] at hfi
      obtain ⟨m1, m2⟩ := fits_more hr
      have m3 := fits_ahead hr
      obtain ⟨k1, k2, k3, k4, k5, _⟩ := fit_least hr
      obtain ⟨a1, a2, a3⟩ := k1.1
      have hlb := left_bound f t l
      have hlb2 := left_bound f t (l ++ [⟨p, n⟩])
      have hfl : (l.filter fun x => decide (x.a < p)).length ≤ 30 := Nat.le_trans (List.length_filter_le _ _) h30
      have HBA := Lib.hid (fun w1 (h : Below w.heap.size w w1) => before_any A c l p w1 (Lies.on hA h) (by omega))
      have HLA := Lib.hid (fun w1 (h : Below w.heap.size w w1) => left_any f t A c l w1 (Lies.on hA h) (by omega))
      obtain ⟨B, hB⟩ : ∃ B, B = l.filter fun x => decide (x.a < p) := ⟨_, rfl⟩
      rw [← hB] at m3 hfl HBA
      have HFB := Lib.hid (fun A' c' w1 (h : Exs w1 w1.heap.size A' B) => fit_any n f (p + n - 1) A' c' B w1 h (by omega))
      obtain ⟨⟨⟨ra, rn⟩, re⟩, hre⟩ : ∃ r, r = fitL n f (p + n - 1) B := ⟨_, rfl⟩
      rw [← hre] at m3 HFB
      simp only at m3 HFB
      have HRM := Lib.hid (fun A' c' w1 (h : Exs w1 w1.heap.size A' (l ++ [⟨p, n⟩])) => right_any f t A' c' (l ++ [⟨p, n⟩]) w1 h (by simp; omega))
      have HLM := Lib.hid (fun A' c' w1 (h : Exs w1 w1.heap.size A' (l ++ [⟨p, n⟩])) => left_any f t A' c' (l ++ [⟨p, n⟩]) w1 h (by simp; omega))
      have hlen : (l ++ [(⟨p, n⟩ : Ex)]).length = l.length + 1 := by simp
      rw [decide_eq_true m1, hlen] at HRM
      rw [m2, hlen] at HLM
      rw [m2] at hlb2
      have HA := Lib.hid hA
      generalize leftL f t l = q at *
      generalize hl : l.length = m at *
      have HL := Lib.hid hl
      have g0 : ¬ (m : Int) > 30 := by omega
      have gre : (re != 0) = true := by simpa using m3
      have gq : (q - n != q - n) = false := by simp
      have gn : (n != n) = false := by simp
      clear hA hB hre m1 m2 m3 k1 hr hlen HRI hl
      go_enter Try.func4, Try.ntmps4
      go_wp2_with fail
      refine hfi.mono ?_
      clear hfi
      rintro e w1 ⟨rfl, hb1⟩
      simp only
      go_wp2
      obtain ⟨w0, hw0⟩ : ∃ w0, w0 = w1.alloc (.cells #[.int .i64 p, .int .i64 n] 27) := ⟨_, rfl⟩
      rw [← hw0]
      have hb0 : Below w.heap.size w w0 := by rw [hw0]; exact hb1.alloc hb1.size _
      have hx0 : EBlk w0 w1.heap.size ⟨p, n⟩ := by rw [hw0]; exact Box.fresh _ _ _
      generalize w1.heap.size = g9 at *
      have HX0 := Lib.hid hx0
      have HB0 := Lib.hid hb0
      have HC1 := Lib.hid (show ∀ wx, Below w0.heap.size w0 wx → wx.cell? ⟨g9, 0, none⟩ = some (.int .i64 p) ∧ wx.cell? ⟨g9, 1, none⟩ = some (.int .i64 n) from fun wx h => EBlk.cells (Box.on hx0 h))
      have HLX := Lib.hid (show ∀ wx, Below w0.heap.size w0 wx → Exs wx wx.heap.size A l ∧ (A = none → c = 0) from fun wx h => ⟨Lies.on HA.out (hb0.trans (h.mono hb0.size)), hz⟩)
      clear hw0 hb1 hb0 hx0
      refine wp_region_phase 4 [51, 52, 53, 54, 55, 56, 11] (by kernel_rfl) [2, 5] [] (fun _ _ => True) 2 rfl (by kernel_rfl) (fun _ w' => Below w0.heap.size w0 w') (fun wa wb => Below wa.heap.size wa wb) (FitsV6 w0.heap.size (.slice A m c) l p n) (by kernel_rfl) (fun _ wa wb h1 h2 => h2.trans (h1.mono h2.size)) (fun _ t v wa wb h1 h2 => h2.on h1) (fun _ _ _ _ _ _ _ => trivial) (Below.refl _ _).drew trivial (phase2 ?_ ?_ ?_) ?_
      ·
        refine Steps1.cons (fun _ ax wx hS hJ hG => ?_) (Steps1.cons (fun _ ax wx hS hJ hG => ?_) (Steps1.cons (fun _ ax wx hS hJ hG => ?_) (Steps1.cons (fun _ ax wx hS hJ hG => ?_) (Steps1.cons (fun _ ax wx hS hJ hG => ?_) (Steps1.cons (fun hin _ _ _ _ _ => out (by kernel_rfl) hin) (Steps1.cons (fun hin _ _ _ _ _ => out (by kernel_rfl) hin) Steps1.nil))))))
        · refine step_slot rfl rfl rfl (step_value (v := .slice (some ⟨wx.heap.size, 0, none⟩) 0 0) (w' := wx.alloc (.cells #[] 27)) rfl rfl ?_ ((Below.refl _ _).alloc (Nat.le_refl _) _) (fun d hd => by cases hd; exact fun _ => ⟨_, rfl, hS.size, Box.fresh _ _ _⟩))
          go_simp
        · have q3 := hG.old 3 (by kernel_rfl) (by kernel_rfl)
          refine step_slot rfl rfl rfl (step_value (v := .slice A m c) (w' := wx) rfl rfl ?_ (Below.refl _ _) (fun d hd => by cases hd; exact rfl))
          go_simp
        · obtain ⟨v1, q1, h1⟩ := hG.new 51 (by kernel_rfl) (by kernel_rfl)
          obtain ⟨_, q2, rfl⟩ := hG.new 52 (by kernel_rfl) (by kernel_rfl)
          have hno : NoneS w0.heap.size wx v1 := (show 0 = 0 → _ from h1) rfl
          obtain ⟨v2, w2, hr, hown2, hg⟩ := run_append_exs wx 22 w0.heap.size v1 0 [] hno.own wx.heap.size A m c l HL.out (HLX.out wx hS).1 (HLX.out wx hS).2 (by omega) hS.size
          have hS2 : Below w0.heap.size w0 w2 := hS.grown hg hS.size (fun k hk => (hno.own.lt k hk).1)
          refine step_marked (v := v2) (w' := w2) rfl rfl rfl rfl ?_ hS2 trivial ?_ ?_
          · have e1 : ax.eval (.tmp 51) = v1 := by simp [Act.eval, q1]
            have e2 : ax.eval (.tmp 52) = .slice A m c := by simp [Act.eval, q2]
            unfold execOp
            simp only [resolve, invoke, builtin, Sem.run_bind, Sem.run_pure, Result.andThen_ok, List.map_toArray, List.map_cons, List.map_nil, e1, e2, hr]
          · exact fun _ => (by rw [HL.out]; simpa using hown2)
          · intro t u _ ht hu hV
            unfold FitsV6 at hV ⊢
            split at hV
            · exact fun h => absurd h (by decide)
            · exact hV
            · exact absurd rfl ht
            · exact hV
            · exact fun _ => (hV (by decide)).grown hno hg
            · exact fun h => absurd h (by decide)
            · exact absurd hV.1 (by decide)
            · trivial
        · have q9 := hG.old 9 (by kernel_rfl) (by kernel_rfl)
          obtain ⟨z0, z1⟩ := HC1.out wx hS
          refine step_slot rfl rfl rfl (step_value (v := .agg #[.int .i64 p, .int .i64 n]) (w' := wx) rfl rfl ?_ (Below.refl _ _) (fun d hd => by cases hd; exact rfl))
          go_simp
        · obtain ⟨_, q54, rfl⟩ := hG.new 54 (by kernel_rfl) (by kernel_rfl)
          refine step_slot rfl rfl rfl (step_value (v := .slice (some ⟨wx.heap.size, 0, none⟩) 1 1) (w' := wx.alloc (.cells #[.int .i64 p, .int .i64 n] 27)) rfl rfl ?_ ((Below.refl _ _).alloc (Nat.le_refl _) _) (fun d hd => by cases hd; exact fun _ => ⟨_, rfl, hS.size, Box.fresh _ _ _⟩))
          go_simp
      ·
        refine Steps1.cons (fun hin _ _ _ _ _ => out (by kernel_rfl) hin) (Steps1.cons (fun hin _ _ _ _ _ => out (by kernel_rfl) hin) (Steps1.cons (fun hin _ _ _ _ _ => out (by kernel_rfl) hin) (Steps1.cons (fun _ ax wx hS hJ hG => ?_) (Steps1.cons (fun _ ax wx hS hJ hG => ?_) (Steps1.cons (fun _ ax wx hS hJ hG => ?_) (Steps1.cons (fun hin _ _ _ _ _ => out (by kernel_rfl) hin) Steps1.nil))))))
        · have q9 := hG.old 9 (by kernel_rfl) (by kernel_rfl)
          obtain ⟨z0, z1⟩ := HC1.out wx hS
          refine step_slot rfl rfl rfl (step_value (v := .agg #[.int .i64 p, .int .i64 n]) (w' := wx) rfl rfl ?_ (Below.refl _ _) (fun d hd => by cases hd; exact rfl))
          go_simp
        · obtain ⟨_, q54, rfl⟩ := hG.new 54 (by kernel_rfl) (by kernel_rfl)
          refine step_slot rfl rfl rfl (step_value (v := .slice (some ⟨wx.heap.size, 0, none⟩) 1 1) (w' := wx.alloc (.cells #[.int .i64 p, .int .i64 n] 27)) rfl rfl ?_ ((Below.refl _ _).alloc (Nat.le_refl _) _) (fun d hd => by cases hd; exact fun _ => ⟨_, rfl, hS.size, Box.fresh _ _ _⟩))
          go_simp
        · obtain ⟨v1, q1, h1⟩ := hG.new 53 (by kernel_rfl) (by kernel_rfl)
          obtain ⟨v3, q2, h2⟩ := hG.new 55 (by kernel_rfl) (by kernel_rfl)
          have hown : wx.ownsRow w0.heap.size 27 2 v1 l.length (l.flatMap Ex.cells) := (show 1 = 1 → _ from h1) rfl
          obtain ⟨g5, rfl, hl5⟩ := OneS.lies ((show 1 ≤ 1 → OneS w0.heap.size ⟨p, n⟩ wx v3 from h2) (Nat.le_refl _))
          obtain ⟨v2, w2, hr, hown2, hg⟩ := run_append_exs wx 22 w0.heap.size v1 l.length _ hown wx.heap.size (some ⟨g5, 0, none⟩) 1 1 [⟨p, n⟩] rfl hl5 (fun h => by cases h) (by rw [HL.out]; omega) hS.size
          have hS2 : Below w0.heap.size w0 w2 := hS.grown hg hS.size (fun k hk => (hown.lt k hk).1)
          refine step_marked (v := v2) (w' := w2) rfl rfl rfl rfl ?_ hS2 trivial ?_ ?_
          · have e1 : ax.eval (.tmp 53) = v1 := by simp [Act.eval, q1]
            have e2 : ax.eval (.tmp 55) = .slice (some ⟨g5, 0, none⟩) 1 1 := by simp [Act.eval, q2]
            unfold execOp
            simp only [resolve, invoke, builtin, Sem.run_bind, Sem.run_pure, Result.andThen_ok, List.map_toArray, List.map_cons, List.map_nil, e1, e2, hr]
          · exact fun _ => (by rw [List.flatMap_append]; exact hown2)
          · intro t u _ ht hu hV
            unfold FitsV6 at hV ⊢
            split at hV
            · exact fun h => absurd h (by decide)
            · exact hV
            · exact fun h => absurd h (by decide)
            · exact hV
            · exact fun h => absurd h (by decide)
            · exact absurd rfl ht
            · exact absurd hV.1 (by decide)
            · trivial
      ·
        refine Steps1.cons (fun hin _ _ _ _ _ => out (by kernel_rfl) hin) (Steps1.cons (fun hin _ _ _ _ _ => out (by kernel_rfl) hin) (Steps1.cons (fun hin _ _ _ _ _ => out (by kernel_rfl) hin) (Steps1.cons (fun hin _ _ _ _ _ => out (by kernel_rfl) hin) (Steps1.cons (fun hin _ _ _ _ _ => out (by kernel_rfl) hin) (Steps1.cons (fun hin _ _ _ _ _ => out (by kernel_rfl) hin) (Steps1.cons (fun _ ax wx hS hJ hG => ?_) Steps1.nil))))))
        · obtain ⟨v1, q1, h1⟩ := hG.new 56 (by kernel_rfl) (by kernel_rfl)
          refine step_slot rfl rfl rfl (step_value (v := v1) (w' := wx) rfl rfl ?_ (Below.refl _ _) (fun d hd => by cases hd; exact ⟨rfl, (show 2 = 2 → _ from h1) rfl⟩))
          clear h1
          go_simp
      intro gg w6 hS6 _ hV6
      have h11 : w6.ownsRow w0.heap.size 27 2 (gg 11) (l.length + 1) ((l ++ [(⟨p, n⟩ : Ex)]).flatMap Ex.cells) := (show 2 = 2 ∧ _ from hV6 11 (by decide)).2
      obtain ⟨A6, c6, e11⟩ := own_shape h11
      rw [e11] at h11
      have HM := Lib.hid (show Exs w6 w6.heap.size A6 (l ++ [(⟨p, n⟩ : Ex)]) from Lies.own Ex.cells2 (by simpa using h11))
      simp only [puts, Act.put, List.setIfInBounds_toArray, List.set_cons_succ, List.set_cons_zero]
      rw [e11, HL.out]
      clear hV6 e11 h11 HC1 HLX
      generalize gg 51 = g51
      generalize gg 52 = g52
      generalize gg 53 = g53
      generalize gg 54 = g54
      generalize gg 55 = g55
      generalize gg 56 = g56
      have HX := Lib.hid (show EBlk w6 g9 ⟨p, n⟩ from Box.on HX0.out hS6)
      have HB := Lib.hid (HB0.out.trans (hS6.mono HB0.out.size))
      clear hS6 HX0 HB0
      have hrm := HRM.out A6 c6 w6 HM.out
      clear HRM
      go_wp2_with fail
      refine hrm.mono ?_
      clear hrm
      rintro e w7 ⟨rfl, hb7⟩
      have hx7 : EBlk w7 g9 ⟨p, n⟩ := Box.on HX.out hb7
      have hb7a := HB.out.trans (hb7.mono HB.out.size)
      obtain ⟨x1, x2⟩ := EBlk.cells hx7
      have hlt7 := Box.lt hx7
      simp only at x1 x2
      have hlm := HLM.out A6 c6 w7 (Lies.on HM.out hb7)
      have HX7 := Lib.hid hx7
      clear HLM hb7 HM HX HB hx7
      go_wp2_with fail
      refine hlm.mono ?_
      clear hlm
      rintro e w8 ⟨rfl, hb8⟩
      have hb8a := hb7a.trans (hb8.mono hb7a.size)
      have HX8 := Lib.hid (show EBlk w8 g9 ⟨p, n⟩ from Box.on HX7.out hb8)
      have hla := HLA.out w8 hb8a
      clear HLA HX7 hb8 x1 x2 hlt7
      go_wp2_with fail
      refine hla.mono ?_
      clear hla
      rintro e w9 ⟨rfl, hb9⟩
      have hb9a := hb8a.trans (hb9.mono hb8a.size)
      have HX9 := Lib.hid (show EBlk w9 g9 ⟨p, n⟩ from Box.on HX8.out hb9)
      clear HX8 hb9 hb7a hb8a
      go_wp2
      generalize hw0 : w9 = w0 at *
      have HC9 := Lib.hid (show ∀ wx, Below w0.heap.size w0 wx → wx.cell? ⟨g9, 0, none⟩ = some (.int .i64 p) ∧ wx.cell? ⟨g9, 1, none⟩ = some (.int .i64 n) from fun wx h => EBlk.cells (Box.on HX9.out h))
      have HBE := Lib.hid (show ∀ wx, Below w0.heap.size w0 wx → Calls Try.prog 20 #[.slice A m c, .int .i64 p] wx (ExsPost B wx) from fun wx h => HBA.out wx (hb9a.trans (h.mono hb9a.size)))
      clear HBA
      refine wp_region_phase 8 [82, 83, 84, 85, 86, 87, 88, 89, 90, 91, 92, 93, 81, 94, 95, 12, 13] (by kernel_rfl) [16] [] (fun _ _ => True) 1 rfl (by kernel_rfl) (fun _ w' => Below w0.heap.size w0 w') (fun wa wb => Below wa.heap.size wa wb) (FitsV9 w0.heap.size g9 n f (.slice A m c) p B ra rn re) (by kernel_rfl) (fun _ wa wb h1 h2 => h2.trans (h1.mono h2.size)) (fun _ t v wa wb h1 h2 => h2.on h1) (fun _ _ _ _ _ _ _ => trivial) (Below.refl _ _).drew trivial (phase1 ?_ ?_) ?_
      ·
        refine Steps1.cons (fun _ ax wx hS hJ hG => ?_) (Steps1.cons (fun _ ax wx hS hJ hG => ?_) (Steps1.cons (fun _ ax wx hS hJ hG => ?_) (Steps1.cons (fun _ ax wx hS hJ hG => ?_) (Steps1.cons (fun _ ax wx hS hJ hG => ?_) (Steps1.cons (fun _ ax wx hS hJ hG => ?_) (Steps1.cons (fun _ ax wx hS hJ hG => ?_) (Steps1.cons (fun _ ax wx hS hJ hG => ?_) (Steps1.cons (fun _ ax wx hS hJ hG => ?_) (Steps1.cons (fun _ ax wx hS hJ hG => ?_) (Steps1.cons (fun _ ax wx hS hJ hG => ?_) (Steps1.cons (fun _ ax wx hS hJ hG => ?_) (Steps1.cons (fun _ ax wx hS hJ hG => ?_) (Steps1.cons (fun _ ax wx hS hJ hG => ?_) (Steps1.cons (fun _ ax wx hS hJ hG => ?_) (Steps1.cons (fun _ ax wx hS hJ hG => ?_) (Steps1.cons (fun _ ax wx hS hJ hG => ?_) (Steps1.cons (fun _ ax wx hS hJ hG => ?_) Steps1.nil)))))))))))))))))
        · have q0 := hG.old 0 (by kernel_rfl) (by kernel_rfl)
          refine step_slot rfl rfl rfl (step_value (v := .int .i64 n) (w' := wx) rfl rfl ?_ (Below.refl _ _) (fun d hd => by cases hd; exact rfl))
          go_simp
        · have q1 := hG.old 1 (by kernel_rfl) (by kernel_rfl)
          refine step_slot rfl rfl rfl (step_value (v := .int .i64 f) (w' := wx) rfl rfl ?_ (Below.refl _ _) (fun d hd => by cases hd; exact rfl))
          go_simp
        · have q9 := hG.old 9 (by kernel_rfl) (by kernel_rfl)
          refine step_slot rfl rfl rfl (step_value (v := .pointer (some ⟨g9, 0, none⟩)) (w' := wx) rfl rfl ?_ (Below.refl _ _) (fun d hd => by cases hd; exact rfl))
          go_simp
        · obtain ⟨_, q84, rfl⟩ := hG.new 84 (by kernel_rfl) (by kernel_rfl)
          obtain ⟨z0, z1⟩ := HC9.out wx hS
          refine step_slot rfl rfl rfl (step_value (v := .int .i64 p) (w' := wx) rfl rfl ?_ (Below.refl _ _) (fun d hd => by cases hd; exact rfl))
          go_simp
        · have q0 := hG.old 0 (by kernel_rfl) (by kernel_rfl)
          refine step_slot rfl rfl rfl (step_value (v := .int .i64 n) (w' := wx) rfl rfl ?_ (Below.refl _ _) (fun d hd => by cases hd; exact rfl))
          go_simp
        · obtain ⟨_, q85, rfl⟩ := hG.new 85 (by kernel_rfl) (by kernel_rfl)
          obtain ⟨_, q86, rfl⟩ := hG.new 86 (by kernel_rfl) (by kernel_rfl)
          refine step_slot rfl rfl rfl (step_value (v := .int .i64 (p + n)) (w' := wx) rfl rfl ?_ (Below.refl _ _) (fun d hd => by cases hd; exact rfl))
          (go_simp; exact IntWalk.i64_in _ (by omega))
        · obtain ⟨_, q87, rfl⟩ := hG.new 87 (by kernel_rfl) (by kernel_rfl)
          refine step_slot rfl rfl rfl (step_value (v := .int .i64 (p + n - 1)) (w' := wx) rfl rfl ?_ (Below.refl _ _) (fun d hd => by cases hd; exact rfl))
          (go_simp; exact IntWalk.i64_in _ (by omega))
        · have q3 := hG.old 3 (by kernel_rfl) (by kernel_rfl)
          refine step_slot rfl rfl rfl (step_value (v := .slice A m c) (w' := wx) rfl rfl ?_ (Below.refl _ _) (fun d hd => by cases hd; exact rfl))
          go_simp
        · have q9 := hG.old 9 (by kernel_rfl) (by kernel_rfl)
          refine step_slot rfl rfl rfl (step_value (v := .pointer (some ⟨g9, 0, none⟩)) (w' := wx) rfl rfl ?_ (Below.refl _ _) (fun d hd => by cases hd; exact rfl))
          go_simp
        · obtain ⟨_, q90, rfl⟩ := hG.new 90 (by kernel_rfl) (by kernel_rfl)
          obtain ⟨z0, z1⟩ := HC9.out wx hS
          refine step_slot rfl rfl rfl (step_value (v := .int .i64 p) (w' := wx) rfl rfl ?_ (Below.refl _ _) (fun d hd => by cases hd; exact rfl))
          go_simp
        · obtain ⟨_, q89, rfl⟩ := hG.new 89 (by kernel_rfl) (by kernel_rfl)
          obtain ⟨_, q91, rfl⟩ := hG.new 91 (by kernel_rfl) (by kernel_rfl)
          refine step_slot rfl rfl rfl (step_call (w1 := wx) (f := 20) (args := #[.slice A m c, .int .i64 p]) rfl rfl ?_ ((HBE.out wx hS).mono ?_))
          · skip
            go_simp
          · rintro e w' ⟨A', c', rfl, hx, hq, _⟩
            exact ⟨_, rfl, hq, fun d hd => by cases hd; exact fun _ => ⟨A', c', rfl, hx⟩⟩
        · obtain ⟨_, q82, rfl⟩ := hG.new 82 (by kernel_rfl) (by kernel_rfl)
          obtain ⟨_, q83, rfl⟩ := hG.new 83 (by kernel_rfl) (by kernel_rfl)
          obtain ⟨_, q88, rfl⟩ := hG.new 88 (by kernel_rfl) (by kernel_rfl)
          obtain ⟨v92, q92, h92⟩ := hG.new 92 (by kernel_rfl) (by kernel_rfl)
          obtain ⟨A', c', rfl, hx⟩ := (show 0 = 0 → ∃ A c, v92 = .slice A B.length c ∧ Exs wx wx.heap.size A B from h92) rfl
          refine step_slot rfl rfl rfl (step_call (w1 := wx) (f := 12) (args := #[.int .i64 n, .int .i64 f, .int .i64 (p + n - 1), .slice A' B.length c']) rfl rfl ?_ ((HFB.out A' c' wx hx).mono ?_))
          · clear hx h92
            go_simp
          · rintro e w' ⟨rfl, hq⟩
            exact ⟨_, rfl, hq, fun d hd => by cases hd; exact rfl⟩
        · obtain ⟨_, q93, rfl⟩ := hG.new 93 (by kernel_rfl) (by kernel_rfl)
          refine step_slot rfl rfl rfl (step_value (v := .tuple #[.agg #[.int .i64 ra, .int .i64 rn], .int .i64 re]) (w' := wx) rfl rfl ?_ (Below.refl _ _) (fun d hd => by cases hd; exact rfl))
          go_simp
        · obtain ⟨_, q81, rfl⟩ := hG.new 81 (by kernel_rfl) (by kernel_rfl)
          refine step_slot rfl rfl rfl (step_value (v := .agg #[.int .i64 ra, .int .i64 rn]) (w' := wx) rfl rfl ?_ (Below.refl _ _) (fun d hd => by cases hd; exact rfl))
          go_simp
        · obtain ⟨_, q81, rfl⟩ := hG.new 81 (by kernel_rfl) (by kernel_rfl)
          refine step_slot rfl rfl rfl (step_value (v := .int .i64 re) (w' := wx) rfl rfl ?_ (Below.refl _ _) (fun d hd => by cases hd; exact rfl))
          go_simp
        · refine step_slot rfl rfl rfl (step_value (v := ptr wx.heap.size) (w' := wx.alloc (.cells #[.int .i64 0, .int .i64 0] 27)) rfl rfl ?_ ((Below.refl _ _).alloc (Nat.le_refl _) _) (fun d hd => by cases hd; exact ⟨_, rfl, hS.size, fun _ => Box.fresh _ _ _⟩))
          unfold ptr
          go_simp
        · obtain ⟨v12, q12, h12⟩ := hG.new 12 (by kernel_rfl) (by kernel_rfl)
          obtain ⟨_, q94, rfl⟩ := hG.new 94 (by kernel_rfl) (by kernel_rfl)
          obtain ⟨g, rfl, hg, hz⟩ : ∃ g, v12 = ptr g ∧ w0.heap.size ≤ g ∧ (0 = 0 → EBlk wx g ⟨0, 0⟩) := h12
          have hz := hz rfl
          have f0 := Box.free hz 0
          have f1 := Box.free hz 1
          obtain ⟨k0, k1⟩ := EBlk.cells hz
          refine step_store (w' := (wx.setCell ⟨g, 0, none⟩ (.int .i64 ra)).setCell ⟨g, 1, none⟩ (.int .i64 rn)) rfl rfl rfl rfl ?_ ((hS.setCell hg _).setCell hg _) trivial ?_
          · clear hz hS
            unfold ptr at q12
            go_simp
          · intro t u _ hu hV
            unfold FitsV9 at hV ⊢
            split at hV <;> first | exact hV | exact fun h => absurd h (by decide) | exact (let ⟨g, h1, h2, _⟩ := hV; ⟨g, h1, h2, fun h => absurd h (by decide)⟩)
        · obtain ⟨_, q95, rfl⟩ := hG.new 95 (by kernel_rfl) (by kernel_rfl)
          refine step_slot rfl rfl rfl (step_value (v := .int .i64 re) (w' := wx) rfl rfl ?_ (Below.refl _ _) (fun d hd => by cases hd; exact rfl))
          go_simp
      ·
        refine Steps1.cons (fun hin _ _ _ _ _ => out (by kernel_rfl) hin) (Steps1.cons (fun hin _ _ _ _ _ => out (by kernel_rfl) hin) (Steps1.cons (fun hin _ _ _ _ _ => out (by kernel_rfl) hin) (Steps1.cons (fun hin _ _ _ _ _ => out (by kernel_rfl) hin) (Steps1.cons (fun hin _ _ _ _ _ => out (by kernel_rfl) hin) (Steps1.cons (fun hin _ _ _ _ _ => out (by kernel_rfl) hin) (Steps1.cons (fun hin _ _ _ _ _ => out (by kernel_rfl) hin) (Steps1.cons (fun hin _ _ _ _ _ => out (by kernel_rfl) hin) (Steps1.cons (fun hin _ _ _ _ _ => out (by kernel_rfl) hin) (Steps1.cons (fun hin _ _ _ _ _ => out (by kernel_rfl) hin) (Steps1.cons (fun hin _ _ _ _ _ => out (by kernel_rfl) hin) (Steps1.cons (fun hin _ _ _ _ _ => out (by kernel_rfl) hin) (Steps1.cons (fun hin _ _ _ _ _ => out (by kernel_rfl) hin) (Steps1.cons (fun hin _ _ _ _ _ => out (by kernel_rfl) hin) (Steps1.cons (fun _ ax wx hS hJ hG => ?_) (Steps1.cons (fun hin _ _ _ _ _ => out (by kernel_rfl) hin) (Steps1.cons (fun hin _ _ _ _ _ => out (by kernel_rfl) hin) (Steps1.cons (fun _ ax wx hS hJ hG => ?_) Steps1.nil)))))))))))))))))
        · obtain ⟨_, q81, rfl⟩ := hG.new 81 (by kernel_rfl) (by kernel_rfl)
          refine step_slot rfl rfl rfl (step_value (v := .int .i64 re) (w' := wx) rfl rfl ?_ (Below.refl _ _) (fun d hd => by cases hd; exact rfl))
          go_simp
        · obtain ⟨_, q95, rfl⟩ := hG.new 95 (by kernel_rfl) (by kernel_rfl)
          refine step_slot rfl rfl rfl (step_value (v := .int .i64 re) (w' := wx) rfl rfl ?_ (Below.refl _ _) (fun d hd => by cases hd; exact rfl))
          go_simp
      intro gg wa hSa _ hVa
      have h13 : gg 13 = .int .i64 re := hVa 13 (by decide)
      simp only [puts, Act.put, List.setIfInBounds_toArray, List.set_cons_succ, List.set_cons_zero]
      rw [h13]
      clear hVa h13 HC9 HBE HFB
      generalize gg 82 = g82
      generalize gg 83 = g83
      generalize gg 84 = g84
      generalize gg 85 = g85
      generalize gg 86 = g86
      generalize gg 87 = g87
      generalize gg 88 = g88
      generalize gg 89 = g89
      generalize gg 90 = g90
      generalize gg 91 = g91
      generalize gg 92 = g92
      generalize gg 93 = g93
      generalize gg 81 = g81
      generalize gg 94 = g94
      generalize gg 95 = g95
      generalize gg 12 = g12
      have hx := Box.on HX9.out hSa
      obtain ⟨x1, x2⟩ := EBlk.cells hx
      have hlt := Box.lt hx
      simp only at x1 x2
      have hba := hb9a.trans (hSa.mono hb9a.size)
      clear hx hSa HX9
      by_cases hpf : p = f
      · subst hpf
        go_wp2_with fail
        refine (awake_true _).mono ?_
        rintro e wb ⟨rfl, hbb⟩
        go_wp2
        go_ret
        exact ⟨rfl, hba.trans (hbb.mono hba.size)⟩
      · have gpf : (p == f) = false := by simpa using hpf
        go_wp2_with fail
        refine (awake_true _).mono ?_
        rintro e wb ⟨rfl, hbb⟩
        go_wp2
        go_ret
        exact ⟨rfl, hba.trans (hbb.mono hba.size)⟩
  · generalize l.length = m at *
    clear hA
    have g0 : (m : Int) > 30 := by omega
    go_enter Try.func4, Try.ntmps4
    go_wp2_with fail
    refine (awake_true _).mono ?_
    rintro e w1 ⟨rfl, hb1⟩
    go_wp2
    go_ret
    exact ⟨rfl, hb1⟩

end Go.Proofs.Ytodcngkcaeahhaa
