/- The walk of SpaceFills. -/
import Derived.Test.YtodcngkcaeahhaaExsV
namespace Go.Proofs.Ytodcngkcaeahhaa
open Go.RowKit

set_option maxHeartbeats 8000000 in
set_option maxRecDepth 100000 in
theorem fills_walk (f t : Int) (A : Option Addr) (c : Nat) (l : List Ex) (w : World) (hA : Exs w w.heap.size A l) (hn : l.length ≤ maxLen) (hz : A = none → c = 0) :
    Calls Try.prog 7 #[.int .i64 f, .int .i64 t, .slice A l.length c] w fun e w' => e = .returned (.bool true) ∧ Below w.heap.size w w' := by
  unfold maxLen at hn
  by_cases h20 : l.length ≤ 20
  · obtain ⟨tf, htf⟩ : ∃ tf, IntKind.i64.wrap (t - f) = tf := ⟨_, rfl⟩
    by_cases h40 : tf > 40
    · generalize l.length = m at *
      clear hA
      have g0 : ¬ (m : Int) > 20 := by omega
      go_enter Try.func7, Try.ntmps7
      go_wp2_with fail
      refine (awake_true _).mono ?_
      rintro e w1 ⟨rfl, hb1⟩
      go_wp2
      go_ret
      exact ⟨rfl, hb1⟩
    · have hri := right_any f t A c l w hA (by omega)
      by_cases hok : Ok f t l
      · rw [decide_eq_true hok] at hri
        obtain ⟨a1, a2, a3⟩ := hok.1
        rw [IntWalk.i64_in _ (by omega)] at htf
        have hls := left_sum hok
        have hsp := sumL_pos fun x hx => (hok.2.1 x hx).2.1
        have hlb := left_bound f t l
        obtain ⟨n, hn0⟩ : ∃ n : Nat, leftL f t l = n := ⟨(leftL f t l).toNat, by omega⟩
        have hn40 : n ≤ 40 := by omega
        have HLE := Lib.hid (fun w1 (h : Below w.heap.size w w1) => left_any f t A c l w1 (Lies.on hA h) (by omega))
        have HOK := Lib.hid hok
        have HN0 := Lib.hid hn0
        rw [hn0] at HLE
        have HA := Lib.hid hA
        generalize hl : l.length = m at *
        have HL := Lib.hid hl
        have g0 : ¬ (m : Int) > 20 := by omega
        subst htf
        clear hA hok hls hsp hlb hn0 hl
        go_enter Try.func7, Try.ntmps7
        go_wp2_with fail
        refine hri.mono ?_
        clear hri
        rintro e w1 ⟨rfl, hb1⟩
        have hle := HLE.out w1 hb1
        clear HLE
        go_wp2_with fail
        refine hle.mono ?_
        clear hle
        rintro e w2 ⟨rfl, hb2⟩
        have hb02 := hb1.trans (hb2.mono hb1.size)
        clear hb1 hb2
        have HA2 := Lib.hid (Lies.on HA.out hb02)
        have hlt2 := hb02.size
        go_wp2_with (at_builtin; refine append_exs _ rfl _ _ rfl w.heap.size _ 0 [] rfl (World.ownsRow_made w2 #[] 0 hb02.size (Nat.zero_le _) rfl) _ A m c l rfl HL.out (Lies.on HA2.out ((Below.refl _ _).alloc (Nat.le_refl _) _)) hz ?c4 ?c5 ?_)
        case c4 => omega
        case c5 => simp; omega
        intro v3 w3 hown3 hg3
        have hb3 : Below w.heap.size w w3 := (hb02.alloc hb02.size _).grown hg3 (by simp; omega) (by intro k hk; simp [Value.ownBlock] at hk; omega)
        have HO3 := Lib.hid (show w3.ownsRow w.heap.size 27 2 v3 m (l.flatMap Ex.cells) by simpa using hown3)
        clear hown3 hg3 hb02 HA2 hlt2
        go_wp2
        go_loopw [8, 9, 39] (fun la us i wr => ∃ (k : Nat) (u : List Ex) (last : Int), la = .int .i64 last ∧ i = .int .i64 k ∧ k ≤ n ∧ wr.ownsRow w.heap.size 27 2 us (m + k) (u.flatMap Ex.cells) ∧ u.length = m + k ∧ Ok f t u ∧ leftL f t u = (n : Int) - k ∧ (∀ q, f ≤ q → q + 1 ≤ t → (∀ y ∈ u, Dis ⟨q, 1⟩ y) → last < q) ∧ Below w.heap.size w wr) (fun _ _ i _ => (n - intOf i).toNat)
        case atStart => exact ⟨0, l, -1, rfl, rfl, by omega, HO3.out, HL.out, HOK.out, by rw [HN0.out]; simp, fun q h1 _ _ => by omega, hb3⟩
        case round =>
          obtain ⟨k, u, last, rfl, rfl, hk, hown, hul, hok, hleft, hlast, hbr⟩ := hrel
          obtain ⟨A5, c5, rfl⟩ := own_shape hown
          have hU : Exs wr wr.heap.size A5 u := Lies.own Ex.cells2 (by rw [hul]; exact hown)
          have hft := fit_any 1 f t A5 c5 u wr hU (by omega)
          rw [hul] at hft
          by_cases hlt : k < n
          · obtain ⟨p, hp, hlp, s1, s2, s3⟩ := fills_step hok (by omega) hlast
            rw [hp] at hft
            obtain ⟨_, _, _, k4, k5, _⟩ := fit_least hp
            have HS := Lib.hid (And.intro s1 s3)
            have HS2 := Lib.hid (show leftL f t (u ++ [⟨p, 1⟩]) = (n : Int) - (k + 1 : Nat) by rw [s2, hleft]; omega)
            have HOW := Lib.hid hown
            have HUL := Lib.hid hul
            clear hok hleft hlast s1 s2 s3 hp hU hown hul
            simp only at hft
            have hlp2 : ¬ p ≤ last := by omega
            go_wp2_with fail
            refine hft.mono ?_
            clear hft
            rintro e w4 ⟨rfl, hb4⟩
            have hown4 := own_below HOW.out hb4
            have hown5 := hown4.alloc (.cells #[.int .i64 p, .int .i64 1] 27)
            have hb5 : Below w.heap.size w (w4.alloc (.cells #[.int .i64 p, .int .i64 1] 27)) := (hbr.trans (hb4.mono hbr.size)).alloc (Nat.le_trans hbr.size hb4.size) _
            have HNE := Lib.hid (show some w4.heap.size ≠ (Value.slice A5 (m + k) c5).ownBlock from fun e => by have := (hown4.lt _ e.symm).2; omega)
            have HO5 := Lib.hid hown5
            have HB5 := Lib.hid hb5
            clear hown4 hown5 hb4 hb5 HOW hbr
            go_wp2
            obtain ⟨wq, hwq⟩ : ∃ wq, wq = w4.alloc (.cells #[.int .i64 p, .int .i64 1] 27) := ⟨_, rfl⟩
            have hx : EBlk wq w4.heap.size ⟨p, 1⟩ := by rw [hwq]; exact Box.fresh _ _ _
            rw [← hwq]
            rw [← hwq] at HO5 HB5
            generalize w4.heap.size = g at *
            clear hwq
            have hbase : w.heap.size ≤ wq.heap.size := HB5.out.size
            have HC := Lib.hid (show ∀ wx, EBlk wx g ⟨p, 1⟩ → wx.cell? ⟨g, 0, none⟩ = some (.int .i64 p) ∧ wx.cell? ⟨g, 1, none⟩ = some (.int .i64 1) from fun wx h => EBlk.cells h)
            refine wp_region_phase 5 [61, 62, 63, 64, 65, 66, 8, 9] (by kernel_rfl) [5] [] (fun _ _ => True) 1 rfl (by kernel_rfl) (FillsS w.heap.size g wq (.slice A5 (m + k) c5) u (m + k) p 1) (fun wa wb => Below wa.heap.size wa wb) (FillsV w.heap.size g (.slice A5 (m + k) c5) u (m + k) p 1) (by kernel_rfl) (fun _ wa wb h1 h2 => h2.on h1) (fun _ t v wa wb h1 h2 => h2.on h1) (fun _ _ _ _ _ _ _ => trivial) ?s0 trivial (phase1 ?_ ?_) ?_
            case s0 => exact ⟨fun _ => ⟨(Below.refl _ _).drew, own_below HO5.out (Below.refl _ _).drew⟩, fun h => absurd h (by decide), Box.on hx (Below.refl _ _).drew, hbase⟩
            ·
              refine Steps1.cons (fun _ ax wx hS hJ hG => ?_) (Steps1.cons (fun _ ax wx hS hJ hG => ?_) (Steps1.cons (fun _ ax wx hS hJ hG => ?_) (Steps1.cons (fun _ ax wx hS hJ hG => ?_) (Steps1.cons (fun _ ax wx hS hJ hG => ?_) (Steps1.cons (fun _ ax wx hS hJ hG => ?_) (Steps1.cons (fun _ ax wx hS hJ hG => ?_) (Steps1.cons (fun hin _ _ _ _ _ => out (by kernel_rfl) hin) Steps1.nil)))))))
              · have q10 := hG.old 10 (by kernel_rfl) (by kernel_rfl)
                refine step_slot rfl rfl rfl (step_value (v := .pointer (some ⟨g, 0, none⟩)) (w' := wx) rfl rfl ?_ (Below.refl _ _) (fun d hd => by cases hd; exact rfl))
                go_simp
              · obtain ⟨_, q61, rfl⟩ := hG.new 61 (by kernel_rfl) (by kernel_rfl)
                obtain ⟨z0, z1⟩ := HC.out wx hS.2.2.1
                refine step_slot rfl rfl rfl (step_value (v := .int .i64 p) (w' := wx) rfl rfl ?_ (Below.refl _ _) (fun d hd => by cases hd; exact rfl))
                go_simp
              · have q9 := hG.old 9 (by kernel_rfl) (by kernel_rfl)
                refine step_slot rfl rfl rfl (step_value (v := .slice A5 (m + k) c5) (w' := wx) rfl rfl ?_ (Below.refl _ _) (fun d hd => by cases hd; exact rfl))
                go_simp
              · have q10 := hG.old 10 (by kernel_rfl) (by kernel_rfl)
                obtain ⟨z0, z1⟩ := HC.out wx hS.2.2.1
                refine step_slot rfl rfl rfl (step_value (v := .agg #[.int .i64 p, .int .i64 1]) (w' := wx) rfl rfl ?_ (Below.refl _ _) (fun d hd => by cases hd; exact rfl))
                go_simp
              · obtain ⟨_, q64, rfl⟩ := hG.new 64 (by kernel_rfl) (by kernel_rfl)
                refine step_slot rfl rfl rfl (step_value (v := .slice (some ⟨wx.heap.size, 0, none⟩) 1 1) (w' := wx.alloc (.cells #[.int .i64 p, .int .i64 1] 27)) rfl rfl ?_ ((Below.refl _ _).alloc (Nat.le_refl _) _) (fun d hd => by cases hd; exact fun _ => ⟨_, rfl, hS.2.2.2, Box.fresh _ _ _⟩))
                clear hS
                go_simp
              · obtain ⟨_, q1, rfl⟩ := hG.new 63 (by kernel_rfl) (by kernel_rfl)
                obtain ⟨v3, q2, h2⟩ := hG.new 65 (by kernel_rfl) (by kernel_rfl)
                obtain ⟨hS1, hown⟩ := hS.1 rfl
                obtain ⟨g5, rfl, hl5⟩ := OneS.lies ((show 0 = 0 → OneS w.heap.size ⟨p, 1⟩ wx v3 from h2) rfl)
                obtain ⟨v2, w2, hr, hown2, hg⟩ := run_append_exs wx 22 w.heap.size _ (m + k) _ hown wx.heap.size (some ⟨g5, 0, none⟩) 1 1 [⟨p, 1⟩] rfl hl5 (fun h => by cases h) (by omega) hS.2.2.2
                have hS2 : Below w.heap.size wq w2 := (hS1.mono hbase).grown hg hS.2.2.2 (fun k hk => (hown.lt k hk).1)
                refine step_marked (v := v2) (w' := w2) rfl rfl rfl rfl ?_ ⟨fun h => absurd h (by decide), fun _ => hS2, Box.grown hS.2.2.1 hg HNE.out, Nat.le_trans hS.2.2.2 hg.size⟩ trivial ?_ ?_
                · have e1 : ax.eval (.tmp 63) = .slice A5 (m + k) c5 := by simp [Act.eval, q1]
                  have e2 : ax.eval (.tmp 65) = .slice (some ⟨g5, 0, none⟩) 1 1 := by simp [Act.eval, q2]
                  unfold execOp
                  simp only [resolve, invoke, builtin, Sem.run_bind, Sem.run_pure, Result.andThen_ok, List.map_toArray, List.map_cons, List.map_nil, e1, e2, hr]
                · exact fun _ => (by rw [List.flatMap_append]; exact hown2)
                · intro t u _ ht hu hV
                  unfold FillsV at hV ⊢
                  split at hV
                  · exact hV
                  · exact hV
                  · exact hV
                  · exact hV
                  · exact fun h => absurd h (by decide)
                  · exact absurd rfl ht
                  · exact hV
                  · exact absurd hV.1 (by decide)
                  · trivial
              · obtain ⟨_, q62, rfl⟩ := hG.new 62 (by kernel_rfl) (by kernel_rfl)
                refine step_slot rfl rfl rfl (step_value (v := .int .i64 p) (w' := wx) rfl rfl ?_ (Below.refl _ _) (fun d hd => by cases hd; exact rfl))
                go_simp
            ·
              refine Steps1.cons (fun _ ax wx hS hJ hG => ?_) (Steps1.cons (fun _ ax wx hS hJ hG => ?_) (Steps1.cons (fun hin _ _ _ _ _ => out (by kernel_rfl) hin) (Steps1.cons (fun hin _ _ _ _ _ => out (by kernel_rfl) hin) (Steps1.cons (fun hin _ _ _ _ _ => out (by kernel_rfl) hin) (Steps1.cons (fun hin _ _ _ _ _ => out (by kernel_rfl) hin) (Steps1.cons (fun _ ax wx hS hJ hG => ?_) (Steps1.cons (fun _ ax wx hS hJ hG => ?_) Steps1.nil)))))))
              · have q10 := hG.old 10 (by kernel_rfl) (by kernel_rfl)
                refine step_slot rfl rfl rfl (step_value (v := .pointer (some ⟨g, 0, none⟩)) (w' := wx) rfl rfl ?_ (Below.refl _ _) (fun d hd => by cases hd; exact rfl))
                go_simp
              · obtain ⟨_, q61, rfl⟩ := hG.new 61 (by kernel_rfl) (by kernel_rfl)
                obtain ⟨z0, z1⟩ := HC.out wx hS.2.2.1
                refine step_slot rfl rfl rfl (step_value (v := .int .i64 p) (w' := wx) rfl rfl ?_ (Below.refl _ _) (fun d hd => by cases hd; exact rfl))
                go_simp
              · obtain ⟨_, q62, rfl⟩ := hG.new 62 (by kernel_rfl) (by kernel_rfl)
                refine step_slot rfl rfl rfl (step_value (v := .int .i64 p) (w' := wx) rfl rfl ?_ (Below.refl _ _) (fun d hd => by cases hd; exact rfl))
                go_simp
              · obtain ⟨v1, q1, h1⟩ := hG.new 66 (by kernel_rfl) (by kernel_rfl)
                refine step_slot rfl rfl rfl (step_value (v := v1) (w' := wx) rfl rfl ?_ (Below.refl _ _) (fun d hd => by cases hd; exact ⟨rfl, (show 1 = 1 → _ from h1) rfl⟩))
                clear h1 hS
                go_simp
            intro gg w6 hS6 _ hV6
            have h9 : w6.ownsRow w.heap.size 27 2 (gg 9) (m + k + 1) ((u ++ [(⟨p, 1⟩ : Ex)]).flatMap Ex.cells) := (show 1 = 1 ∧ _ from hV6 9 (by decide)).2
            have h8 : gg 8 = .int .i64 p := hV6 8 (by decide)
            have hb6 : Below w.heap.size w w6 := HB5.out.trans (hS6.2.1 rfl)
            obtain ⟨A6, c6, e9⟩ := own_shape h9
            rw [e9] at h9
            simp only [puts, Act.put, List.setIfInBounds_toArray, List.set_cons_succ, List.set_cons_zero]
            rw [e9, h8]
            have HO9 := Lib.hid h9
            clear hV6 e9 h9 h8 hS6 HC HNE HO5 HB5 hx
            generalize gg 61 = g61
            generalize gg 62 = g62
            generalize gg 63 = g63
            generalize gg 64 = g64
            generalize gg 65 = g65
            generalize gg 66 = g66
            go_wp2
            go_roundw
            case rel => exact ⟨k + 1, u ++ [⟨p, 1⟩], p, rfl, by go_num, by omega, HO9.out, by simp [HUL.out]; omega, HS.out.1, HS2.out, HS.out.2, hb6⟩
            case measure => simp [intOf]; omega
          · obtain ⟨e1, e2⟩ := fills_end hok (by omega)
            rw [e1] at hft
            have HFR := Lib.hid (fun w1 (h : Below wr.heap.size wr w1) => free_any f t A5 c5 u w1 (Lies.on hU h) (by omega))
            rw [e2, hul] at HFR
            clear hok hleft hlast e1 e2 hU hown hul
            simp only at hft
            go_wp2_with fail
            refine hft.mono ?_
            clear hft
            rintro e w4 ⟨rfl, hb4⟩
            have hb5 := hb4.alloc hb4.size (.cells #[.int .i64 0, .int .i64 0] 27)
            have hfr := HFR.out _ hb5
            clear HFR
            go_wp2_with fail
            refine hfr.mono ?_
            clear hfr
            rintro e w6 ⟨A6, c6, rfl, _, hb6, _⟩
            have hb6a := hb5.trans (hb6.mono hb5.size)
            simp only [List.length_nil]
            go_wp2_with fail
            refine (awake_true _).mono ?_
            rintro e w7 ⟨rfl, hb7⟩
            have hb7a := hb6a.trans (hb7.mono hb6a.size)
            go_wp2
            go_ret
            exact ⟨rfl, hbr.trans (hb7a.mono hbr.size)⟩
      · rw [decide_eq_false hok] at hri
        generalize l.length = m at *
        clear hA hok
        have g0 : ¬ (m : Int) > 20 := by omega
        go_enter Try.func7, Try.ntmps7
        go_wp2_with fail
        refine hri.mono ?_
        clear hri
        rintro e w1 ⟨rfl, hb1⟩
        go_wp2_with fail
        refine (awake_true _).mono ?_
        rintro e w2 ⟨rfl, hb2⟩
        go_wp2
        go_ret
        exact ⟨rfl, hb1.trans (hb2.mono hb1.size)⟩
  · generalize l.length = m at *
    clear hA
    have g0 : (m : Int) > 20 := by omega
    go_enter Try.func7, Try.ntmps7
    go_wp2_with fail
    refine (awake_true _).mono ?_
    rintro e w1 ⟨rfl, hb1⟩
    go_wp2
    go_ret
    exact ⟨rfl, hb1⟩

end Go.Proofs.Ytodcngkcaeahhaa
