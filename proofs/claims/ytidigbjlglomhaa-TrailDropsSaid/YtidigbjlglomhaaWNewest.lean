/- The walk of Newest: a map of the call's own, from keys to the last Seqs. -/
import Derived.Test.YtidigbjlglomhaaWSince
import Derived.Maps.Own
set_option linter.unusedVariables false
set_option linter.unusedSimpArgs false
namespace Go.Proofs.Ytidigbjlglomhaa
open Go.RowKit Go.Maps

theorem key_law : Keyed Try.prog 9 := string_keyed Try.underlying9
theorem int_zero (w : World) : (zeroValue 3).run Try.prog w = .ok (.int .i64 0) w := by kernel_rfl
def litK (k : ByteArray) : Lit := .string k.data.toList
theorem litK_inj {a b : ByteArray} (h : litK a = litK b) : a = b := by
  obtain ⟨⟨a⟩⟩ := a
  obtain ⟨⟨b⟩⟩ := b
  unfold litK at h
  simp at h
  rw [h]
theorem key_of {k : ByteArray} (h : k.size ≤ maxLen) : keyOf Try.prog 9 (.string k) = some (litK k) := Go.WideMaps.keyOf_string_mk Try.underlying9 h
theorem key_is (k : ByteArray) : WideAt.IsKeyLit (litK k) := trivial

/-- The block b holds a map of at most n entries, which tells f. -/
def MapS (w : World) (b n : Nat) (f : ByteArray → Int) : Prop :=
  ∃ (D : DataW Unit) (m : Nat), m ≤ n ∧ w.ownsMap Try.prog 9 (plainElem Try.prog 3) b m D ∧ ∀ k : ByteArray, D.atKey (litK k) (.lit (.int .i64 0)) = .lit (.int .i64 (f k))
theorem MapS.kept {w w' : World} {b n : Nat} {f : ByteArray → Int} {row : Option Nat} (h : MapS w b n f) (hg : w.grownBy w' row) (hne : some b ≠ row) : MapS w' b n f := by
  obtain ⟨D, m, hm, h1, h2⟩ := h
  exact ⟨D, m, hm, h1.kept hg hne, h2⟩
theorem MapS.on {w w' : World} {b n : Nat} {f : ByteArray → Int} (h : MapS w b n f) (hb : Below w.heap.size w w') : MapS w' b n f :=
  h.kept (row := none) ⟨hb.os, hb.tape, hb.output, hb.size, fun k hk _ => hb.block k hk⟩ (by simp)
theorem MapS.made (w : World) : MapS (w.alloc (.map #[] 0)) w.heap.size 0 fun _ => 0 :=
  ⟨.map [], 0, Nat.le_refl _, World.ownsMap_made w _ _ _, fun _ => rfl⟩
theorem MapS.lt {w : World} {b n : Nat} {f : ByteArray → Int} (h : MapS w b n f) : b < w.heap.size := let ⟨_, _, _, h1, _⟩ := h; h1.lt
theorem MapS.is {w : World} {b n n' : Nat} {f g : ByteArray → Int} (h : MapS w b n f) (hn : n ≤ n') (e : ∀ k, f k = g k) : MapS w b n' g := by
  obtain ⟨D, m, hm, h1, h2⟩ := h
  exact ⟨D, m, by omega, h1, fun k => by rw [h2, e]⟩
/-- 'm[k]'. -/
theorem MapS.look {w : World} {b n : Nat} {f : ByteArray → Int} (h : MapS w b n f) {k : ByteArray} (hk : k.size ≤ maxLen) : (Instr.lookup 44 (.map (some b)) (.string k) false).run Try.prog w = .ok (.int .i64 (f k)) w := by
  obtain ⟨D, m, hm, h1, h2⟩ := h
  obtain ⟨c, hr, hc, _⟩ := h1.lookup_int (t := 44) key_law Try.underlying44 Try.underlying3 (int_zero w) (key_of hk)
  rw [h2] at hc
  injection hc with hc
  injection hc with _ hc
  rw [hr, hc]
/-- 'm[k] = s'. -/
theorem MapS.store {w : World} {b n : Nat} {f : ByteArray → Int} (h : MapS w b n f) (hn : n < maxLen) {k : ByteArray} (hk : k.size ≤ maxLen) {s : Int} (hs : (Lit.int .i64 s).wf = true) :
    ∃ w', (Instr.mapUpdate 44 (.map (some b)) (.string k) (.int .i64 s)).run Try.prog w = .ok () w' ∧ MapS w' b (n + 1) (fun o => if k = o then s else f o) ∧ w.grownBy w' (some b) := by
  obtain ⟨D, m, hm, h1, h2⟩ := h
  obtain ⟨w', hr, h3, h4⟩ := h1.update (t := 44) key_law Try.underlying44 (by omega) (key_of hk) (plainElem_int Try.underlying3 hs)
  refine ⟨w', hr, ⟨D.put (litK k) (.lit (.int .i64 s)), m + 1, by omega, h3, fun o => ?_⟩, h4⟩
  show _ = DataW.lit (Lit.int .i64 (if k = o then s else f o))
  by_cases e : k = o
  · subst e
    rw [if_pos rfl, atKey_put_same h1.isMap (key_is _)]
  · rw [if_neg e, atKey_put_other (fun he => e (litK_inj he).symm), h2]

set_option maxRecDepth 100000 in
set_option maxHeartbeats 8000000 in
theorem newest_v {v : Value} {l : List Ch} (s : Int) {w : World} (h : CV w v l) (hn : l.length ≤ 1000) :
    Calls Try.prog 13 #[v, .int .i64 s] w fun e w' => ∃ v', e = .returned v' ∧ CV w' v' (newestL l s) ∧ Below w.heap.size w w' := by
  have hmm := @run_makeMap Try.prog
  have hrt := right_v h (by unfold maxLen; omega)
  obtain ⟨R, hR⟩ : ∃ R, trailB l = R := ⟨_, rfl⟩
  rw [hR] at hrt
  have HR := Lib.hid hrt
  obtain ⟨A, c, rfl, hA, _⟩ := h
  have HA := Lib.hid hA
  obtain ⟨n, hl⟩ : ∃ n, l.length = n := ⟨_, rfl⟩
  rw [hl] at hn
  have HL := Lib.hid hl
  cases R with
  | false =>
    have HE := Lib.hid (show newestL l s = [] from by unfold newestL; rw [hR]; rfl)
    clear hrt hR hA hl
    go_enter Try.func13, Try.ntmps13
    go_wp2_with fail
    refine HR.out.mono ?_
    rintro e w1 ⟨rfl, hb⟩
    go_wp2
    go_ret
    rw [HE.out]
    exact ⟨_, rfl, CV.nil _, hb⟩
  | true =>
    have HE := Lib.hid (show newestL l s = l.filter (keptB l s) from by unfold newestL; rw [hR]; rfl)
    have HT := Lib.hid (trail_t.1 hR)
    rw [hl] at hrt ⊢
    have HR := Lib.hid hrt
    clear hrt hR hA hl
    go_enter Try.func13, Try.ntmps13
    go_wp2_with fail
    refine HR.out.mono ?_
    rintro e w1 ⟨rfl, hb⟩
    have HB1 := Lib.hid hb
    have HA1 := Lib.hid (HA.out.on hb)
    clear hb HA HR
    go_upto_region 4 with fail
    obtain ⟨gm, hgm⟩ : ∃ gm, gm = w1.heap.size := ⟨_, rfl⟩
    obtain ⟨w2, hw2⟩ : ∃ w2, w2 = w1.alloc (.map #[] 0) := ⟨_, rfl⟩
    rw [← hgm, ← hw2]
    have hb : Below w1.heap.size w1 w2 := by rw [hw2]; exact (Below.refl _ _).alloc (Nat.le_refl _) _
    have HM2 := Lib.hid (show MapS w2 gm 0 (seqOf (l.take 0) s) from by rw [hw2, hgm]; exact MapS.made w1)
    have HB2 := Lib.hid hb
    have HGM := Lib.hid hgm
    clear hb hw2 hgm
    go_wp2
    go_loopw [17] (fun i wr => ∃ (k : Nat), i = .int .i64 k ∧ k ≤ n ∧ Hid (MapS wr gm k (seqOf (l.take k) s)) ∧ Below w1.heap.size w1 wr) (fun i _ => (n - intOf i).toNat)
    case atStart => exact ⟨0, rfl, by omega, HM2, HB2.out⟩
    case round =>
      obtain ⟨k, rfl, hk, HM, hbr⟩ := hrel
      have hbs := hbr.size
      by_cases hlt : k < n
      · have hkl : k < l.length := by rw [HL.out]; exact hlt
        obtain ⟨ad, rfl, hab, hca⟩ := (HA1.out.below hbr).seeC (by rw [HL.out]; omega)
        obtain ⟨c0, c1, c2', c3, c4', c5⟩ := hca k hkl
        have HTK := Lib.hid (take_snoc hkl)
        have hmem := List.getElem_mem hkl
        have hsq := HT.out.seq hmem
        have hky := HT.out.key hmem
        obtain ⟨x, hx⟩ : ∃ x, x = l[k]'hkl := ⟨_, rfl⟩
        rw [← hx] at c0 c1 c2' c3 c4' c5 HTK hsq hky
        clear hx hca hmem
        obtain ⟨xs, xk, xh, xb, xg, xa⟩ := x
        simp only at c0 c1 c2' c3 c4' c5 hsq hky
        have HKY := Lib.hid (show xk.size ≤ maxLen from by unfold maxLen; omega)
        have HWF := Lib.hid (show (Lit.int .i64 xs).wf = true from WalkArith.wf_i64 (by omega))
        clear hsq hky
        go_upto_region 7 with fail
        obtain ⟨gx, hgx⟩ : ∃ gx, gx = wr.heap.size := ⟨_, rfl⟩
        obtain ⟨wz, hwz⟩ : ∃ wz, wz = wr.alloc (.cells #[.int .i64 xs, .string xk, .bool xh, .string xb, .bool xg, .string xa] 30) := ⟨_, rfl⟩
        rw [← hgx, ← hwz]
        have hb : Below wr.heap.size wr wz := by rw [hwz]; exact (Below.refl _ _).alloc (Nat.le_refl _) _
        obtain ⟨y0, y1⟩ : _ ∧ _ := let hx := (show Box wz gx 30 #[.int .i64 xs, .string xk, .bool xh, .string xb, .bool xg, .string xa] from by rw [hwz]; exact Box.at_ wr _ _ hgx); ⟨Box.cell hx 0 rfl, Box.cell hx 1 rfl⟩
        have HMz := Lib.hid (HM.out.on hb)
        have HBz := Lib.hid (hbr.trans (hb.mono hbs))
        clear hb hgx hwz c0 c1 c2' c3 c4' c5 hab hbr HM
        by_cases hs : xs ≤ s
        · have hd : decide (xs ≤ s) = true := decide_eq_true hs
          obtain ⟨w5, hr5, hm5, hg5⟩ := HMz.out.store (by unfold maxLen; omega) HKY.out HWF.out
          have HM5 := Lib.hid (show MapS w5 gm (k + 1) (seqOf (l.take (k + 1)) s) from hm5.is (Nat.le_refl _) fun o => by
            rw [HTK.out, seqOf_snoc]
            by_cases e : xk = o
            · rw [if_pos e, if_pos ⟨hs, e⟩]
            · rw [if_neg e, if_neg (fun h => e h.2)])
          have hb5 : Below w1.heap.size w1 w5 := HBz.out.grown hg5 HBz.out.size (fun k hk => by cases hk; rw [HGM.out]; exact Nat.le_refl _)
          clear hm5 hg5 hs
          go_wp2
          go_roundw
          case rel => exact ⟨k + 1, by go_num, by omega, HM5, hb5⟩
          case measure => simp [intOf]; omega
        · have hd : decide (xs ≤ s) = false := decide_eq_false hs
          have HM5 := Lib.hid (show MapS wz gm (k + 1) (seqOf (l.take (k + 1)) s) from HMz.out.is (by omega) fun o => by
            rw [HTK.out, seqOf_snoc, if_neg (fun h => hs h.1)])
          have hb5 := HBz.out
          clear hs
          go_wp2
          go_roundw
          case rel => exact ⟨k + 1, by go_num, by omega, HM5, hb5⟩
          case measure => simp [intOf]; omega
      · have hkn : k = n := by omega
        have HM6 := Lib.hid (show MapS wr gm n (seqOf l s) from by
          have := HM.out
          rw [List.take_of_length_le (by rw [HL.out]; omega), hkn] at this
          exact this)
        have HB6 := Lib.hid hbr
        have hl6 := HM6.out.lt
        obtain ⟨w6, hw6⟩ : ∃ w6, w6 = wr := ⟨_, rfl⟩
        rw [← hw6] at HM6 HB6 hl6 ⊢
        clear hkn HM hbr hw6 hbs
        go_wp2
        go_loopw [8, 33] (fun v i wr => ∃ (k m : Nat), i = .int .i64 k ∧ k ≤ n ∧ Hid (m = ((l.take k).filter (keptB l s)).length ∧ m ≤ k) ∧ Hid (wr.ownsRow (gm + 1) 30 6 v m (((l.take k).filter (keptB l s)).flatMap Ch.cells)) ∧ Hid (MapS wr gm n (seqOf l s)) ∧ Below w1.heap.size w1 wr) (fun _ i _ => (n - intOf i).toNat)
        case atStart => exact ⟨0, 0, rfl, by omega, (show _ ∧ _ from ⟨rfl, by omega⟩), (show World.ownsRow _ _ _ _ _ _ _ from World.ownsRow_nil _ _ _ _), HM6, HB6.out⟩
        case round =>
          obtain ⟨k, m, rfl, hk, HM, HO, HMP, hbr⟩ := hrel
          obtain ⟨A2, c2, rfl⟩ := own_shape HO.out
          have hbs := hbr.size
          by_cases hlt : k < n
          · have hkl : k < l.length := by rw [HL.out]; exact hlt
            obtain ⟨ad, rfl, hab, hca⟩ := (HA1.out.below hbr).seeC (by rw [HL.out]; omega)
            obtain ⟨c0, c1, c2', c3, c4', c5⟩ := hca k hkl
            have HTF := Lib.hid (filter_take (keptB l s) l hkl)
            have hky := HT.out.key (List.getElem_mem hkl)
            obtain ⟨x, hx⟩ : ∃ x, x = l[k]'hkl := ⟨_, rfl⟩
            rw [← hx] at c0 c1 c2' c3 c4' c5 HTF hky
            clear hx hca
            obtain ⟨xs, xk, xh, xb, xg, xa⟩ := x
            simp only at c0 c1 c2' c3 c4' c5 hky
            have HKY := Lib.hid (show xk.size ≤ maxLen from by unfold maxLen; omega)
            clear hky
            go_upto_region 14 with fail
            obtain ⟨gx, hgx⟩ : ∃ gx, gx = wr.heap.size := ⟨_, rfl⟩
            obtain ⟨wz, hwz⟩ : ∃ wz, wz = wr.alloc (.cells #[.int .i64 xs, .string xk, .bool xh, .string xb, .bool xg, .string xa] 30) := ⟨_, rfl⟩
            rw [← hgx, ← hwz]
            have hb : Below wr.heap.size wr wz := by rw [hwz]; exact (Below.refl _ _).alloc (Nat.le_refl _) _
            obtain ⟨y0, y1, y2, y3, y4, y5⟩ : _ ∧ _ ∧ _ ∧ _ ∧ _ ∧ _ := let hx := (show Box wz gx 30 #[.int .i64 xs, .string xk, .bool xh, .string xb, .bool xg, .string xa] from by rw [hwz]; exact Box.at_ wr _ _ hgx); ⟨Box.cell hx 0 rfl, Box.cell hx 1 rfl, Box.cell hx 2 rfl, Box.cell hx 3 rfl, Box.cell hx 4 rfl, Box.cell hx 5 rfl⟩
            have HMz := Lib.hid (HMP.out.on hb)
            have HOz := Lib.hid (own_on HO.out hb)
            have HBz := Lib.hid (hbr.trans (hb.mono hbs))
            have HZS := Lib.hid (show gm + 1 ≤ wz.heap.size from by have := HMz.out.lt; omega)
            clear hb hgx hwz c0 c1 c2' c3 c4' c5 hab hbr HO HMP
            obtain ⟨fk, hfk⟩ : ∃ fk, seqOf l s xk = fk := ⟨_, rfl⟩
            have hlook := HMz.out.look HKY.out
            rw [hfk] at hlook
            have HKB := Lib.hid (show keptB l s ⟨xs, xk, xh, xb, xg, xa⟩ = (decide (s < xs) || (xs == fk)) from by
              unfold keptB
              rw [hfk]
              congr 1)
            clear hfk
            have own := HOz.out
            have h8 := HBz.out
            have h8s := h8.size
            have h8t := HZS.out
            rcases hs : decide (s < xs) with _ | _
            · rcases he : (xs == fk) with _ | _
              · have HF := Lib.hid (show (l.take (k + 1)).filter (keptB l s) = (l.take k).filter (keptB l s) from by rw [HTF.out, HKB.out, hs, he]; simp)
                clear own h8s h8t
                go_wp2
                go_roundw
                case rel => exact ⟨k + 1, m, by go_num, by omega, (show _ ∧ _ from by rw [HF.out]; exact ⟨HM.out.1, by have := HM.out.2; omega⟩), (show World.ownsRow _ _ _ _ _ _ _ from by rw [HF.out]; exact HOz.out), HMz, h8⟩
                case measure => simp [intOf]; omega
              · have HF := Lib.hid (show (l.take (k + 1)).filter (keptB l s) = (l.take k).filter (keptB l s) ++ [⟨xs, xk, xh, xb, xg, xa⟩] from by rw [HTF.out, HKB.out, hs, he]; simp)
                go_wp2_with (at_builtin; refine append_change _ rfl _ _ rfl (gm + 1) _ m (((l.take k).filter (keptB l s)).flatMap Ch.cells) rfl (own.alloc _) (wz.heap.size + 1) wz.heap.size ⟨xs, xk, xh, xb, xg, xa⟩ rfl ?a1 ?a2 ?a3 ?_)
                case a1 => exact Lies.lit Ch.cells6 rfl
                case a2 => have := HM.out.2; omega
                case a3 => first | omega | (simp; omega)
                intro v' w5 hown5 hg5 hat
                have hk5 : ∀ k, Value.ownBlock _ = some k → gm + 1 ≤ k := fun k hk => (own_lt own hk).1
                have hb5 : Below w1.heap.size w1 w5 := (h8.alloc h8s _).grown hg5 (by simp; omega) (fun k hk => by have h1 := hk5 k hk; have := HGM.out; omega)
                have H5 := Lib.hid (row_step hown5 HF.out)
                have HM5 := Lib.hid (show m + 1 = ((l.take (k + 1)).filter (keptB l s)).length ∧ m + 1 ≤ k + 1 from ⟨by rw [HF.out, List.length_append, ← HM.out.1]; rfl, by have := HM.out.2; omega⟩)
                have HMP5 := Lib.hid (show MapS w5 gm n (seqOf l s) from (HMz.out.on ((Below.refl _ _).alloc (Nat.le_refl _) _)).kept hg5 (fun e => by have := hk5 gm e.symm; omega))
                clear own hown5 hg5 hat hk5 y0 y1 y2 y3 y4 y5 h8 h8s h8t hlook
                go_wp2
                go_roundw
                case rel => exact ⟨k + 1, m + 1, by go_num, by omega, HM5, H5, HMP5, hb5⟩
                case measure => simp [intOf]; omega
            · have HF := Lib.hid (show (l.take (k + 1)).filter (keptB l s) = (l.take k).filter (keptB l s) ++ [⟨xs, xk, xh, xb, xg, xa⟩] from by rw [HTF.out, HKB.out, hs]; simp)
              go_wp2_with (at_builtin; refine append_change _ rfl _ _ rfl (gm + 1) _ m (((l.take k).filter (keptB l s)).flatMap Ch.cells) rfl (own.alloc _) (wz.heap.size + 1) wz.heap.size ⟨xs, xk, xh, xb, xg, xa⟩ rfl ?a1 ?a2 ?a3 ?_)
              case a1 => exact Lies.lit Ch.cells6 rfl
              case a2 => have := HM.out.2; omega
              case a3 => first | omega | (simp; omega)
              intro v' w5 hown5 hg5 hat
              have hk5 : ∀ k, Value.ownBlock _ = some k → gm + 1 ≤ k := fun k hk => (own_lt own hk).1
              have hb5 : Below w1.heap.size w1 w5 := (h8.alloc h8s _).grown hg5 (by simp; omega) (fun k hk => by have h1 := hk5 k hk; have := HGM.out; omega)
              have H5 := Lib.hid (row_step hown5 HF.out)
              have HM5 := Lib.hid (show m + 1 = ((l.take (k + 1)).filter (keptB l s)).length ∧ m + 1 ≤ k + 1 from ⟨by rw [HF.out, List.length_append, ← HM.out.1]; rfl, by have := HM.out.2; omega⟩)
              have HMP5 := Lib.hid (show MapS w5 gm n (seqOf l s) from (HMz.out.on ((Below.refl _ _).alloc (Nat.le_refl _) _)).kept hg5 (fun e => by have := hk5 gm e.symm; omega))
              clear own hown5 hg5 hat hk5 y0 y1 y2 y3 y4 y5 h8 h8s h8t hlook
              go_wp2
              go_roundw
              case rel => exact ⟨k + 1, m + 1, by go_num, by omega, HM5, H5, HMP5, hb5⟩
              case measure => simp [intOf]; omega
          · have hkn : k = n := by omega
            have HRES := Lib.hid (show (l.take k).filter (keptB l s) = l.filter (keptB l s) from by rw [List.take_of_length_le (by rw [HL.out]; omega)])
            clear hkn
            go_wp2
            go_ret
            exact ⟨_, rfl, by rw [HE.out, ← HRES.out]; exact CV.own HO.out HM.out.1, HB1.out.trans (hbr.mono HB1.out.size)⟩

end Go.Proofs.Ytidigbjlglomhaa
