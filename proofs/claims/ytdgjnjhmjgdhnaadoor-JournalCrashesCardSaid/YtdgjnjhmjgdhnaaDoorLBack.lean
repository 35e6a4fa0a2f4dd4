/- The walk of the law JournalBack. -/
import Derived.Test.YtdgjnjhmjgdhnaaDoorLAnew
import Derived.Test.YtdgjnjhmjgdhnaaDoorPhase
namespace Go.Proofs.YtdgjnjhmjgdhnaaDoor
open Go.RowKit

/-- append of strings onto a row of the call's own, as an equation. -/
theorem run_append_sv (w : World) (ty base : Nat) (v : Value) (n : Nat) (xs : List Value) (hown : w.ownsRow base 9 1 v n xs) (B : Nat) (ad : Addr) (m c : Nat) (ss : List ByteArray) (hm : ss.length = m) (hr : Strs w B (some ad) ss) (hn : n + m ≤ 1000000) (hbase : base ≤ w.heap.size) :
    ∃ v' w', (Builtin.append_ #[22, 22] ty #[v, .slice (some ad) m c]).run Tryd.prog w = .ok v' w' ∧ w'.ownsRow base 9 1 v' (n + m) (xs ++ ss.map Value.string) ∧ w.grownBy w' v.ownBlock := by
  obtain ⟨i0, hi0, hz0, hz1, hz2⟩ := info_parts str_info
  obtain ⟨v', w', h1, h2, h3, _⟩ := run_append_own (P := Tryd.prog) w base 22 ty 9 i0 (.string ⟨#[]⟩) 1 16 Tryd.underlying22 hi0 hz0 hz1 hz2 rfl (by decide) v n xs hown ad m c (ss.map Value.string) (by simp [hm]) (strs_cells hr) (strs_one' ss) (by unfold maxLen; omega) (by omega) hbase
  exact ⟨v', w', h1, h2, h3⟩

/-- A disk's block is no row of strings. -/
theorem DBlk.grown {w w' : World} {g base n : Nat} {v : Value} {xs : List Value} {A : Option Addr} {na ca : Nat} {B : Option Addr} {mb db : Nat} (h : DBlk w g A na ca B mb db) (hown : w.ownsRow base 9 1 v n xs) (hg : w.grownBy w' v.ownBlock) : DBlk w' g A na ca B mb db := by
  refine Box.grown h hg fun e2 => ?_
  rcases hown.2 with ⟨hv, _⟩ | ⟨g', cap, cur, hv, _, hg', _⟩
  · rw [hv] at e2; simp [Value.ownBlock] at e2
  · rw [hv] at e2
    simp [Value.ownBlock] at e2
    subst e2
    have h3 : w.heap[g]? = some (.cells #[.slice A na ca, .slice B mb db] 36 (0, 0)) := h
    rw [h3] at hg'
    simp at hg'
/-- A row of strings stays, where a disk's block is written. -/
theorem own_beside {w : World} {g base n : Nat} {v : Value} {xs : List Value} {A : Option Addr} {na ca : Nat} {B : Option Addr} {mb db : Nat} (h : DBlk w g A na ca B mb db) (hown : w.ownsRow base 9 1 v n xs) (i : Nat) (y : Value) : (w.setCell ⟨g, i, none⟩ y).ownsRow base 9 1 v n xs := by
  refine ⟨hown.1, ?_⟩
  rcases hown.2 with hv | ⟨g', cap, cur, hv, hb, hg', rest⟩
  · exact .inl hv
  · refine .inr ⟨g', cap, cur, hv, hb, ?_, rest⟩
    have hne : g' ≠ g := by
      rintro rfl
      have h3 : w.heap[g']? = some (.cells #[.slice A na ca, .slice B mb db] 36 (0, 0)) := h
      rw [h3] at hg'
      simp at hg'
    have h1 := Below.heap_setCell w ⟨g, i, none⟩ y g' hne
    exact h1.trans hg'
/-- A row that is older than a disk. -/
theorem own_old {w : World} {base n X : Nat} {v : Value} {xs : List Value} (hown : w.ownsRow base 9 1 v n xs) (hX : w.heap.size ≤ X) {w2 w3 : World} {u : Value} {S : List ByteArray} {W : List Wr} (hd : DVF X w2 u S W) (hg : w2.grownBy w3 v.ownBlock) : DV w3 u S W := by
  rcases hown.2 with ⟨hv, _⟩ | ⟨g', cap, cur, hv, _, hg', _⟩
  · rw [hv] at hg
    have h1 : w2.grownBy w3 none := hg
    refine hd.dv.on ⟨h1.os, h1.tape, h1.output, h1.size, fun k hk => h1.block k hk (by simp)⟩
  · rw [hv] at hg
    have hlt : g' < w.heap.size := (Array.getElem?_eq_some_iff.1 hg').1
    have hg2 : w2.grownBy w3 (some g') := hg
    exact hd.grown hg2 (Nat.lt_of_lt_of_le hlt hX)

theorem DVF.on {base : Nat} {w w' : World} {v : Value} {S : List ByteArray} {W : List Wr} (h : DVF base w v S W) (hb : Below w.heap.size w w') : DVF base w' v S W := by
  obtain ⟨A, c, B, d, e, h1, h2, h3, h4⟩ := h
  exact ⟨A, c, B, d, e, h1.on hb, Lies.on h2 hb, h3, h4⟩
def OneV (w : World) (v : Value) (x : ByteArray) : Prop := ∃ g, v = .slice (some ⟨g, 0, none⟩) 1 1 ∧ Strs w w.heap.size (some ⟨g, 0, none⟩) [x]
theorem OneV.on {w w' : World} {v : Value} {x : ByteArray} (h : OneV w v x) (hb : Below w.heap.size w w') : OneV w' v x := by
  obtain ⟨g, e, hs⟩ := h
  exact ⟨g, e, hs.on hb⟩
/-- What each slot of the line holds that takes the disk over, and appends to what is wanted. -/
def BackV (D : Value) (E : Int) (U : Value) (x : ByteArray) (base k : Nat) (xs : List Value) (p t : Nat) (v : Value) (w : World) : Prop :=
  match t with
  | 76 => v = D
  | 77 => v = .int .i64 E
  | 78 => v = U
  | 79 => v = .string x
  | 80 => p = 0 → OneV w v x
  | 81 => 1 ≤ p ∧ w.ownsRow base 9 1 v (k + 1) xs
  | 8 => v = .int .i64 E
  | 9 => 1 ≤ p ∧ w.ownsRow base 9 1 v (k + 1) xs
  | _ => True
theorem BackV.on {D : Value} {E : Int} {U : Value} {x : ByteArray} {base k : Nat} {xs : List Value} {p t : Nat} {v : Value} {w w' : World} (h : BackV D E U x base k xs p t v w) (hb : Below w.heap.size w w') : BackV D E U x base k xs p t v w' := by
  unfold BackV at *
  split at h <;> first | exact h | exact fun hp => OneV.on (h hp) hb | exact ⟨h.1, own_below h.2 hb⟩
/-- What the world is, phase by phase. -/
def BackS (w0 wa : World) (gd gw : Nat) (Ad : Option Addr) (cd : Nat) (Bd : Option Addr) (md dd : Nat) (Ae : Option Addr) (ce : Nat) (Be : Option Addr) (me de : Nat) (W : List Wr) (p : Nat) (w : World) : Prop :=
  match p with
  | 0 => Below wa.heap.size wa w
  | 1 => Below w0.heap.size w0 w ∧ DBlk w gd Ad 130 cd Bd md dd ∧ DBlk w gw Ae 130 ce Be me de ∧ DV w (.agg #[.slice Ae 130 ce, .slice Be me de]) S0 W
  | _ => Below w0.heap.size w0 w ∧ DBlk w gd Ae 130 ce Be me de ∧ DV w (.agg #[.slice Ae 130 ce, .slice Be me de]) S0 W
theorem BackS.on {w0 wa : World} {gd gw : Nat} {Ad : Option Addr} {cd : Nat} {Bd : Option Addr} {md dd : Nat} {Ae : Option Addr} {ce : Nat} {Be : Option Addr} {me de : Nat} {W : List Wr} {p : Nat} {w w' : World} (h : BackS w0 wa gd gw Ad cd Bd md dd Ae ce Be me de W p w) (hb : Below w.heap.size w w') : BackS w0 wa gd gw Ad cd Bd md dd Ae ce Be me de W p w' := by
  match p with
  | 0 => exact Below.trans (show Below wa.heap.size wa w from h) (hb.mono (Below.size (show Below wa.heap.size wa w from h)))
  | 1 =>
    obtain ⟨h1, h2, h3, h4⟩ := h
    exact ⟨h1.trans (hb.mono h1.size), Box.on h2 hb, Box.on h3 hb, h4.on hb⟩
  | p + 2 =>
    obtain ⟨h1, h2, h4⟩ := h
    exact ⟨h1.trans (hb.mono h1.size), Box.on h2 hb, h4.on hb⟩

set_option maxHeartbeats 16000000 in
set_option maxRecDepth 100000 in
theorem back_walk (n0 : Nat) (A : Option Addr) (c : Nat) (l : List ByteArray) (w : World) (h0 : n0 < 4294967296) (hv : AV w A c l) :
    Calls Tryd.prog 5 #[.int .u32 n0, .slice A l.length c] w fun e w' => e = .returned (.bool true) ∧ Below w.heap.size w w' := by
  have hlen := hv.len
  obtain ⟨hA, hc, hc2, hs, hn0⟩ := hv
  unfold maxLen at hc2 hlen
  have HA := Lib.hid hA
  have HS := Lib.hid hs
  have HTK := Lib.hid (fun k x (h : l[k]? = some x) => show needs (l.take (k + 1)) = needs (l.take k) + needJ x.size by
    obtain ⟨h1, rfl⟩ := List.getElem?_eq_some_iff.1 h
    exact needs_take l k h1)
  have HSN := Lib.hid (fun k x (h : l[k]? = some x) (h2 : ∀ x ∈ l.take k, x.size ≤ 300) (h3 : x.size ≤ 300) => show ∀ x ∈ l.take (k + 1), x.size ≤ 300 by
    obtain ⟨h1, rfl⟩ := List.getElem?_eq_some_iff.1 h
    exact sizes_snoc h1 h2 h3)
  have HTX := Lib.hid (fun k x (h : l[k]? = some x) => show l.take (k + 1) = l.take k ++ [x] by
    obtain ⟨h1, rfl⟩ := List.getElem?_eq_some_iff.1 h
    exact List.take_succ_eq_append_getElem h1)
  generalize hl : l.length = n at *
  have HL := Lib.hid hl
  clear hA hs hl hlen
  by_cases h20 : n ≤ 20
  · have hd : decide ((20 : Int) < n) = false := decide_eq_false (by omega)
    have hd2 : decide (20 < n) = false := decide_eq_false (by omega)
    obtain ⟨p, hp⟩ : ∃ p : Nat, p = n0 % 2147483646 := ⟨_, rfl⟩
    have hp1 : p ≤ 2147483645 := by omega
    have e1 : (n0 : Int) % 2147483646 = p := by omega
    have hw1 : IntKind.i64.wrap ((1 : Int) + p) = ((1 + p : Nat) : Int) := by rw [IntWalk.i64_in _ (by omega)]; omega
    have hw2 : IntKind.i64.wrap ((1 : Int) + p + 1) = ((1 + p + 1 : Nat) : Int) := by rw [IntWalk.i64_in _ (by omega)]; omega
    clear hp
    go_enter Tryd.func5, Tryd.ntmps5
    go_wp2_with fail
    refine (aw_new w).mono ?_
    rintro e w1 ⟨v1, rfl, ⟨A1, c1, B1, d1, rfl, hA1, hB1⟩, hb1⟩
    have hv1 : DV w1 _ S0 [] := ⟨A1, c1, B1, d1, rfl, hA1, hB1⟩
    rw [S0_len, show ([] : List Wr).length = 0 from rfl] at hv1 ⊢
    have H1 := Lib.hid (Holds.fresh hv1 hb1)
    clear hv1 hb1 hA1 hB1
    go_wp2
    generalize hw2' : w1.alloc (.cells #[.slice A1 130 c1, .slice B1 0 d1] 36) = w2 at *
    generalize hgd : w1.heap.size = gd at *
    clear hw2' hgd
    go_loopw [8, 9, 38] (fun t u i wr => ∃ (k z : Nat) (Ad : Option Addr) (cd : Nat) (Bd : Option Addr) (dd : Nat) (W : List Wr), i = .int .i64 k ∧ t = .int .i64 z ∧ k ≤ n ∧ z = needs (l.take k) ∧ z ≤ 128 ∧ (∀ x ∈ l.take k, x.size ≤ 300) ∧ wr.ownsRow w.heap.size 9 1 u k ((l.take k).map Value.string) ∧ Holds w wr gd Ad 130 cd Bd z dd S0 W ∧ W.length = z ∧ jB S0 W = true ∧ Stand (1 + p) (jou S0 W) (l.take k) ∧ Bare (1 + p + 1) (jou S0 W)) (fun _ _ i _ => (n - intOf i).toNat)
    case atStart => exact ⟨0, 0, A1, c1, B1, d1, [], rfl, rfl, by omega, rfl, by omega, by simp, World.ownsRow_nil _ _ _ _, H1.out, rfl, aw_j0, Stand.nil (jou_len S0_ge) (bare_zero (by omega) (by omega)), bare_zero (by omega) (by omega)⟩
    case round =>
      obtain ⟨k, z, Ad, cd, Bd, dd, W, rfl, rfl, hk, hz, hz128, hall, hown, hH, hWl, hj, hst, hba⟩ := hrel
      have HZ := Lib.hid hz
      have HALL := Lib.hid hall
      have HOO := Lib.hid hown
      have HH := Lib.hid hH
      have HWL := Lib.hid hWl
      have HJ := Lib.hid hj
      have HST := Lib.hid hst
      have HBA := Lib.hid hba
      obtain ⟨A2, c2, rfl⟩ := own_shape hown
      clear hz hall hown hH hWl hj hst hba
      by_cases hlt : k < n
      · obtain ⟨a1, rfl, hab, hca⟩ := (HA.out.below HH.out.below) (by rw [HL.out]; omega)
        have c1' := hca k (by rw [HL.out]; omega)
        have hm := HS.out _ (List.getElem_mem (by rw [HL.out]; omega : k < l.length))
        have hgx := List.getElem?_eq_getElem (l := l) (i := k) (by rw [HL.out]; omega)
        generalize l[k]'(by rw [HL.out]; omega) = x at *
        unfold maxLen at hm
        clear hca
        obtain ⟨k0, k1⟩ := DBlk.cells HH.out.blk
        have hzb := Box.lt HH.out.blk
        by_cases hx : x.size ≤ 300
        · have hd3 : decide ((300 : Int) < x.size) = false := decide_eq_false (by omega)
          have hd4 : decide (300 < x.size) = false := decide_eq_false (by omega)
          have HTK1 := Lib.hid (HTK.out k x hgx)
          have HSN1 := Lib.hid (HSN.out k x hgx HALL.out hx)
          have HTX1 := Lib.hid (HTX.out k x hgx)
          have h13 := needJ_300 hx
          have hpos := needJ_pos x.size
          have HND := Lib.hid (fun wx => needj_in x.size wx (by omega))
          obtain ⟨y, hy⟩ : ∃ y, y = needJ x.size := ⟨_, rfl⟩
          rw [← hy] at HTK1 h13 hpos HND
          have HY := Lib.hid hy
          clear hy hgx
          have hba0 : Below wr.heap.size wr (wr.alloc (.cells #[.string x] 9)) := (Below.refl _ _).alloc (Nat.le_refl _) _
          have HH0 := Lib.hid (HH.out.on hba0)
          have HOB := Lib.hid (own_below HOO.out hba0)
          have hsv := sv_one wr 9 x (g := wr.heap.size) rfl
          generalize hwc : wr.alloc (.cells #[.string x] 9) = wc at *
          have HWC := Lib.hid hwc
          by_cases hfit : z + y ≤ 128
          · obtain ⟨W2, hW2⟩ : ∃ W2, W2 = W ++ putL (2 + (z : Int)) (chainL (1 + p) z [x]) := ⟨_, rfl⟩
            have hap := append_inF (W' := W2) (n := z + y) (1 + p) z [x] HH0.out.dv hsv (by simp) (by intro t ht; rw [List.mem_singleton.1 ht]; omega) (by rw [HWL.out]; omega) HJ.out (by omega) (by omega) (by rw [needs_one, ← HY.out]; exact hfit) hW2 (by rw [needs_one, ← HY.out])
            have HW2L := Lib.hid (show W2.length = z + y by rw [hW2, List.length_append, put_len, chain_len, HWL.out, needs_one, ← HY.out])
            have HJ2 := Lib.hid (show jB S0 W2 = true from jB_of (by rw [hW2]; exact ch_right (jB_parts HJ.out).1 S0_ge (by rw [needs_one, ← HY.out]; exact hfit)) S0_ge)
            have HST2 := Lib.hid (show Stand (1 + p) (jou S0 W2) (l.take (k + 1)) by
              have h := Stand.append (W := W) (us := [x]) S0_ge HST.out (by intro t ht; rw [List.mem_singleton.1 ht]; omega) (by rw [← HZ.out, needs_one, ← HY.out]; exact hfit)
              rw [← HZ.out, ← hW2] at h
              rw [HTX1.out]
              exact h)
            have HBA2 := Lib.hid (show Bare (1 + p + 1) (jou S0 W2) by
              rw [hW2]
              exact bare_other S0_ge (by omega) (by omega) (by omega) (by rw [needs_one, ← HY.out]; exact hfit) HBA.out)
            have HXS := Lib.hid (show (l.take (k + 1)).map Value.string = (l.take k).map Value.string ++ [x].map Value.string by rw [HTX1.out, List.map_append])
            clear hW2
            subst hwc
            go_wp2_with fail
            refine hap.mono ?_
            clear hap k0 k1 hzb
            rintro e w3 ⟨v3, rfl, ⟨Ae, ce, Be, de, rfl, hAe, hBe, hfa, hfb⟩, hb3⟩
            have hdf : DVF _ w3 _ S0 W2 := ⟨Ae, ce, Be, de, rfl, hAe, hBe, hfa, hfb⟩
            rw [S0_len, HW2L.out] at hdf ⊢
            have hba3 : Below w3.heap.size w3 (w3.alloc (.cells #[.slice Ae 130 ce, .slice Be (z + y) de] 36)) := (Below.refl _ _).alloc (Nat.le_refl _) _
            have HG := Lib.hid (show DBlk (w3.alloc (.cells #[.slice Ae 130 ce, .slice Be (z + y) de] 36)) gd Ad 130 cd Bd z dd from Box.on (Box.on HH0.out.blk hb3) hba3)
            have HGL := Lib.hid (show w.heap.size ≤ gd from HH0.out.low)
            have HW := Lib.hid (show DBlk (w3.alloc (.cells #[.slice Ae 130 ce, .slice Be (z + y) de] 36)) w3.heap.size Ae 130 ce Be (z + y) de from Box.fresh _ _ _)
            have HDF := Lib.hid (hdf.on hba3)
            have HO := Lib.hid (own_below (own_below HOB.out hb3) hba3)
            have HB := Lib.hid ((HH0.out.below.trans (hb3.mono HH0.out.below.size)).trans (hba3.mono (HH0.out.below.trans (hb3.mono HH0.out.below.size)).size))
            clear hdf hAe hBe hfa hfb hb3 hba3 HH0 HH hba0 hsv
            go_wp2
            generalize hwa : w3.alloc (.cells #[.slice Ae 130 ce, .slice Be (z + y) de] 36) = wa at *
            obtain ⟨gw, hgw⟩ : ∃ gw, gw = w3.heap.size := ⟨_, rfl⟩
            rw [← hgw] at HW ⊢
            clear hwa hgw
            obtain ⟨E, hE⟩ : ∃ E : Int, E = (z : Int) + y := ⟨_, rfl⟩
            rw [← hE]
            have HE := Lib.hid hE
            clear hE
            refine wp_region_phase 5 [76, 77, 78, 79, 80, 81, 8, 9] (by kernel_rfl) [5, 6] [] (fun _ _ => True) 2 rfl (by kernel_rfl) (BackS w wa gd gw Ad cd Bd z dd Ae ce Be (z + y) de W2) (fun wa wb => Below wa.heap.size wa wb) (BackV (.agg #[.slice Ae 130 ce, .slice Be (z + y) de]) E (.slice A2 k c2) x w.heap.size k ((l.take (k + 1)).map Value.string)) (by kernel_rfl) (fun _ wa wb h1 h2 => h2.on h1) (fun _ t v wa wb h1 h2 => h2.on h1) (fun _ _ _ _ _ _ _ => trivial) (Below.refl _ _).drew trivial (phase2 ?_ ?_ ?_) ?_
            · refine Steps1.cons (fun _ ax wx hS hJ hG => ?_) (Steps1.cons (fun _ ax wx hS hJ hG => ?_) (Steps1.cons (fun _ ax wx hS hJ hG => ?_) (Steps1.cons (fun _ ax wx hS hJ hG => ?_) (Steps1.cons (fun _ ax wx hS hJ hG => ?_) (Steps1.cons (fun _ ax wx hS hJ hG => ?_) (Steps1.cons (fun hin _ _ _ _ _ => out (by kernel_rfl) hin) (Steps1.cons (fun _ ax wx hS hJ hG => ?_) (Steps1.cons (fun hin _ _ _ _ _ => out (by kernel_rfl) hin) Steps1.nil))))))))
              · have q12 := hG.old 12 (by kernel_rfl) (by kernel_rfl)
                obtain ⟨z0, z1⟩ := DBlk.cells (show DBlk wx gw Ae 130 ce Be (z + y) de from Box.on HW.out (show Below wa.heap.size wa wx from hS))
                refine step_slot rfl rfl rfl (step_value (v := .agg #[.slice Ae 130 ce, .slice Be (z + y) de]) (w' := wx) rfl rfl ?_ (Below.refl _ _) (fun d hd => by cases hd; exact rfl))
                go_simp
              · have q13 := hG.old 13 (by kernel_rfl) (by kernel_rfl)
                refine step_slot rfl rfl rfl (step_value (v := .int .i64 E) (w' := wx) rfl rfl ?_ (Below.refl _ _) (fun d hd => by cases hd; exact rfl))
                go_simp
              · have q9 := hG.old 9 (by kernel_rfl) (by kernel_rfl)
                refine step_slot rfl rfl rfl (step_value (v := .slice A2 k c2) (w' := wx) rfl rfl ?_ (Below.refl _ _) (fun d hd => by cases hd; exact rfl))
                go_simp
              · have q11 := hG.old 11 (by kernel_rfl) (by kernel_rfl)
                refine step_slot rfl rfl rfl (step_value (v := .string x) (w' := wx) rfl rfl ?_ (Below.refl _ _) (fun d hd => by cases hd; exact rfl))
                go_simp
              · obtain ⟨_, q79, rfl⟩ := hG.new 79 (by kernel_rfl) (by kernel_rfl)
                refine step_slot rfl rfl rfl (step_value (v := .slice (some ⟨wx.heap.size, 0, none⟩) 1 1) (w' := wx.alloc (.cells #[.string x] 9)) rfl rfl ?_ ((Below.refl _ _).alloc (Nat.le_refl _) _) (fun d hd => by cases hd; exact fun _ => ⟨wx.heap.size, rfl, by have h := strs_one wx 9 x; simpa using h⟩))
                go_simp
              · obtain ⟨_, q78, rfl⟩ := hG.new 78 (by kernel_rfl) (by kernel_rfl)
                obtain ⟨v80, q80, h80⟩ := hG.new 80 (by kernel_rfl) (by kernel_rfl)
                obtain ⟨g, rfl, hsg⟩ : OneV wx v80 x := (show 0 = 0 → OneV wx v80 x from h80) rfl
                have hS0 : Below wa.heap.size wa wx := hS
                have hown : wx.ownsRow w.heap.size 9 1 (.slice A2 k c2) k ((l.take k).map Value.string) := own_below HO.out hS0
                obtain ⟨v2, w2, hr, hown2, hg⟩ := run_append_sv wx 22 w.heap.size (.slice A2 k c2) k ((l.take k).map Value.string) hown wx.heap.size ⟨g, 0, none⟩ 1 1 [x] rfl hsg (by omega) (Nat.le_trans HB.out.size hS0.size)
                have hb2 : Below w.heap.size w w2 := (HB.out.trans (hS0.mono HB.out.size)).grown hg (Nat.le_trans HB.out.size hS0.size) (fun kk hk => (hown.lt kk hk).1)
                refine step_marked (v := v2) (w' := w2) rfl rfl rfl rfl ?_ (show BackS _ _ _ _ _ _ _ _ _ _ _ _ _ _ _ 1 w2 from ⟨hb2, DBlk.grown (show DBlk wx gd Ad 130 cd Bd z dd from Box.on HG.out hS0) hown hg, DBlk.grown (show DBlk wx gw Ae 130 ce Be (z + y) de from Box.on HW.out hS0) hown hg, own_old HOB.out (Nat.le_refl _) (HDF.out.on hS0) hg⟩) trivial ?_ ?_
                · have e1 : ax.eval (.tmp 78) = .slice A2 k c2 := by simp [Act.eval, q78]
                  have e2 : ax.eval (.tmp 80) = .slice (some ⟨g, 0, none⟩) 1 1 := by simp [Act.eval, q80]
                  unfold execOp
                  simp only [resolve, invoke, builtin, Sem.run_bind, Sem.run_pure, Result.andThen_ok, List.map_toArray, List.map_cons, List.map_nil, e1, e2, hr]
                · refine ⟨by decide, ?_⟩
                  rw [HXS.out]
                  exact hown2
                · intro t u _ ht hu hV
                  unfold BackV at hV ⊢
                  split at hV
                  · exact hV
                  · exact hV
                  · exact hV
                  · exact hV
                  · exact fun h => absurd h (by decide)
                  · exact absurd rfl ht
                  · exact hV
                  · exact absurd hV.1 (by decide)
                  · trivial
              · obtain ⟨_, q77, rfl⟩ := hG.new 77 (by kernel_rfl) (by kernel_rfl)
                refine step_slot rfl rfl rfl (step_value (v := .int .i64 E) (w' := wx) rfl rfl ?_ (Below.refl _ _) (fun d hd => by cases hd; exact rfl))
                go_simp
            · refine Steps1.cons (fun _ ax wx hS hJ hG => ?_) (Steps1.cons (fun _ ax wx hS hJ hG => ?_) (Steps1.cons (fun hin _ _ _ _ _ => out (by kernel_rfl) hin) (Steps1.cons (fun hin _ _ _ _ _ => out (by kernel_rfl) hin) (Steps1.cons (fun hin _ _ _ _ _ => out (by kernel_rfl) hin) (Steps1.cons (fun hin _ _ _ _ _ => out (by kernel_rfl) hin) (Steps1.cons (fun _ ax wx hS hJ hG => ?_) (Steps1.cons (fun _ ax wx hS hJ hG => ?_) (Steps1.cons (fun _ ax wx hS hJ hG => ?_) Steps1.nil))))))))
              · have q12 := hG.old 12 (by kernel_rfl) (by kernel_rfl)
                obtain ⟨z0, z1⟩ := DBlk.cells (show DBlk wx gw Ae 130 ce Be (z + y) de from (show BackS _ _ _ _ _ _ _ _ _ _ _ _ _ _ _ 1 wx from hS).2.2.1)
                refine step_slot rfl rfl rfl (step_value (v := .agg #[.slice Ae 130 ce, .slice Be (z + y) de]) (w' := wx) rfl rfl ?_ (Below.refl _ _) (fun d hd => by cases hd; exact rfl))
                go_simp
              · have q13 := hG.old 13 (by kernel_rfl) (by kernel_rfl)
                refine step_slot rfl rfl rfl (step_value (v := .int .i64 E) (w' := wx) rfl rfl ?_ (Below.refl _ _) (fun d hd => by cases hd; exact rfl))
                go_simp
              · obtain ⟨_, q76, rfl⟩ := hG.new 76 (by kernel_rfl) (by kernel_rfl)
                have q6 := hG.old 6 (by kernel_rfl) (by kernel_rfl)
                obtain ⟨hb, hgd, hgw, hdv⟩ := (show BackS _ _ _ _ _ _ _ _ _ _ _ _ _ _ _ 1 wx from hS)
                have f0 := Box.free hgd 0
                have f1 := Box.free hgd 1
                obtain ⟨k0, k1⟩ := DBlk.cells hgd
                refine step_store (w' := (wx.setCell ⟨gd, 0, none⟩ (.slice Ae 130 ce)).setCell ⟨gd, 1, none⟩ (.slice Be (z + y) de)) rfl rfl rfl rfl ?_ (show BackS _ _ _ _ _ _ _ _ _ _ _ _ _ _ _ 2 _ from ⟨(hb.setCell HGL.out _).setCell HGL.out _, Box.set (Box.set hgd 0 _) 1 _, hdv.apart hgd Ae 130 ce Be (z + y) de⟩) trivial ?_
                · clear hdv hgw hgd hb hS
                  go_simp
                · intro t u _ hu hV
                  unfold BackV at hV ⊢
                  split at hV
                  · exact hV
                  · exact hV
                  · exact hV
                  · exact hV
                  · exact fun h => absurd h (by decide)
                  · exact ⟨by decide, own_beside (Box.set hgd 0 _) (own_beside hgd hV.2 0 _) 1 _⟩
                  · exact hV
                  · exact ⟨by decide, own_beside (Box.set hgd 0 _) (own_beside hgd hV.2 0 _) 1 _⟩
                  · trivial
              · obtain ⟨_, q77, rfl⟩ := hG.new 77 (by kernel_rfl) (by kernel_rfl)
                refine step_slot rfl rfl rfl (step_value (v := .int .i64 E) (w' := wx) rfl rfl ?_ (Below.refl _ _) (fun d hd => by cases hd; exact rfl))
                go_simp
              · obtain ⟨v81, q81, h81⟩ := hG.new 81 (by kernel_rfl) (by kernel_rfl)
                refine step_slot rfl rfl rfl (step_value (v := v81) (w' := wx) rfl rfl ?_ (Below.refl _ _) (fun d hd => by cases hd; exact h81))
                clear h81
                go_simp
            · refine Steps1.cons (fun hin _ _ _ _ _ => out (by kernel_rfl) hin) (Steps1.cons (fun _ ax wx hS hJ hG => ?_) (Steps1.cons (fun hin _ _ _ _ _ => out (by kernel_rfl) hin) (Steps1.cons (fun hin _ _ _ _ _ => out (by kernel_rfl) hin) (Steps1.cons (fun hin _ _ _ _ _ => out (by kernel_rfl) hin) (Steps1.cons (fun hin _ _ _ _ _ => out (by kernel_rfl) hin) (Steps1.cons (fun hin _ _ _ _ _ => out (by kernel_rfl) hin) (Steps1.cons (fun _ ax wx hS hJ hG => ?_) (Steps1.cons (fun _ ax wx hS hJ hG => ?_) Steps1.nil))))))))
              · have q13 := hG.old 13 (by kernel_rfl) (by kernel_rfl)
                refine step_slot rfl rfl rfl (step_value (v := .int .i64 E) (w' := wx) rfl rfl ?_ (Below.refl _ _) (fun d hd => by cases hd; exact rfl))
                go_simp
              · obtain ⟨_, q77, rfl⟩ := hG.new 77 (by kernel_rfl) (by kernel_rfl)
                refine step_slot rfl rfl rfl (step_value (v := .int .i64 E) (w' := wx) rfl rfl ?_ (Below.refl _ _) (fun d hd => by cases hd; exact rfl))
                go_simp
              · obtain ⟨v81, q81, h81⟩ := hG.new 81 (by kernel_rfl) (by kernel_rfl)
                refine step_slot rfl rfl rfl (step_value (v := v81) (w' := wx) rfl rfl ?_ (Below.refl _ _) (fun d hd => by cases hd; exact h81))
                clear h81
                go_simp
            intro fv w4 hS4 _ hV4
            obtain ⟨hbb, hgd2, hdv2⟩ := (show BackS _ _ _ _ _ _ _ _ _ _ _ _ _ _ _ 2 w4 from hS4)
            have e8 : fv 8 = .int .i64 E := hV4 8 (by decide)
            have h9 : w4.ownsRow w.heap.size 9 1 (fv 9) (k + 1) ((l.take (k + 1)).map Value.string) := (show 1 ≤ 2 ∧ _ from hV4 9 (by decide)).2
            have HX4 := Lib.hid (show Holds w w4 gd Ae 130 ce Be (z + y) de S0 W2 from ⟨hdv2, hgd2, HGL.out, hbb⟩)
            have HO9 := Lib.hid h9
            simp only [puts, Act.put, List.setIfInBounds_toArray, List.set_cons_succ, List.set_cons_zero]
            rw [e8]
            generalize fv 9 = u9 at *
            obtain ⟨A9, c9, rfl⟩ := own_shape h9
            clear hbb hgd2 hdv2 e8 h9 hS4 hV4
            obtain ⟨k0, k1⟩ := DBlk.cells HX4.out.blk
            have hzb := Box.lt HX4.out.blk
            have htx := texts_ok ((1 + p : Nat) : Int) HX4.out.dv (by rw [HW2L.out]; omega) HJ2.out
            go_wp2_with fail
            refine htx.mono ?_
            clear htx k0 k1 hzb
            rintro e w5 ⟨v5, ts, rfl, hv5, ht, hb5⟩
            obtain rfl := Told.only ((ToldP.of (by omega) (by omega) (by rw [jou_len S0_ge]; exact Nat.le_refl _)).1 ht) HST2.out.told
            have HX5 := Lib.hid (HX4.out.on hb5)
            have HO5 := Lib.hid (own_below HO9.out hb5)
            have HV5 := Lib.hid hv5.sv
            obtain ⟨A5, c5, rfl, _, _⟩ := hv5
            have HTL := Lib.hid (show (l.take (k + 1)).length = k + 1 by rw [List.length_take, HL.out]; omega)
            rw [HTL.out] at HV5 ⊢
            rw [HTK1.out, ← HZ.out, HE.out]
            clear hb5 ht HX4 HO9
            have hsv9 : SV w5 (.slice A9 (k + 1) c9) (l.take (k + 1)) := ⟨A9, c9, by rw [HTL.out], Strs.own (n := k + 1) (c := c9) (by rw [HTL.out]; exact HO5.out)⟩
            have hsm := same_eq HV5.out hsv9 rfl (by rw [HTL.out]; unfold maxLen; omega)
            have hzz : (((z : Int) + y) != ((z : Int) + y)) = false := by simp
            clear hsv9
            go_wp2_with fail
            refine hsm.mono ?_
            clear hsm
            rintro e w6 ⟨rfl, hb6⟩
            have HX6 := Lib.hid (HX5.out.on hb6)
            have HO6 := Lib.hid (own_below HO5.out hb6)
            clear hb6 HX5 HO5 HV5
            go_wp2
            go_roundw
            case rel => exact ⟨k + 1, z + y, Ae, ce, Be, de, W2, by go_num, by go_num, by omega, by rw [HTK1.out, ← HZ.out], by omega, HSN1.out, HO6.out, HX6.out, HW2L.out, HJ2.out, HST2.out, HBA2.out⟩
            case measure => simp [intOf]; omega
          · have hap := append_outF (1 + p) z [x] HH0.out.dv hsv (by simp) (by intro t ht; rw [List.mem_singleton.1 ht]; omega) (by rw [HWL.out]; omega) HJ.out (by omega) (by omega) (by omega) (by rw [needs_one, ← HY.out]; omega)
            have hd6 : decide ((128 : Int) < z + y) = true := decide_eq_true (by omega)
            have hd7 : decide (128 < z + y) = true := decide_eq_true (by omega)
            subst hwc
            go_wp2_with fail
            refine hap.mono ?_
            clear hap k0 k1 hzb
            rintro e w3 ⟨rfl, hb3⟩
            have HB3 := Lib.hid ((HH0.out.below.trans (hb3.mono HH0.out.below.size)).alloc (HH0.out.below.trans (hb3.mono HH0.out.below.size)).size (.cells #[.slice Ad 130 cd, .slice Bd z dd] 36))
            clear hb3
            go_wp2_with fail
            refine (HND.out _).mono ?_
            rintro e w9 ⟨rfl, rfl⟩
            go_wp2_with fail
            refine (awake_true _).mono ?_
            rintro e w9 ⟨rfl, hb9⟩
            go_wp2
            go_ret
            exact ⟨rfl, HB3.out.trans (hb9.mono HB3.out.size)⟩
        · have hd3 : decide ((300 : Int) < x.size) = true := decide_eq_true (by omega)
          have hd4 : decide (300 < x.size) = true := decide_eq_true (by omega)
          clear hgx
          go_wp2_with fail
          refine (awake_true _).mono ?_
          rintro e w9 ⟨rfl, hb9⟩
          go_wp2
          go_ret
          exact ⟨rfl, HH.out.below.trans (hb9.mono HH.out.below.size)⟩
      · obtain rfl : k = n := by omega
        have e3 : l.take k = l := by rw [← HL.out]; exact List.take_length
        rw [e3] at HST HOO HZ
        clear e3
        obtain ⟨k0, k1⟩ := DBlk.cells HH.out.blk
        have hzb := Box.lt HH.out.blk
        have hfl := flush_dv HH.out.dv (by rw [HWL.out]; omega) (jB_parts HJ.out).1
        go_wp2_with fail
        refine hfl.mono ?_
        clear hfl k0 k1 hzb
        rintro e w3 ⟨v3, rfl, hv3, hb3⟩
        have HX3 := Lib.hid (HH.out.on hb3)
        have HO3 := Lib.hid (own_below HOO.out hb3)
        have hjf : jB (doneL S0 W) [] = true := jB_of (done_right (jB_parts HJ.out).1 (fun _ h => h)) (by rw [done_len]; exact S0_ge)
        have htx := texts_ok ((1 + p : Nat) : Int) hv3 (by decide) hjf
        obtain ⟨A3, c3, B3, d3, rfl, hA3, hB3⟩ := hv3
        have HD3 := Lib.hid (show DV w3 (.agg #[.slice A3 (doneL S0 W).length c3, .slice B3 ([] : List Wr).length d3]) (doneL S0 W) [] from ⟨A3, c3, B3, d3, rfl, hA3, hB3⟩)
        clear hb3 HH HOO hA3 hB3
        go_wp2_with fail
        refine htx.mono ?_
        clear htx
        rintro e w5 ⟨v5, ts, rfl, hv5, ht, hb5⟩
        obtain rfl := Told.only ((ToldP.of (by omega) (by omega) (by rw [jou_len (by rw [done_len]; exact S0_ge)]; exact Nat.le_refl _)).1 ht) (show Told (1 + p) 0 (jou (doneL S0 W) []) l from HST.out.told)
        have HX5 := Lib.hid (HX3.out.on hb5)
        have HO5 := Lib.hid (own_below HO3.out hb5)
        have HV5 := Lib.hid hv5.sv
        obtain ⟨A5, c5, rfl, _, _⟩ := hv5
        rw [HL.out] at HV5 ⊢
        rw [← HZ.out]
        clear hb5 ht HX3 HO3 HD3 hjf
        obtain ⟨k0, k1⟩ := DBlk.cells HX5.out.blk
        have hzb := Box.lt HX5.out.blk
        have htx := texts_ok ((1 + p + 1 : Nat) : Int) HX5.out.dv (by rw [HWL.out]; omega) HJ.out
        go_wp2_with fail
        refine htx.mono ?_
        clear htx k0 k1 hzb
        rintro e w6 ⟨v6, ts2, rfl, hv6, ht, hb6⟩
        obtain rfl := Told.only ((ToldP.of (by omega) (by omega) (by rw [jou_len S0_ge]; exact Nat.le_refl _)).1 ht) (bare_none HBA.out)
        have HX6 := Lib.hid (HX5.out.on hb6)
        have HO6 := Lib.hid (own_below HO5.out hb6)
        have HV6 := Lib.hid (HV5.out.on hb6)
        obtain ⟨A6, c6, rfl, _, _⟩ := hv6
        rw [show needs [] = 0 from rfl, show ([] : List ByteArray).length = 0 from rfl]
        clear hb6 ht HX5 HO5 HV5
        have hsv9 : SV w6 (.slice A2 k c2) ts := ⟨A2, c2, by rw [HL.out], Strs.own (n := k) (c := c2) (by rw [HL.out]; exact HO6.out)⟩
        have hsm := same_eq HV6.out hsv9 rfl (by rw [HL.out]; unfold maxLen; omega)
        have hzz : ((z : Int) == (z : Int)) = true := by simp
        clear hsv9
        go_wp2_with fail
        refine hsm.mono ?_
        clear hsm
        rintro e w7 ⟨rfl, hb7⟩
        have HX7 := Lib.hid (HX6.out.on hb7)
        clear hb7 HX6 HO6 HV6
        go_wp2_with fail
        refine (awake_true _).mono ?_
        rintro e w9 ⟨rfl, hb9⟩
        go_wp2
        go_ret
        exact ⟨rfl, HX7.out.below.trans (hb9.mono HX7.out.below.size)⟩
  · have hd : decide ((20 : Int) < n) = true := decide_eq_true (by omega)
    have hd2 : decide (20 < n) = true := decide_eq_true (by omega)
    go_enter Tryd.func5, Tryd.ntmps5
    go_wp2_with fail
    refine (awake_true _).mono ?_
    rintro e w1 ⟨rfl, hb1⟩
    go_wp2
    go_ret
    exact ⟨rfl, hb1⟩

end Go.Proofs.YtdgjnjhmjgdhnaaDoor
