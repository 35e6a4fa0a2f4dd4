/- The walk of the document's Put of layer 4. -/
import Derived.Test.YtdgjnjhmjgdhnaaDoorRDisk
import Derived.Test.YtdgjnjhmjgdhnaaDoorPhase
import Derived.Laws.AppendOwnNone
namespace Go.Proofs.YtdgjnjhmjgdhnaaDoor
open Go.RowKit

/-- 'append(v, x...)', v a row of writes of the call's own, x whatever slice of writes. -/
theorem append_wrs (w : World) {ops : Array Oper} {rest : List Oper} {o : Oper} {a : Act} {Q : Exit → Act → World → Prop} (hgd : o.guard = none) (s x : Operand)
    (ho : o.op = .call { callee := .builtin .append, args := #[s, x], argTypes := #[37, 37] })
    (base : Nat) (v : Value) (n : Nat) (xs : List Value) (hs : a.eval s = v) (hown : w.ownsRow base 84 2 v n xs)
    (B : Nat) (A : Option Addr) (m c : Nat) (l : List Wr) (hx : a.eval x = .slice A m c) (hm : l.length = m) (hr : Wrs w B A l) (hA : A = none → c = 0) (hn : n + m ≤ 1000000) (hbase : base ≤ w.heap.size)
    (h : ∀ v' w', w'.ownsRow base 84 2 v' (n + m) (xs ++ l.flatMap Wr.cells) → w.grownBy w' v.ownBlock → wpList Tryd.prog ops Q rest (a.put o.dst v') w') : wpList Tryd.prog ops Q (o :: rest) a w := by
  obtain ⟨i0, hi0, hz0, hz1, hz2⟩ := info_parts rwr_info
  rcases A with _ | ad
  · obtain rfl := hA rfl
    obtain rfl := wrs_none hr
    obtain rfl : m = 0 := hm.symm
    exact wpList_append_own_none hgd s x 37 ho base 84 i0 2 Tryd.underlying37 hi0 v n xs hs hown hx (h v w (by simpa using hown) (World.grownBy.refl w _))
  · exact wpList_append_own w hgd s x 37 ho base 84 i0 (.agg #[.int .i64 0, .string ⟨#[]⟩]) 2 24 Tryd.underlying37 hi0 hz0 hz1 hz2 rfl (by decide) v n xs hs hown ad m c (l.flatMap Wr.cells) hx (by rw [flat_len, hm]) (wrs_cells hr) (wrs_plain l) (by unfold maxLen; omega) (by omega) hbase (fun v' w' h1 h2 _ => h v' w' h1 h2)

/-- What each slot of the line holds that appends a write. -/
def PutV (base g : Nat) (Bv Tv Pk : Value) (a k : Int) (x : ByteArray) (cnt : Nat) (xs : List Value) (p t : Nat) (v : Value) (w : World) : Prop :=
  match t with
  | 45 => v = .pointer (some ⟨g, 1, none⟩)
  | 46 => v = Bv
  | 47 => v = .int .i64 a
  | 48 => v = .int .i64 k
  | 49 => v = .int .i64 (a + k)
  | 50 => v = Tv
  | 51 => v = .int .i64 k
  | 52 => v = Pk
  | 53 => v = .string x
  | 54 => v = .agg #[.int .i64 (a + k), .string x]
  | 55 => p = 0 → ∃ g5, v = .slice (some ⟨g5, 0, none⟩) 1 1 ∧ Box w g5 84 #[.int .i64 (a + k), .string x]
  | 56 => 1 ≤ p → w.ownsRow base 84 2 v cnt xs
  | 57 => v = .pointer (some ⟨g, 1, none⟩)
  | _ => True
theorem PutV.on {base g : Nat} {Bv Tv Pk : Value} {a k : Int} {x : ByteArray} {cnt : Nat} {xs : List Value} {p t : Nat} {v : Value} {w w' : World} (h : PutV base g Bv Tv Pk a k x cnt xs p t v w) (hb : Below w.heap.size w w') : PutV base g Bv Tv Pk a k x cnt xs p t v w' := by
  unfold PutV at *
  split at h
  all_goals first
    | exact h
    | exact fun e => own_below (h e) hb
    | exact fun e => by
        obtain ⟨g5, h1, h2⟩ := h e
        exact ⟨g5, h1, Box.on h2 hb⟩

/-- The world: the blocks, and the row. -/
def PutS (w0 : World) (base g0 g : Nat) (Av Bv0 Bv : Value) (cnt : Nat) (xs : List Value) (cnt1 : Nat) (xs1 : List Value) (p : Nat) (w : World) : Prop :=
  (EBlk w g0 Av Bv0 ∧ EBlk w (g0 + 1) (.slice none 0 0) (.slice none 0 0) ∧ Below w0.heap.size w0 w ∧ base ≤ w.heap.size) ∧
  (p = 0 → EBlk w g Av Bv ∧ w.ownsRow base 84 2 Bv cnt xs) ∧ (p = 1 → EBlk w g Av Bv) ∧ (p = 2 → ∃ A5 c5, EBlk w g Av (.slice A5 cnt1 c5) ∧ w.ownsRow base 84 2 (.slice A5 cnt1 c5) cnt1 xs1)
theorem PutS.on {w0 : World} {base g0 g : Nat} {Av Bv0 Bv : Value} {cnt : Nat} {xs : List Value} {cnt1 : Nat} {xs1 : List Value} {p : Nat} {w w' : World} (h : PutS w0 base g0 g Av Bv0 Bv cnt xs cnt1 xs1 p w) (hb : Below w.heap.size w w') : PutS w0 base g0 g Av Bv0 Bv cnt xs cnt1 xs1 p w' := by
  obtain ⟨⟨h1, h2, h3, h4⟩, h5, h6, h7⟩ := h
  refine ⟨⟨Box.on h1 hb, Box.on h2 hb, h3.trans (hb.mono h3.size), Nat.le_trans h4 hb.size⟩, fun e => ⟨Box.on (h5 e).1 hb, own_below (h5 e).2 hb⟩, fun e => Box.on (h6 e) hb, fun e => ?_⟩
  obtain ⟨A5, c5, a1, a2⟩ := h7 e
  exact ⟨A5, c5, Box.on a1 hb, own_below a2 hb⟩

/-- append of one write onto a row of the call's own, as an equation. -/
theorem run_append_wr (w : World) (ty base : Nat) (v : Value) (n : Nat) (xs : List Value) (hown : w.ownsRow base 84 2 v n xs) (g5 : Nat) (a : Int) (x : ByteArray) (hb : Box w g5 84 #[.int .i64 a, .string x]) (hn : n + 1 ≤ 1000000) (hbase : base ≤ w.heap.size) :
    ∃ v' w', (Builtin.append_ #[37, 37] ty #[v, .slice (some ⟨g5, 0, none⟩) 1 1]).run Tryd.prog w = .ok v' w' ∧ w'.ownsRow base 84 2 v' (n + 1) (xs ++ [.int .i64 a, .string x]) ∧ w.grownBy w' v.ownBlock := by
  obtain ⟨i0, hi0, hz0, hz1, hz2⟩ := info_parts rwr_info
  obtain ⟨v', w', h1, h2, h3, _⟩ := run_append_own (P := Tryd.prog) w base 37 ty 84 i0 (.agg #[.int .i64 0, .string ⟨#[]⟩]) 2 24 Tryd.underlying37 hi0 hz0 hz1 hz2 rfl (by decide) v n xs hown ⟨g5, 0, none⟩ 1 1 [.int .i64 a, .string x] rfl (fun j u hj => by
    have hadd : (⟨g5, 0, none⟩ : Addr).add j = ⟨g5, j, none⟩ := by unfold Addr.add; split <;> simp_all
    rw [hadd]
    match j, hj with
    | 0, hj => simp at hj; subst hj; exact Box.cell hb 0 rfl
    | 1, hj => simp at hj; subst hj; exact Box.cell hb 1 rfl) (fun u hu => by simp at hu; rcases hu with rfl | rfl <;> rfl) (by unfold maxLen; omega) (by omega) hbase
  exact ⟨v', w', h1, h2, h3⟩

set_option maxHeartbeats 8000000 in
set_option maxRecDepth 100000 in
theorem dput_ok (A : Option Addr) (c : Nat) (S : List ByteArray) (B : Option Addr) (d : Nat) (W : List Wr) (a : Nat) (T : Option Addr) (tc : Nat) (l : List ByteArray) (w : World) (hA : Strs w w.heap.size A S) (hB : Wrs w w.heap.size B W) (hz : B = none → d = 0) (hT : Strs w w.heap.size T l) (hm : W.length ≤ 100000) (hl : l.length ≤ 100000) (hR : rightB S W = true)
    (hf : fillB l = true) (hh : a + l.length ≤ S.length) :
    Calls Tryd.prog 42 #[.agg #[.slice A S.length c, .slice B W.length d], .int .i64 a, .slice T l.length tc] w fun e w' => ∃ v', e = .returned (.tuple #[v', .int .i64 0]) ∧ DV w' v' S (W ++ putL a l) ∧ Below w.heap.size w w' := by
  have HRD := Lib.hid (fun (w1 : World) (h : Below w.heap.size w w1) => dread_ok A c S B d W a l.length w1 (hA.on h) (Lies.on hB h) (by omega) hR hh)
  have HA := Lib.hid hA
  have HBW := Lib.hid hB
  have HT := Lib.hid hT
  have HF := Lib.hid hf
  have hn : S.length ≤ 512 := (right_parts hR).2.1
  have HSW := Lib.hid (show (W ++ putL a l).length = W.length + l.length by rw [List.length_append, put_len])
  generalize hs : S.length = n at *
  generalize hw0 : W.length = m at *
  generalize hq : l.length = q at *
  have HS := Lib.hid hs
  have HW0 := Lib.hid hw0
  have HQ := Lib.hid hq
  clear hA hB hT hf hs hw0 hq hR
  have hb0 : Below w.heap.size w ((w.alloc (.cells #[.slice A n c, .slice B m d] 39)).alloc (.cells #[.slice none 0 0, .slice none 0 0] 39)) := below_two w _ _
  have HX0 := Lib.hid (show EBlk ((w.alloc (.cells #[.slice A n c, .slice B m d] 39)).alloc (.cells #[.slice none 0 0, .slice none 0 0] 39)) w.heap.size (.slice A n c) (.slice B m d) from Box.push (Box.fresh _ _ _) _)
  have HY0 := Lib.hid (show EBlk ((w.alloc (.cells #[.slice A n c, .slice B m d] 39)).alloc (.cells #[.slice none 0 0, .slice none 0 0] 39)) (w.heap.size + 1) (.slice none 0 0) (.slice none 0 0) from Box.at_ (w.alloc _) _ _ (by simp))
  have HB0 := Lib.hid hb0
  have hrd := HRD.out _ hb0
  clear hb0 HRD
  go_enter Tryd.func42, Tryd.ntmps42
  go_wp2_with fail
  refine hrd.mono ?_
  clear hrd
  rintro e w1 ⟨rfl, hb1⟩
  have HX1 := Lib.hid (show EBlk w1 w.heap.size (.slice A n c) (.slice B m d) from Box.on HX0.out hb1)
  have HY1 := Lib.hid (show EBlk w1 (w.heap.size + 1) (.slice none 0 0) (.slice none 0 0) from Box.on HY0.out hb1)
  have HB1 := Lib.hid (HB0.out.trans (hb1.mono HB0.out.size))
  have z1 := Box.lt HX1.out
  have z2 := Box.lt HY1.out
  obtain ⟨d1, d2⟩ := EBlk.cells HX1.out
  clear HX0 HY0 HB0 hb1
  obtain ⟨g, hg⟩ : ∃ g, g = w1.heap.size := ⟨_, rfl⟩
  have hgz : w.heap.size + 1 < g := by omega
  have hwr2 : Wrs (w1.alloc (.cells #[.slice A n c, .slice none 0 0] 39)) (w1.alloc (.cells #[.slice A n c, .slice none 0 0] 39)).heap.size B W := Lies.on HBW.out (HB1.out.alloc HB1.out.size _)
  have HG := Lib.hid hg
  go_wp2_with (at_builtin; refine append_wrs _ rfl _ _ rfl (w1.heap.size + 1) _ 0 [] rfl (World.ownsRow_nil _ _ _ _) _ B m d W rfl HW0.out hwr2 hz ?c4 ?c5 ?_)
  case c4 => omega
  case c5 => simp
  intro v3 w3 hown3 hg3
  obtain ⟨A3, c3, rfl⟩ := own_shape hown3
  have hsz3 := hg3.size
  have HX3 := Lib.hid (show EBlk w3 w.heap.size (.slice A n c) (.slice B m d) from Box.grown (Box.push HX1.out _) hg3 (by simp [Value.ownBlock]))
  have HY3 := Lib.hid (show EBlk w3 (w.heap.size + 1) (.slice none 0 0) (.slice none 0 0) from Box.grown (Box.push HY1.out _) hg3 (by simp [Value.ownBlock]))
  have HT3 := Lib.hid (show EBlk w3 w1.heap.size (.slice A n c) (.slice none 0 0) from Box.grown (Box.fresh _ _ _) hg3 (by simp [Value.ownBlock]))
  have HB3 := Lib.hid ((HB1.out.alloc HB1.out.size _).grown hg3 (by have := HB1.out.size; simp; omega) (fun k hk => by simp [Value.ownBlock] at hk))
  have HO3 := Lib.hid (show w3.ownsRow (w1.heap.size + 1) 84 2 (.slice A3 m c3) m ((W ++ putL a (l.take 0)).flatMap Wr.cells) by
    rw [List.take_zero]
    simpa [putL] using hown3)
  have hb4 : w1.heap.size + 1 ≤ w3.heap.size := by simpa using hsz3
  have f1 := Box.free HT3.out 1
  obtain ⟨t1, t2⟩ := EBlk.cells HT3.out
  have z3 := Box.lt HT3.out
  clear d1 d2 hown3 hg3 hwr2 HX1 HY1 hsz3
  go_wp2
  have HX4 := Lib.hid (show EBlk (w3.setCell ⟨w1.heap.size, 1, none⟩ (.slice A3 m c3)) w.heap.size (.slice A n c) (.slice B m d) from Box.away HX3.out (by simp only [ne_eq]; omega) _)
  have HY4 := Lib.hid (show EBlk (w3.setCell ⟨w1.heap.size, 1, none⟩ (.slice A3 m c3)) (w.heap.size + 1) (.slice none 0 0) (.slice none 0 0) from Box.away HY3.out (by simp only [ne_eq]; omega) _)
  have HT4 := Lib.hid (show EBlk (w3.setCell ⟨w1.heap.size, 1, none⟩ (.slice A3 m c3)) w1.heap.size (.slice A n c) (.slice A3 m c3) from Box.set HT3.out 1 _)
  have HO4 := Lib.hid (ownsRow_setCell_below HO3.out (a := ⟨w1.heap.size, 1, none⟩) (Nat.lt_succ_self _) (.slice A3 m c3))
  have HB4 := Lib.hid (HB3.out.setCell (p := ⟨w1.heap.size, 1, none⟩) (by have := HB1.out.size; simp only; omega) (.slice A3 m c3))
  have hb5 : w1.heap.size + 1 ≤ (w3.setCell ⟨w1.heap.size, 1, none⟩ (.slice A3 m c3)).heap.size := by simpa using hb4
  clear f1 t1 t2 z3 HX3 HY3 HT3 HO3 HB3 hb4
  generalize w3.setCell ⟨w1.heap.size, 1, none⟩ (.slice A3 m c3) = w4 at *
  go_loopw [11] (fun i wr => ∃ (k : Nat) (A5 : Option Addr) (c5 : Nat), i = .int .i64 k ∧ k ≤ q ∧ EBlk wr w.heap.size (.slice A n c) (.slice B m d) ∧ EBlk wr (w.heap.size + 1) (.slice none 0 0) (.slice none 0 0) ∧ EBlk wr w1.heap.size (.slice A n c) (.slice A5 (m + k) c5) ∧ wr.ownsRow (w1.heap.size + 1) 84 2 (.slice A5 (m + k) c5) (m + k) ((W ++ putL a (l.take k)).flatMap Wr.cells) ∧ Below w.heap.size w wr ∧ w1.heap.size + 1 ≤ wr.heap.size) (fun i _ => (q - intOf i).toNat)
  case atStart => exact ⟨0, A3, c3, rfl, by omega, HX4.out, HY4.out, HT4.out, HO4.out, HB4.out, hb5⟩
  case round =>
    obtain ⟨k, A5, c5, rfl, hk, hx, hy, ht, hown, hbr, hbs⟩ := hrel
    have HX5 := Lib.hid hx
    have HY5 := Lib.hid hy
    have HT5 := Lib.hid ht
    have HO5 := Lib.hid hown
    have HB5 := Lib.hid hbr
    have z0 := Box.lt hx
    clear hx hy ht hown hbr HX4 HY4 HT4 HO4 HB4 hb5
    by_cases hlt : k < q
    · obtain ⟨ad, rfl, hab, hca⟩ := (HT.out.below HB5.out) (by rw [HQ.out]; omega)
      have hkl : k < l.length := by rw [HQ.out]; exact hlt
      have x1 := hca k hkl
      have HP := Lib.hid (put_take a l k hkl)
      have hx32 := fill_mem HF.out (List.getElem_mem hkl)
      generalize l[k]'hkl = x at *
      have g9 : ((x.size : Int) != 32) = false := by rw [hx32]; rfl
      have hwr : IntKind.i64.wrap ((a : Int) + k) = (a : Int) + k := IntWalk.i64_in _ (by omega)
      have hki : (k : Int) < (q : Int) := by omega
      have HXC := Lib.hid (show ∀ wx, Below w.heap.size w wx → wx.cell? (ad.add k) = some (.string x) from fun wx hb => (hb.cell (p := ad.add k) (by rw [block_of_add]; exact hab)).trans ((HB5.out.cell (p := ad.add k) (by rw [block_of_add]; exact hab)).symm.trans x1))
      obtain ⟨xs, hxs⟩ : ∃ xs, xs = (W ++ putL a (l.take k)).flatMap Wr.cells := ⟨_, rfl⟩
      have HXS := Lib.hid (show (W ++ putL a (l.take (k + 1))).flatMap Wr.cells = xs ++ [.int .i64 (a + k), .string x] by
        rw [HP.out, hxs, List.flatMap_append, List.flatMap_append, List.flatMap_append, List.append_assoc]
        rfl)
      rw [← hxs] at HO5
      clear hxs hca HP hx32
      go_wp2
      refine wp_region_phase 14 [45, 46, 47, 48, 49, 50, 51, 52, 53, 54, 55, 56, 57] (by kernel_rfl) [11, 13] [] (fun _ _ => True) 2 rfl (by kernel_rfl) (PutS w (w1.heap.size + 1) w.heap.size w1.heap.size (.slice A n c) (.slice B m d) (.slice A5 (m + k) c5) (m + k) xs (m + k + 1) (xs ++ [.int .i64 (a + k), .string x])) (fun wa wb => Below wa.heap.size wa wb) (PutV (w1.heap.size + 1) w1.heap.size (.slice A5 (m + k) c5) (.slice (some ad) q tc) (.pointer (some (ad.add k))) a k x (m + k + 1) (xs ++ [.int .i64 (a + k), .string x])) (by kernel_rfl) (fun _ wa wb h1 h2 => h2.on h1) (fun _ t v wa wb h1 h2 => h2.on h1) (fun _ _ _ _ _ _ _ => trivial) ⟨⟨Box.on HX5.out (Below.refl _ _).drew, Box.on HY5.out (Below.refl _ _).drew, HB5.out.drew, hbs⟩, fun _ => ⟨Box.on HT5.out (Below.refl _ _).drew, own_below HO5.out (Below.refl _ _).drew⟩, fun h => absurd h (by decide), fun h => absurd h (by decide)⟩ trivial (phase2 ?_ ?_ ?_) ?_
      · skip
        refine Steps1.cons (fun _ ax wx hS hJ hG => ?_) (Steps1.cons (fun _ ax wx hS hJ hG => ?_) (Steps1.cons (fun _ ax wx hS hJ hG => ?_) (Steps1.cons (fun _ ax wx hS hJ hG => ?_) (Steps1.cons (fun _ ax wx hS hJ hG => ?_) (Steps1.cons (fun _ ax wx hS hJ hG => ?_) (Steps1.cons (fun _ ax wx hS hJ hG => ?_) (Steps1.cons (fun _ ax wx hS hJ hG => ?_) (Steps1.cons (fun _ ax wx hS hJ hG => ?_) (Steps1.cons (fun _ ax wx hS hJ hG => ?_) (Steps1.cons (fun _ ax wx hS hJ hG => ?_) (Steps1.cons (fun _ ax wx hS hJ hG => ?_) (Steps1.cons (fun _ ax wx hS hJ hG => ?_) (Steps1.cons (fun hin _ _ _ _ _ => out (by kernel_rfl) hin) Steps1.nil)))))))))))))
        · have q10 := hG.old 10 (by kernel_rfl) (by kernel_rfl)
          refine step_slot rfl rfl rfl (step_value (v := .pointer (some ⟨w1.heap.size, 1, none⟩)) (w' := wx) rfl rfl ?_ (Below.refl _ _) (fun d hd => by cases hd; exact rfl))
          go_simp
        · obtain ⟨_, q45, rfl⟩ := hG.new 45 (by kernel_rfl) (by kernel_rfl)
          obtain ⟨z0, z1⟩ := EBlk.cells (hS.2.1 rfl).1
          refine step_slot rfl rfl rfl (step_value (v := .slice A5 (m + k) c5) (w' := wx) rfl rfl ?_ (Below.refl _ _) (fun d hd => by cases hd; exact rfl))
          go_simp
        · have q1 := hG.old 1 (by kernel_rfl) (by kernel_rfl)
          refine step_slot rfl rfl rfl (step_value (v := .int .i64 a) (w' := wx) rfl rfl ?_ (Below.refl _ _) (fun d hd => by cases hd; exact rfl))
          go_simp
        · have q11 := hG.old 11 (by kernel_rfl) (by kernel_rfl)
          refine step_slot rfl rfl rfl (step_value (v := .int .i64 k) (w' := wx) rfl rfl ?_ (Below.refl _ _) (fun d hd => by cases hd; exact rfl))
          go_simp
        · obtain ⟨_, q47, rfl⟩ := hG.new 47 (by kernel_rfl) (by kernel_rfl)
          obtain ⟨_, q48, rfl⟩ := hG.new 48 (by kernel_rfl) (by kernel_rfl)
          refine step_slot rfl rfl rfl (step_value (v := .int .i64 (a + k)) (w' := wx) rfl rfl ?_ (Below.refl _ _) (fun d hd => by cases hd; exact rfl))
          go_simp
        · have q2 := hG.old 2 (by kernel_rfl) (by kernel_rfl)
          refine step_slot rfl rfl rfl (step_value (v := .slice (some ad) q tc) (w' := wx) rfl rfl ?_ (Below.refl _ _) (fun d hd => by cases hd; exact rfl))
          go_simp
        · have q11 := hG.old 11 (by kernel_rfl) (by kernel_rfl)
          refine step_slot rfl rfl rfl (step_value (v := .int .i64 k) (w' := wx) rfl rfl ?_ (Below.refl _ _) (fun d hd => by cases hd; exact rfl))
          go_simp
        · obtain ⟨_, q50, rfl⟩ := hG.new 50 (by kernel_rfl) (by kernel_rfl)
          obtain ⟨_, q51, rfl⟩ := hG.new 51 (by kernel_rfl) (by kernel_rfl)
          refine step_slot rfl rfl rfl (step_value (v := .pointer (some (ad.add k))) (w' := wx) rfl rfl ?_ (Below.refl _ _) (fun d hd => by cases hd; exact rfl))
          go_simp
        · obtain ⟨_, q52, rfl⟩ := hG.new 52 (by kernel_rfl) (by kernel_rfl)
          have z0 := HXC.out wx hS.1.2.2.1
          refine step_slot rfl rfl rfl (step_value (v := .string x) (w' := wx) rfl rfl ?_ (Below.refl _ _) (fun d hd => by cases hd; exact rfl))
          go_simp
        · obtain ⟨_, q49, rfl⟩ := hG.new 49 (by kernel_rfl) (by kernel_rfl)
          obtain ⟨_, q53, rfl⟩ := hG.new 53 (by kernel_rfl) (by kernel_rfl)
          refine step_slot rfl rfl rfl (step_value (v := .agg #[.int .i64 (a + k), .string x]) (w' := wx) rfl rfl ?_ (Below.refl _ _) (fun d hd => by cases hd; exact rfl))
          go_simp
        · obtain ⟨_, q54, rfl⟩ := hG.new 54 (by kernel_rfl) (by kernel_rfl)
          refine step_slot rfl rfl rfl (step_value (v := .slice (some ⟨wx.heap.size, 0, none⟩) 1 1) (w' := wx.alloc (.cells #[.int .i64 (a + k), .string x] 84)) rfl rfl ?_ ((Below.refl _ _).alloc (Nat.le_refl _) _) (fun d hd => by cases hd; exact fun _ => ⟨_, rfl, Box.fresh _ _ _⟩))
          go_simp
        · obtain ⟨_, q46, rfl⟩ := hG.new 46 (by kernel_rfl) (by kernel_rfl)
          obtain ⟨v55, q55, h55⟩ := hG.new 55 (by kernel_rfl) (by kernel_rfl)
          obtain ⟨g5, rfl, hb5⟩ := (show 0 = 0 → ∃ g5, v55 = .slice (some ⟨g5, 0, none⟩) 1 1 ∧ Box wx g5 84 #[.int .i64 (a + k), .string x] from h55) rfl
          obtain ⟨⟨hx7, hy7, hb7, hs7⟩, h7, _, _⟩ := hS
          obtain ⟨ht7, ho7⟩ := h7 rfl
          obtain ⟨v2, w2, hr, hown2, hg⟩ := run_append_wr wx 37 (w1.heap.size + 1) (.slice A5 (m + k) c5) (m + k) xs ho7 g5 (a + k) x hb5 (by omega) hs7
          have hlo := fun b hb => (ho7.lt b hb).1
          refine step_marked (v := v2) (w' := w2) rfl rfl rfl rfl ?_ ⟨⟨Box.grown hx7 hg (fun e => by have := hlo _ e.symm; have := Box.lt hx7; have := HB1.out.size; omega), Box.grown hy7 hg (fun e => by have := hlo _ e.symm; omega), hb7.grown hg hb7.size (fun b hb => by have := hlo b hb; have := HB1.out.size; omega), Nat.le_trans hs7 hg.size⟩, fun h => absurd h (by decide), fun _ => Box.grown ht7 hg (fun e => by have := hlo _ e.symm; omega), fun h => absurd h (by decide)⟩ trivial ?_ ?_
          · have e1 : ax.eval (.tmp 46) = .slice A5 (m + k) c5 := by simp [Act.eval, q46]
            have e2 : ax.eval (.tmp 55) = .slice (some ⟨g5, 0, none⟩) 1 1 := by simp [Act.eval, q55]
            unfold execOp
            simp only [resolve, invoke, builtin, Sem.run_bind, Sem.run_pure, Result.andThen_ok, List.map_toArray, List.map_cons, List.map_nil, e1, e2, hr]
          · exact fun _ => hown2
          · intro t u _ ht hu hV
            unfold PutV at hV ⊢
            split at hV
            · exact hV
            · exact hV
            · exact hV
            · exact hV
            · exact hV
            · exact hV
            · exact hV
            · exact hV
            · exact hV
            · exact hV
            · exact fun h => absurd h (by decide)
            · exact absurd rfl ht
            · exact hV
            · trivial
        · have q10 := hG.old 10 (by kernel_rfl) (by kernel_rfl)
          refine step_slot rfl rfl rfl (step_value (v := .pointer (some ⟨w1.heap.size, 1, none⟩)) (w' := wx) rfl rfl ?_ (Below.refl _ _) (fun d hd => by cases hd; exact rfl))
          go_simp
      · skip
        refine Steps1.cons (fun hin _ _ _ _ _ => out (by kernel_rfl) hin) (Steps1.cons (fun hin _ _ _ _ _ => out (by kernel_rfl) hin) (Steps1.cons (fun hin _ _ _ _ _ => out (by kernel_rfl) hin) (Steps1.cons (fun hin _ _ _ _ _ => out (by kernel_rfl) hin) (Steps1.cons (fun hin _ _ _ _ _ => out (by kernel_rfl) hin) (Steps1.cons (fun hin _ _ _ _ _ => out (by kernel_rfl) hin) (Steps1.cons (fun hin _ _ _ _ _ => out (by kernel_rfl) hin) (Steps1.cons (fun hin _ _ _ _ _ => out (by kernel_rfl) hin) (Steps1.cons (fun hin _ _ _ _ _ => out (by kernel_rfl) hin) (Steps1.cons (fun hin _ _ _ _ _ => out (by kernel_rfl) hin) (Steps1.cons (fun hin _ _ _ _ _ => out (by kernel_rfl) hin) (Steps1.cons (fun hin _ _ _ _ _ => out (by kernel_rfl) hin) (Steps1.cons (fun _ ax wx hS hJ hG => ?_) (Steps1.cons (fun _ ax wx hS hJ hG => ?_) Steps1.nil)))))))))))))
        · have q10 := hG.old 10 (by kernel_rfl) (by kernel_rfl)
          refine step_slot rfl rfl rfl (step_value (v := .pointer (some ⟨w1.heap.size, 1, none⟩)) (w' := wx) rfl rfl ?_ (Below.refl _ _) (fun d hd => by cases hd; exact rfl))
          go_simp
        · obtain ⟨_, q57, rfl⟩ := hG.new 57 (by kernel_rfl) (by kernel_rfl)
          obtain ⟨v56, q56, h56⟩ := hG.new 56 (by kernel_rfl) (by kernel_rfl)
          have ho7 : wx.ownsRow (w1.heap.size + 1) 84 2 v56 (m + k + 1) (xs ++ [.int .i64 (a + k), .string x]) := (show 1 ≤ 1 → _ from h56) (Nat.le_refl _)
          obtain ⟨A7, c7, rfl⟩ := own_shape ho7
          obtain ⟨⟨hx7, hy7, hb7, hs7⟩, _, h7, _⟩ := hS
          have ht7 := h7 rfl
          have f1 := Box.free ht7 1
          obtain ⟨k0, k1⟩ := EBlk.cells ht7
          have hlt7 := Box.lt ht7
          have hz7 := HB1.out.size
          refine step_store (w' := wx.setCell ⟨w1.heap.size, 1, none⟩ (.slice A7 (m + k + 1) c7)) rfl rfl rfl rfl ?_ ⟨⟨Box.away hx7 (by simp only [ne_eq]; omega) _, Box.away hy7 (by simp only [ne_eq]; omega) _, hb7.setCell (by simp only; omega) _, by simpa using hs7⟩, fun h => absurd h (by decide), fun h => absurd h (by decide), fun _ => ⟨A7, c7, Box.set ht7 1 _, ownsRow_setCell_below ho7 (a := ⟨w1.heap.size, 1, none⟩) (Nat.lt_succ_self _) _⟩⟩ trivial ?_
          · clear h56 ho7 hx7 hy7 hb7 ht7 h7 hJ
            go_simp
          · intro t u _ hu hV
            unfold PutV at hV ⊢
            split at hV
            · exact hV
            · exact hV
            · exact hV
            · exact hV
            · exact hV
            · exact hV
            · exact hV
            · exact hV
            · exact hV
            · exact hV
            · exact fun h => absurd h (by decide)
            · exact fun _ => ownsRow_setCell_below (hV (by decide)) (a := ⟨w1.heap.size, 1, none⟩) (Nat.lt_succ_self _) _
            · exact hV
            · trivial
      · skip
        refine Steps1.cons (fun hin _ _ _ _ _ => out (by kernel_rfl) hin) (Steps1.cons (fun hin _ _ _ _ _ => out (by kernel_rfl) hin) (Steps1.cons (fun hin _ _ _ _ _ => out (by kernel_rfl) hin) (Steps1.cons (fun hin _ _ _ _ _ => out (by kernel_rfl) hin) (Steps1.cons (fun hin _ _ _ _ _ => out (by kernel_rfl) hin) (Steps1.cons (fun hin _ _ _ _ _ => out (by kernel_rfl) hin) (Steps1.cons (fun hin _ _ _ _ _ => out (by kernel_rfl) hin) (Steps1.cons (fun hin _ _ _ _ _ => out (by kernel_rfl) hin) (Steps1.cons (fun hin _ _ _ _ _ => out (by kernel_rfl) hin) (Steps1.cons (fun hin _ _ _ _ _ => out (by kernel_rfl) hin) (Steps1.cons (fun hin _ _ _ _ _ => out (by kernel_rfl) hin) (Steps1.cons (fun hin _ _ _ _ _ => out (by kernel_rfl) hin) (Steps1.cons (fun hin _ _ _ _ _ => out (by kernel_rfl) hin) (Steps1.cons (fun hin _ _ _ _ _ => out (by kernel_rfl) hin) Steps1.nil)))))))))))))
      intro f w6 hS _ _
      obtain ⟨⟨hx6, hy6, hb6, hs6⟩, _, _, h2⟩ := hS
      obtain ⟨A6, c6, ht6, ho6⟩ := h2 rfl
      simp only [puts, Act.put, List.setIfInBounds_toArray, List.set_cons_succ, List.set_cons_zero]
      generalize f 45 = u45
      generalize f 46 = u46
      generalize f 47 = u47
      generalize f 48 = u48
      generalize f 49 = u49
      generalize f 50 = u50
      generalize f 51 = u51
      generalize f 52 = u52
      generalize f 53 = u53
      generalize f 54 = u54
      generalize f 55 = u55
      generalize f 56 = u56
      generalize f 57 = u57
      have HX6 := Lib.hid hx6
      have HY6 := Lib.hid hy6
      have HT6 := Lib.hid ht6
      have HO6 := Lib.hid ho6
      have HB6 := Lib.hid hb6
      clear hx6 hy6 ht6 ho6 hb6 h2
      go_wp2
      go_roundw
      case rel => exact ⟨k + 1, A6, c6, by go_num, by omega, HX6.out, HY6.out, HT6.out, by rw [HXS.out]; exact HO6.out, HB6.out, hs6⟩
      case measure => simp [intOf]; omega
    · obtain rfl : k = q := by omega
      rw [List.take_of_length_le (by rw [HQ.out]; exact Nat.le_refl _)] at HO5
      obtain ⟨t1, t2⟩ := EBlk.cells HT5.out
      have f0 := Box.free HY5.out 0
      have f1 := Box.free HY5.out 1
      obtain ⟨y1, y2⟩ := EBlk.cells HY5.out
      have z1 := Box.lt HY5.out
      have z2 := Box.lt HT5.out
      go_wp2
      have hp : EBlk ((wr.setCell ⟨w.heap.size + 1, 0, none⟩ (.slice A n c)).setCell ⟨w.heap.size + 1, 1, none⟩ (.slice A5 (m + k) c5)) (w.heap.size + 1) (.slice A n c) (.slice A5 (m + k) c5) := Box.set (Box.set HY5.out 0 _) 1 _
      have hp2 := EBlk.cells hp
      have hB9 : Below w.heap.size w ((wr.setCell ⟨w.heap.size + 1, 0, none⟩ (.slice A n c)).setCell ⟨w.heap.size + 1, 1, none⟩ (.slice A5 (m + k) c5)) := (HB5.out.setCell (by simp) _).setCell (by simp) _
      have e7 := ownsRow_setCell_below (ownsRow_setCell_below HO5.out (a := ⟨w.heap.size + 1, 0, none⟩) (by simp only; omega) (.slice A n c)) (a := ⟨w.heap.size + 1, 1, none⟩) (by simp only; omega) (.slice A5 (m + k) c5)
      exact bodyPost_ret (v := .tuple #[.agg #[.slice A n c, .slice A5 (m + k) c5], .int .i64 0]) (by simp [results, Tryd.results42, go_sem, hp2.1, hp2.2]) rfl
        ⟨_, rfl, ⟨A, c, A5, c5, by rw [HS.out, HSW.out], HA.out.on hB9, Lies.own Wr.cells2 (by rw [HSW.out]; exact e7)⟩, hB9⟩

end Go.Proofs.YtdgjnjhmjgdhnaaDoor
