/- The walks of In and Pick, and of the document's: layer 3's, with values. -/
import Derived.Test.YtgpjbajfkagdbaaApp
import Derived.Test.YtgpjbajfkagdbaaPh
import Derived.Maps.AppendAt
import Derived.OwnWalk
set_option linter.unusedVariables false
set_option linter.unusedSimpArgs false
namespace Go.Proofs.Ytgpjbajfkagdbaa
open Go.RowKit

set_option maxHeartbeats 400000 in
theorem in_any (lo hi key : ByteArray) (op : Bool) (w : World) :
    Calls Try.prog 41 #[.agg #[.string lo, .string hi, .bool op], .string key] w fun e w' => e = .returned (.bool (inB ⟨lo, hi, op⟩ key)) ∧ Below w.heap.size w w' := by
  cases h1 : (Op.bytesLess lo.toList key.toList || lo.toList == key.toList) with
  | false =>
    have HR := Lib.hid (show inB ⟨lo, hi, op⟩ key = false by simp only [inB, leS, h1, Bool.false_and])
    go_enter Try.func41, Try.ntmps41
    go_wp2
    go_ret
    rw [HR.out]
    exact ⟨rfl, (Below.refl _ _).alloc (Nat.le_refl _) _⟩
  | true =>
    cases op with
    | true =>
      have HR := Lib.hid (show inB ⟨lo, hi, true⟩ key = true by simp only [inB, leS, h1, Bool.true_and, Bool.true_or])
      go_enter Try.func41, Try.ntmps41
      go_wp2
      go_ret
      rw [HR.out]
      exact ⟨rfl, (Below.refl _ _).alloc (Nat.le_refl _) _⟩
    | false =>
      have HR := Lib.hid (show inB ⟨lo, hi, false⟩ key = Op.bytesLess key.toList hi.toList by simp only [inB, leS, ltS, h1, Bool.true_and, Bool.false_or])
      go_enter Try.func41, Try.ntmps41
      go_wp2
      go_ret
      rw [HR.out]
      exact ⟨rfl, (Below.refl _ _).alloc (Nat.le_refl _) _⟩

set_option maxHeartbeats 400000 in
theorem rin_any (lo hi key : ByteArray) (op : Bool) (w : World) :
    Calls Try.prog 42 #[.agg #[.string lo, .string hi, .bool op], .string key] w fun e w' => e = .returned (.bool (inB ⟨lo, hi, op⟩ key)) ∧ Below w.heap.size w w' := by
  have e0 : inB ⟨lo, hi, op⟩ key = (!ltS key lo && (op || ltS key hi)) := by
    unfold inB
    rw [leS_eq]
    congr 1
    rw [Bool.eq_iff_iff, decide_eq_true_eq, le_iff, Bool.not_eq_true']
  have HR := Lib.hid e0
  clear e0
  cases h1 : Op.bytesLess key.toList lo.toList with
  | true =>
    unfold ltS at HR
    rw [h1] at HR
    go_enter Try.func42, Try.ntmps42
    go_wp2
    go_ret
    rw [HR.out]
    exact ⟨rfl, (Below.refl _ _).alloc (Nat.le_refl _) _⟩
  | false =>
    unfold ltS at HR
    rw [h1] at HR
    cases op with
    | true =>
      go_enter Try.func42, Try.ntmps42
      go_wp2
      go_ret
      rw [HR.out]
      exact ⟨rfl, (Below.refl _ _).alloc (Nat.le_refl _) _⟩
    | false =>
      go_enter Try.func42, Try.ntmps42
      go_wp2
      go_ret
      rw [HR.out]
      exact ⟨rfl, (Below.refl _ _).alloc (Nat.le_refl _) _⟩

/-- A range in a block of its own. -/
abbrev rcells (lo hi : ByteArray) (op : Bool) : Obj := .cells #[.string lo, .string hi, .bool op] 25

def Rng.cells (r : Rng) : List Value := [.string r.lo, .string r.hi, .bool r.op]
/-- A range that lies in a block of its own: what the walk asks. -/
def RBlk (w : World) (g : Nat) (r : Rng) : Prop := Box w g 25 #[.string r.lo, .string r.hi, .bool r.op]
theorem RBlk.cells {w : World} {g : Nat} {r : Rng} (h : RBlk w g r) : w.cell? ⟨g, 0, none⟩ = some (.string r.lo) ∧ w.cell? ⟨g, 1, none⟩ = some (.string r.hi) ∧ w.cell? ⟨g, 2, none⟩ = some (.bool r.op) :=
  ⟨Box.cell h 0 rfl, Box.cell h 1 rfl, Box.cell h 2 rfl⟩
theorem RBlk.put {w : World} {g : Nat} {r q : Rng} (h : RBlk w g r) : RBlk (((w.setCell ⟨g, 0, none⟩ (.string q.lo)).setCell ⟨g, 1, none⟩ (.string q.hi)).setCell ⟨g, 2, none⟩ (.bool q.op)) g q :=
  Box.set (Box.set (Box.set h 0 _) 1 _) 2 _
theorem RBlk.below {w w' : World} {B g : Nat} {r : Rng} (h : RBlk w g r) (hb : Below B w w') (hg : g < B) : RBlk w' g r := Box.below h hb hg

/-- Those whose keys are in a range. -/
def pickL (r : Rng) (l : List Pr) : List Pr := l.filter fun p => inB r p.k
theorem pick_take (r : Rng) (l : List Pr) (k : Nat) (h : k < l.length) : pickL r (l.take (k + 1)) = pickL r (l.take k) ++ (if inB r l[k].k then [l[k]] else []) := by
  unfold pickL
  rw [List.take_succ_eq_append_getElem h, List.filter_append, List.filter_cons, List.filter_nil]

theorem cells_of {w w' : World} {g : Nat} {r : Rng} (h : RBlk w g r) (hb : Below w.heap.size w w') : RBlk w' g r := RBlk.below h hb (Box.lt h)
set_option maxHeartbeats 1000000 in
theorem pick_any (lo hi : ByteArray) (op : Bool) (A : Option Addr) (c : Nat) (l : List Pr) (w : World) (hA : Prs w w.heap.size A l) (hn : l.length ≤ 1000000) :
    Calls Try.prog 26 #[.agg #[.string lo, .string hi, .bool op], .slice A l.length c] w fun e w' => ∃ v, e = .returned v ∧ w'.ownsRow w.heap.size 41 2 v (pickL ⟨lo, hi, op⟩ l).length ((pickL ⟨lo, hi, op⟩ l).flatMap Pr.cells) ∧ Below w.heap.size w w' := by
  obtain ⟨i0, hi0, hz0, hz1, hz2⟩ := info_parts pair_info
  generalize hl : l.length = n at *
  have HL := Lib.hid hl
  have HA := Lib.hid hA
  clear hl hA
  go_enter Try.func26, Try.ntmps26
  go_wp2
  go_loopw [5, 10] (fun v i wr => ∃ (k : Nat), i = .int .i64 k ∧ k ≤ n ∧ wr.ownsRow (w.heap.size + 1) 41 2 v (pickL ⟨lo, hi, op⟩ (l.take k)).length ((pickL ⟨lo, hi, op⟩ (l.take k)).flatMap Pr.cells) ∧ RBlk wr w.heap.size ⟨lo, hi, op⟩ ∧ Below w.heap.size w wr) (fun _ i _ => (n - intOf i).toNat)
  case atStart => exact ⟨0, rfl, by omega, World.ownsRow_nil _ _ _ _, Box.fresh _ _ _, (Below.refl _ _).alloc (Nat.le_refl _) _⟩
  case round =>
    obtain ⟨k, rfl, hk, hown, hr, hbr⟩ := hrel
    obtain ⟨A2, c2, rfl⟩ := own_shape hown
    by_cases hlt : k < n
    · obtain ⟨ad, rfl, hab, hca⟩ := (HA.out.below hbr).seeP (by rw [HL.out]; omega)
      obtain ⟨x1, x2⟩ := hca k (by rw [HL.out]; omega)
      have HT := Lib.hid (pick_take ⟨lo, hi, op⟩ l k (by rw [HL.out]; omega))
      have hle : (pickL ⟨lo, hi, op⟩ (l.take k)).length ≤ 1000000 := by
        have h1 := List.length_filter_le (fun p => inB ⟨lo, hi, op⟩ p.k) (l.take k)
        rw [List.length_take] at h1
        unfold pickL; omega
      obtain ⟨x, hx⟩ : ∃ x, x = l[k]'(by rw [HL.out]; omega) := ⟨_, rfl⟩
      rw [← hx] at x1 x2 HT
      clear hx hca
      obtain ⟨xk, xv⟩ := x
      simp only at x1 x2
      obtain ⟨r1, r2, r3⟩ := RBlk.cells hr
      simp only at r1 r2 r3
      have HR := Lib.hid hr
      have HO := Lib.hid hown
      have hlr := Box.lt hr
      have hlt3 : (ad.add (k * 2)).block < w.heap.size := by rw [block_of_add]; exact hab
      clear hr hown
      generalize pickL ⟨lo, hi, op⟩ (l.take k) = ls at *
      go_wp2_with fail
      refine (in_any lo hi xk op _).mono ?_
      rintro e w1 ⟨rfl, hb1⟩
      have hbr1 : Below w.heap.size w w1 := (hbr.alloc hbr.size _).trans (hb1.mono (by have := hbr.size; simp; omega))
      have HR1 := Lib.hid (show RBlk w1 w.heap.size ⟨lo, hi, op⟩ from cells_of (Box.push HR.out _) hb1)
      have hown1 := own_below (HO.out.alloc (.cells #[.string xk, .string xv] 41)) hb1
      have hp : Box w1 wr.heap.size 41 #[.string xk, .string xv] := Box.on (Box.fresh wr _ _) hb1
      have p1 := Box.cell hp 0 (v := .string xk) rfl
      have p2 := Box.cell hp 1 (v := .string xv) rfl
      have hlp := Box.lt hp
      clear hb1 x1 x2 r1 r2 r3 hp
      cases hb : inB ⟨lo, hi, op⟩ xk with
      | false =>
        rw [hb] at HT
        have HO1 := Lib.hid hown1
        clear hb hown1
        go_wp2
        go_roundw
        case rel => exact ⟨k + 1, by go_num, by omega, by rw [HT.out]; simpa using HO1.out, HR1.out, hbr1⟩
        case measure => simp [intOf]; omega
      | true =>
        rw [hb] at HT
        clear hb
        go_wp2_with (at_builtin; refine wpList_append_own _ rfl _ _ 22 rfl (w.heap.size + 1) 41 i0 (.agg #[.string ⟨#[]⟩, .string ⟨#[]⟩]) 2 32 Try.underlying22 hi0 hz0 hz1 hz2 rfl (by decide) _ _ _ rfl (hown1.alloc _) ⟨w1.heap.size, 0, none⟩ 1 1 [.string xk, .string xv] rfl rfl ?c1 ?c2 ?c3 ?c4 ?c5 ?_)
        case c1 =>
          intro j u hj
          match j, hj with
          | 0, hj => simp at hj; subst hj; simp [Addr.add]
          | 1, hj => simp at hj; subst hj; simp [Addr.add]
        case c2 => intro u hu; simp at hu; rcases hu with rfl | rfl <;> rfl
        case c3 => unfold maxLen; omega
        case c4 => omega
        case c5 => simp; omega
        intro v' w2 hown2 hg2 _
        have hbr2 : Below w.heap.size w w2 := (hbr1.alloc hbr1.size _).grown hg2 (by have := hbr1.size; simp; omega) (fun k hk => by have := (hown1.lt k hk).1; omega)
        have HR2 := Lib.hid (show RBlk w2 w.heap.size ⟨lo, hi, op⟩ from Box.grown (Box.push HR1.out _) hg2 (fun e => by have := (hown1.lt _ e.symm).1; omega))
        have HO2 := Lib.hid hown2
        clear hown1 hown2 hg2
        go_wp2
        go_roundw
        case rel => exact ⟨k + 1, by go_num, by omega, by rw [HT.out]; simpa [Pr.cells] using HO2.out, HR2.out, hbr2⟩
        case measure => simp [intOf]; omega
    · have hkn : k = n := by omega
      subst hkn
      have hte := List.take_of_length_le (l := l) (i := k) (by rw [HL.out]; omega)
      rw [hte] at hown ⊢
      clear hte
      have HO := Lib.hid (own_more hown (Nat.le_succ _))
      clear hown hr
      go_wp2
      go_ret
      exact ⟨_, rfl, HO.out, hbr⟩

/-! The document's Pick. -/
def RPickV (RG SL PA : Value) (k : Nat) (xk lo hi : ByteArray) (op : Bool) (t : Nat) (v : Value) (w : World) : Prop :=
  match t with
  | 14 => v = RG
  | 15 => v = SL
  | 16 => v = .int .i64 k
  | 17 => v = PA
  | 18 => v = PA
  | 19 => v = .string xk
  | 20 => v = .bool (inB ⟨lo, hi, op⟩ xk)
  | 7 => v = .bool (inB ⟨lo, hi, op⟩ xk)
  | _ => True
theorem RPickV.on {RG SL PA : Value} {k : Nat} {xk lo hi : ByteArray} {op : Bool} {t : Nat} {v : Value} {w w' : World} (h : RPickV RG SL PA k xk lo hi op t v w) (_ : Below w.heap.size w w') : RPickV RG SL PA k xk lo hi op t v w' := by
  unfold RPickV at *
  split at h <;> exact h

set_option maxHeartbeats 2000000 in
set_option maxRecDepth 100000 in
theorem rpick_any (lo hi : ByteArray) (op : Bool) (A : Option Addr) (c : Nat) (l : List Pr) (w : World) (hA : Prs w w.heap.size A l) (hn : l.length ≤ 1000000) :
    Calls Try.prog 27 #[.agg #[.string lo, .string hi, .bool op], .slice A l.length c] w fun e w' => ∃ v, e = .returned v ∧ PV w' v (pickL ⟨lo, hi, op⟩ l) ∧ Below w.heap.size w w' := by
  obtain ⟨i0, hi0, hz0, hz1, hz2⟩ := info_parts pair_info
  obtain ⟨n, hl⟩ : ∃ n, l.length = n := ⟨_, rfl⟩
  rw [hl] at hn ⊢
  obtain ⟨g, hg⟩ : ∃ g, g = w.heap.size := ⟨_, rfl⟩
  obtain ⟨w0, hw0⟩ : ∃ w0, w0 = w.alloc (.cells #[.string lo, .string hi, .bool op] 25) := ⟨_, rfl⟩
  have HB0 := Lib.hid (show Below w.heap.size w w0 from by rw [hw0]; exact (Below.refl _ _).alloc (Nat.le_refl _) _)
  have HX := Lib.hid (show RBlk w0 g ⟨lo, hi, op⟩ from by rw [hw0]; exact Box.at_ w _ _ hg)
  have HA := Lib.hid (hA.on HB0.out)
  have HL := Lib.hid hl
  have HG0 := Lib.hid (show g < w0.heap.size from Box.lt HX.out)
  clear hl hA
  go_enter Try.func27, Try.ntmps27
  go_upto_region 1 with fail
  rw [← hg, ← hw0]
  clear hg hw0
  go_wp2
  go_loopw [5, 6] (fun v i wr => ∃ (k m : Nat), i = .int .i64 k ∧ k ≤ n ∧ Hid (m = (pickL ⟨lo, hi, op⟩ (l.take k)).length ∧ m ≤ n) ∧ Hid (wr.ownsRow w0.heap.size 41 2 v m ((pickL ⟨lo, hi, op⟩ (l.take k)).flatMap Pr.cells)) ∧ Below w0.heap.size w0 wr) (fun _ i _ => (n - intOf i).toNat)
  case atStart => exact ⟨0, 0, rfl, by omega, ⟨rfl, Nat.zero_le _⟩, by show World.ownsRow _ _ _ _ _ _ _; exact World.ownsRow_nil _ _ _ _, Below.refl _ _⟩
  case round =>
    obtain ⟨k, m, rfl, hk, HM, HO, hbr⟩ := hrel
    have hbs := hbr.size
    by_cases hlt : k < n
    · have hkl : k < l.length := by rw [HL.out]; exact hlt
      obtain ⟨ad, rfl, hab, hca⟩ := (HA.out.below hbr).seeP (by rw [HL.out]; omega)
      obtain ⟨x1, x2⟩ := hca k hkl
      obtain ⟨x, hx⟩ : ∃ x, x = l[k]'hkl := ⟨_, rfl⟩
      have HT := Lib.hid (pick_take ⟨lo, hi, op⟩ l k hkl)
      rw [← hx] at x1 x2 HT
      clear hx hca
      obtain ⟨xk, xv⟩ := x
      simp only at x1 x2
      have HCK := Lib.hid (show ∀ wx, Below wr.heap.size wr wx → wx.cell? (ad.add (k * 2)) = some (.string xk) ∧ wx.cell? ⟨(ad.add (k * 2)).block, (ad.add (k * 2)).off + 1, none⟩ = some (.string xv) from fun wx hS => ⟨(hS.cell (lt_of_cell x1)).trans x1, (hS.cell (lt_of_cell x2)).trans x2⟩)
      have HCR := Lib.hid (show ∀ wx, Below wr.heap.size wr wx → wx.cell? ⟨g, 0, none⟩ = some (.string lo) ∧ wx.cell? ⟨g, 1, none⟩ = some (.string hi) ∧ wx.cell? ⟨g, 2, none⟩ = some (.bool op) from fun wx hS => RBlk.cells (r := ⟨lo, hi, op⟩) (Box.below (B := w0.heap.size) HX.out (hbr.trans (hS.mono hbs)) HG0.out))
      have HKN := Lib.hid hlt
      clear x1 x2
      go_upto_region 5 with fail
      refine wp_region_inv [14, 15, 16, 17, 18, 19, 20, 7] (by kernel_rfl) (by kernel_rfl) (fun w' => Below wr.heap.size wr w') (fun wa wb => Below wa.heap.size wa wb) (RPickV (.agg #[.string lo, .string hi, .bool op]) (.slice (some ad) n c) (.pointer (some (ad.add (k * 2)))) k xk lo hi op) (by kernel_rfl) (fun wa wb h1 h2 => h2.trans (h1.mono h2.size)) (fun t v wa wb h1 h2 => h2.on h1) (Below.refl _ _).drew (steps_of ?_) ?_
      · skip
        refine Steps1.cons (fun ax wx hS hG => ?_) (Steps1.cons (fun ax wx hS hG => ?_) (Steps1.cons (fun ax wx hS hG => ?_) (Steps1.cons (fun ax wx hS hG => ?_) (Steps1.cons (fun ax wx hS hG => ?_) (Steps1.cons (fun ax wx hS hG => ?_) (Steps1.cons (fun ax wx hS hG => ?_) (Steps1.cons (fun ax wx hS hG => ?_) Steps1.nil)))))))
        · have q2 := hG.old 2 (by kernel_rfl) (by kernel_rfl)
          obtain ⟨z0, z1, z2⟩ := HCR.out wx hS
          refine step_value (v := .agg #[.string lo, .string hi, .bool op]) (w' := wx) rfl rfl ?_ (Below.refl _ _) (fun d hd => by cases hd; exact rfl)
          go_simp
        · have q1 := hG.old 1 (by kernel_rfl) (by kernel_rfl)
          refine step_value (v := .slice (some ad) n c) (w' := wx) rfl rfl ?_ (Below.refl _ _) (fun d hd => by cases hd; exact rfl)
          go_simp
        · have q6 := hG.old 6 (by kernel_rfl) (by kernel_rfl)
          refine step_value (v := .int .i64 k) (w' := wx) rfl rfl ?_ (Below.refl _ _) (fun d hd => by cases hd; exact rfl)
          go_simp
        · obtain ⟨_, q15, rfl⟩ := hG.new 15 (by kernel_rfl) (by kernel_rfl)
          obtain ⟨_, q16, rfl⟩ := hG.new 16 (by kernel_rfl) (by kernel_rfl)
          refine step_value (v := .pointer (some (ad.add (k * 2)))) (w' := wx) rfl rfl ?_ (Below.refl _ _) (fun d hd => by cases hd; exact rfl)
          have hkn := HKN.out
          go_simp
        · obtain ⟨_, q17, rfl⟩ := hG.new 17 (by kernel_rfl) (by kernel_rfl)
          refine step_value (v := .pointer (some (ad.add (k * 2)))) (w' := wx) rfl rfl ?_ (Below.refl _ _) (fun d hd => by cases hd; exact rfl)
          go_simp
        · obtain ⟨_, q18, rfl⟩ := hG.new 18 (by kernel_rfl) (by kernel_rfl)
          obtain ⟨z0, z1⟩ := HCK.out wx hS
          refine step_value (v := .string xk) (w' := wx) rfl rfl ?_ (Below.refl _ _) (fun d hd => by cases hd; exact rfl)
          go_simp
        · obtain ⟨_, q14, rfl⟩ := hG.new 14 (by kernel_rfl) (by kernel_rfl)
          obtain ⟨_, q19, rfl⟩ := hG.new 19 (by kernel_rfl) (by kernel_rfl)
          refine step_call (w1 := wx) (f := 42) (args := #[.agg #[.string lo, .string hi, .bool op], .string xk]) rfl rfl ?_ ((rin_any lo hi xk op wx).mono ?_)
          · skip
            go_simp
          · rintro e w' ⟨rfl, hq⟩
            exact ⟨_, rfl, hq, fun d hd => by cases hd; exact rfl⟩
        · obtain ⟨_, q20, rfl⟩ := hG.new 20 (by kernel_rfl) (by kernel_rfl)
          refine step_value (v := .bool (inB ⟨lo, hi, op⟩ xk)) (w' := wx) rfl rfl ?_ (Below.refl _ _) (fun d hd => by cases hd; exact rfl)
          go_simp
      intro fv w8 hS8 hV8
      have e7 : fv 7 = .bool (inB ⟨lo, hi, op⟩ xk) := hV8 7 (by decide)
      simp only [puts, Act.put, List.setIfInBounds_toArray, List.set_cons_succ, List.set_cons_zero]
      clear hV8
      rw [e7]
      have hb8 := hbr.trans (hS8.mono hbs)
      have hbs8 := hb8.size
      obtain ⟨A2, c2, e2⟩ := own_shape HO.out
      subst e2
      have hown := own_below HO.out hS8
      obtain ⟨x1, x2⟩ := HCK.out w8 hS8
      clear HCK HCR HO
      cases hb : inB ⟨lo, hi, op⟩ xk with
      | false =>
        have HF := Lib.hid (show pickL ⟨lo, hi, op⟩ (l.take (k + 1)) = pickL ⟨lo, hi, op⟩ (l.take k) from by rw [HT.out, hb]; simp)
        have HO8 := Lib.hid hown
        clear hown x1 x2 hb
        go_wp2
        go_roundw
        case rel => exact ⟨k + 1, m, by first | rfl | go_num, by omega, by show _ = _ ∧ _; rw [HF.out]; exact HM.out, by show World.ownsRow _ _ _ _ _ _ _; rw [HF.out]; exact HO8.out, hb8⟩
        case measure => simp [intOf]; omega
      | true =>
        have HF := Lib.hid (show pickL ⟨lo, hi, op⟩ (l.take (k + 1)) = pickL ⟨lo, hi, op⟩ (l.take k) ++ [⟨xk, xv⟩] from by rw [HT.out, hb]; simp)
        have hmk : m ≤ k := by
          rw [HM.out.1]
          have h1 := List.length_filter_le (fun p => inB ⟨lo, hi, op⟩ p.k) (l.take k)
          rw [List.length_take] at h1
          unfold pickL; omega
        clear hb
        go_wp2_with (at_builtin; refine wpList_append_own _ rfl _ _ 22 rfl w0.heap.size 41 i0 (.agg #[.string ⟨#[]⟩, .string ⟨#[]⟩]) 2 32 Try.underlying22 hi0 hz0 hz1 hz2 rfl (by decide) _ _ _ rfl (hown.alloc _) ⟨w8.heap.size, 0, none⟩ 1 1 [.string xk, .string xv] rfl rfl ?c1 ?c2 ?c3 ?c4 ?c5 ?_)
        case c2 => first | exact ⟨rfl, rfl⟩ | (intro u hu; simp at hu; rcases hu with rfl | rfl <;> rfl)
        case c3 => unfold maxLen; omega
        case c4 => omega
        case c5 => first | omega | (simp; omega)
        intro v' w2 hown2 hg2 _
        have hbr2 : Below w0.heap.size w0 w2 := (hb8.alloc hbs8 _).grown hg2 (by simp; omega) (fun k hk => (hown.lt k hk).1)
        have HO2 := Lib.hid hown2
        have HM2 := Lib.hid (show m + 1 = (pickL ⟨lo, hi, op⟩ (l.take (k + 1))).length ∧ m + 1 ≤ n from ⟨by rw [HF.out, List.length_append, ← HM.out.1]; rfl, by omega⟩)
        clear hown hown2 hg2 x1 x2
        go_wp2
        go_roundw
        case rel => exact ⟨k + 1, m + 1, by first | rfl | go_num, by omega, HM2, by show World.ownsRow _ _ _ _ _ _ _; rw [HF.out, List.flatMap_append]; simpa [Pr.cells] using HO2.out, hbr2⟩
        case measure => simp [intOf]; omega
    · have hkn : k = n := by omega
      have HE := Lib.hid (show l.take k = l from List.take_of_length_le (by rw [HL.out]; omega))
      clear hkn
      go_wp2
      go_ret
      have h1 := HO.out
      have h2 := HM.out.1
      rw [HE.out] at h1 h2
      exact ⟨_, rfl, PV.own h1 h2, HB0.out.trans (hbr.mono HB0.out.size)⟩
theorem pick_o {v : Value} {l : List Pr} {w : World} (r : Rng) (h : PV w v l) (hn : l.length ≤ 1000000) :
    Calls Try.prog 26 #[.agg #[.string r.lo, .string r.hi, .bool r.op], v] w fun e w' => ∃ v', e = .returned v' ∧ w'.ownsRow w.heap.size 41 2 v' (pickL r l).length ((pickL r l).flatMap Pr.cells) ∧ Below w.heap.size w w' := by
  obtain ⟨A, c, rfl, h1, _⟩ := h
  exact pick_any r.lo r.hi r.op A c l w h1 hn
theorem rpick_v {v : Value} {l : List Pr} {w : World} (r : Rng) (h : PV w v l) (hn : l.length ≤ 1000000) :
    Calls Try.prog 27 #[.agg #[.string r.lo, .string r.hi, .bool r.op], v] w fun e w' => ∃ v', e = .returned v' ∧ PV w' v' (pickL r l) ∧ Below w.heap.size w w' := by
  obtain ⟨A, c, rfl, h1, _⟩ := h
  exact rpick_any r.lo r.hi r.op A c l w h1 hn

end Go.Proofs.Ytgpjbajfkagdbaa
