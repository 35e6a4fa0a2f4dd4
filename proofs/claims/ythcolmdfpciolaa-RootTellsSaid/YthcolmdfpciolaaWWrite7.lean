/- The walk of root.Write: any disk with a root waiting. -/
import Derived.Test.YthcolmdfpciolaaWRead7
import Derived.Test.YthcolmdfpciolaaFill
namespace Go.Proofs.Ythcolmdfpciolaa
open Go.RowKit

/-- What waits behind it, and the error's number. -/
def wrW (S : List ByteArray) (W : List Wr) (r : Rt) : List Wr := if rtOk S W r then W ++ rtW r else W
def wrE (S : List ByteArray) (W : List Wr) (r : Rt) : Int := if rtOk S W r then 0 else 1
theorem wrW_len (S : List ByteArray) (W : List Wr) (r : Rt) : (wrW S W r).length ≤ W.length + 1 := by
  unfold wrW
  split
  · rw [List.length_append, rtW_len]; omega
  · omega

theorem bwrite_any {v : Value} {S : List ByteArray} {W : List Wr} {r : Rt} {w : World} (h : DV w v S W) (hn : S.length ≤ 1000000) (hm : W.length ≤ 100000) (hr : rtB r = true) :
    Calls Try.prog 24 #[v, .int .i64 (r.g % 2), .string (rtS r)] w fun e w' => ∃ v', e = .returned (.tuple #[v', .int .i64 (wrE S W r)]) ∧ DV w' v' S (wrW S W r) ∧ Below w.heap.size w w' := by
  unfold wrE wrW rtOk
  rw [hr, Bool.true_and]
  have e : secsL (rtS r).data.toList = secsL (rtT r) := rfl
  have hsz : (rtS r).size ≤ 65535 := by rw [rtS_size]; omega
  have hnd : needN (rtS r).size = 1 := by rw [rtS_size, need12]
  cases hok : (rightB S W && hasB S.length (r.g % 2) 1) with
  | true =>
    rw [Bool.and_eq_true] at hok
    exact write_ok h hm hsz hok.1 (by rw [hnd]; exact hok.2)
  | false =>
    rw [Bool.and_eq_false_iff] at hok
    refine (write_bad (a := r.g % 2) h hn (by omega) hsz (by rw [hnd]; exact hok)).mono ?_
    rintro e w' ⟨he, hb⟩
    exact ⟨v, he, h.on hb, hb⟩

/-- An answer of Write: a disk, and an error's number; a disk. -/
def TupE (n m : Nat) (E : Int) (S : List ByteArray) (W : List Wr) (w : World) (v : Value) : Prop := ∃ A c B d, v = .tuple #[.agg #[.slice A n c, .slice B m d], .int .i64 E] ∧ DV w (.agg #[.slice A n c, .slice B m d]) S W
theorem TupE.on {n m : Nat} {E : Int} {S : List ByteArray} {W : List Wr} {w w' : World} {v : Value} (h : TupE n m E S W w v) (hb : Below w.heap.size w w') : TupE n m E S W w' v := by
  obtain ⟨A, c, B, d, e, h⟩ := h
  exact ⟨A, c, B, d, e, h.on hb⟩
theorem laid_tupE {g n m c d n' m' : Nat} {E : Int} {A B : Option Addr} {S : List ByteArray} {W : List Wr} {w : World} {v : Value} (hz : DBlk w g none 0 0 none 0 0) (h : TupE n m E S W w v) : TupE n m E S W (laidD w g A n' c B m' d) v := by
  obtain ⟨A1, c1, B1, d1, e, h⟩ := h
  exact ⟨A1, c1, B1, d1, e, laid_dv hz h⟩
/-- The place of the answer, when it was stored. -/
def Held (g n m : Nat) (S : List ByteArray) (W : List Wr) (w : World) : Prop := ∃ A c B d, DBlk w g A n c B m d ∧ DV w (.agg #[.slice A n c, .slice B m d]) S W
theorem Held.on {g n m : Nat} {S : List ByteArray} {W : List Wr} {w w' : World} (h : Held g n m S W w) (hb : Below w.heap.size w w') : Held g n m S W w' := by
  obtain ⟨A, c, B, d, h1, h2⟩ := h
  exact ⟨A, c, B, d, Box.on h1 hb, h2.on hb⟩

def WrS (w0 w3 : World) (g n m : Nat) (S : List ByteArray) (W : List Wr) (p : Nat) (w : World) : Prop := (p = 0 → Below w3.heap.size w3 w) ∧ (1 ≤ p → Below w0.heap.size w0 w ∧ Held g n m S W w)
theorem WrS.on {w0 w3 : World} {g n m : Nat} {S : List ByteArray} {W : List Wr} {p : Nat} {w w' : World} (h : WrS w0 w3 g n m S W p w) (hb : Below w.heap.size w w') : WrS w0 w3 g n m S W p w' :=
  ⟨fun e => (h.1 e).trans (hb.mono (h.1 e).size), fun e => ⟨(h.2 e).1.trans (hb.mono (h.2 e).1.size), (h.2 e).2.on hb⟩⟩
def WrV (n m2 : Nat) (E : Int) (D R : Value) (pl : Int) (s : ByteArray) (S : List ByteArray) (W2 : List Wr) (t : Nat) (v : Value) (w : World) : Prop :=
  match t with
  | 21 => v = D
  | 22 => v = R
  | 23 => v = .int .i64 pl
  | 24 => v = .string s
  | 25 => TupE n m2 E S W2 w v
  | 26 => Dsk n m2 S W2 w v
  | 27 => v = .int .i64 E
  | 5 => v = .int .i64 E
  | _ => True
theorem WrV.on {n m2 : Nat} {E : Int} {D R : Value} {pl : Int} {s : ByteArray} {S : List ByteArray} {W2 : List Wr} {t : Nat} {v : Value} {w w' : World} (h : WrV n m2 E D R pl s S W2 t v w) (hb : Below w.heap.size w w') : WrV n m2 E D R pl s S W2 t v w' := by
  unfold WrV at *
  split at h <;> first | exact h | exact TupE.on h hb | exact Dsk.on h hb

set_option maxHeartbeats 4000000 in
set_option maxRecDepth 100000 in
theorem rwrite_any {v : Value} {S : List ByteArray} {W : List Wr} (r : Rt) {w : World} (h : DV w v S W) (hn : S.length ≤ 1000000) (hm : W.length ≤ 100000) :
    Calls Try.prog 11 #[v, r.v] w fun e w' => ∃ v', e = .returned (.tuple #[v', .int .i64 (wrE S W r)]) ∧ DV w' v' S (wrW S W r) ∧ Below w.heap.size w w' := by
  have HWB := Lib.hid (fun (hr : rtB r = true) (wx : World) (hx : Below w.heap.size w wx) => bwrite_any (r := r) (h.on hx) hn hm hr)
  have HPL0 := Lib.hid (fun (hr : rtB r = true) (wx : World) => place_any r wx hr)
  have HTX := Lib.hid (fun (hr : rtB r = true) (wx : World) => rtext_ok r wx hr)
  have HRT := Lib.hid (fun (wx : World) => rright_any r wx)
  have HV0 := Lib.hid h
  obtain ⟨A, c, B, d, rfl, hA, hB⟩ := h
  have HDN := Lib.hid (show rtB r = false → wrE S W r = 1 ∧ wrW S W r = W from fun hr => by unfold wrE wrW rtOk; rw [hr]; exact ⟨rfl, rfl⟩)
  obtain ⟨E, hE⟩ : ∃ E, E = wrE S W r := ⟨_, rfl⟩
  obtain ⟨W2, hW2⟩ : ∃ W2, W2 = wrW S W r := ⟨_, rfl⟩
  obtain ⟨s, hs⟩ : ∃ s, s = rtS r := ⟨_, rfl⟩
  obtain ⟨pl, hpl⟩ : ∃ pl, pl = r.g % 2 := ⟨_, rfl⟩
  obtain ⟨br, hbr⟩ : ∃ br, br = rtB r := ⟨_, rfl⟩
  rw [← hE, ← hW2, ← hs, ← hpl] at HWB
  rw [← hE, ← hW2] at HDN ⊢
  rw [← hs] at HTX
  rw [← hpl] at HPL0
  rw [← hbr] at HRT HPL0 HTX HWB HDN
  clear hE hW2 hs hpl hbr hn hm hA hB
  obtain ⟨x, y, z⟩ := r
  simp only [Rt.v] at HTX HPL0 HRT ⊢
  generalize S.length = n at *
  generalize W.length = m at *
  have hb0 : Below w.heap.size w (((w.alloc (.cells #[.slice A n c, .slice B m d] 25)).alloc (.cells #[.int .i64 x, .int .i64 y, .int .i64 z] 27)).alloc (.cells #[.slice none 0 0, .slice none 0 0] 25)) := (below_two w _ _).alloc (below_two w _ _).size _
  have HD0 := Lib.hid (show DBlk (((w.alloc (.cells #[.slice A n c, .slice B m d] 25)).alloc (.cells #[.int .i64 x, .int .i64 y, .int .i64 z] 27)).alloc (.cells #[.slice none 0 0, .slice none 0 0] 25)) w.heap.size A n c B m d from Box.push (Box.push (Box.fresh _ _ _) _) _)
  have HR0 := Lib.hid (show RBlk (((w.alloc (.cells #[.slice A n c, .slice B m d] 25)).alloc (.cells #[.int .i64 x, .int .i64 y, .int .i64 z] 27)).alloc (.cells #[.slice none 0 0, .slice none 0 0] 25)) (w.heap.size + 1) ⟨x, y, z⟩ from Box.push (Box.at_ (w.alloc _) _ _ (by simp)) _)
  have HZ0 := Lib.hid (show DBlk (((w.alloc (.cells #[.slice A n c, .slice B m d] 25)).alloc (.cells #[.int .i64 x, .int .i64 y, .int .i64 z] 27)).alloc (.cells #[.slice none 0 0, .slice none 0 0] 25)) (w.heap.size + 2) none 0 0 none 0 0 from Box.at_ ((w.alloc _).alloc _) _ _ (by simp))
  have HB0 := Lib.hid hb0
  clear hb0
  go_enter Try.func11, Try.ntmps11
  go_wp2_with fail
  refine (HRT.out _).mono ?_
  rintro e w1 ⟨rfl, hb1⟩
  have HB1 := Lib.hid (HB0.out.trans (hb1.mono HB0.out.size))
  have HD1 := Lib.hid (show DBlk w1 w.heap.size A n c B m d from Box.on HD0.out hb1)
  have HR1 := Lib.hid (show RBlk w1 (w.heap.size + 1) ⟨x, y, z⟩ from Box.on HR0.out hb1)
  have HZ1 := Lib.hid (show DBlk w1 (w.heap.size + 2) none 0 0 none 0 0 from Box.on HZ0.out hb1)
  have hz1 := Box.lt HD1.out
  have hz2 := Box.lt HR1.out
  have hz3 := Box.lt HZ1.out
  clear hb1 HB0 HD0 HR0 HZ0
  cases br with
  | false =>
    obtain ⟨rfl, rfl⟩ := HDN.out (by trivial)
    have f0 := Box.free HZ1.out 0
    have f1 := Box.free HZ1.out 1
    obtain ⟨k0, k1⟩ := DBlk.cells HZ1.out
    obtain ⟨d0, d1⟩ := DBlk.cells HD1.out
    clear HWB HDN
    go_wp2
    have hp := ans_cells (.slice A n c) (.slice B m d) HZ1.out
    have hbz := (HB1.out.setCell (p := ⟨w.heap.size + 2, 0, none⟩) (by simp) (.slice A n c)).setCell (p := ⟨w.heap.size + 2, 1, none⟩) (by simp) (.slice B m d)
    have hdv := (HV0.out.on HB1.out).apart HZ1.out A n c B m d
    exact bodyPost_ret (v := .tuple #[.agg #[.slice A n c, .slice B m d], .int .i64 1]) (by simp [results, Try.results11, go_sem, hp.1, hp.2]) rfl ⟨_, rfl, hdv, hbz⟩
  | true =>
  obtain ⟨r0, r1, r2⟩ := RBlk.cells HR1.out
  go_wp2_with fail
  refine (HTX.out (by trivial) _).mono ?_
  clear r0 r1 r2 hz1 hz2 hz3
  rintro e w3 ⟨rfl, hb3⟩
  have HB3 := Lib.hid (HB1.out.trans (hb3.mono HB1.out.size))
  have HD3 := Lib.hid (show DBlk w3 w.heap.size A n c B m d from Box.on HD1.out hb3)
  have HR3 := Lib.hid (show RBlk w3 (w.heap.size + 1) ⟨x, y, z⟩ from Box.on HR1.out hb3)
  have HZ3 := Lib.hid (show DBlk w3 (w.heap.size + 2) none 0 0 none 0 0 from Box.on HZ1.out hb3)
  have hz1 := Box.lt HD3.out
  have hz2 := Box.lt HR3.out
  have hz3 := Box.lt HZ3.out
  clear hb3 HB1 HD1 HR1 HZ1
  go_wp2
  clear hz1 hz2 hz3
  obtain ⟨m2, hm2⟩ : ∃ m2, m2 = W2.length := ⟨_, rfl⟩
  have HC1 := Lib.hid (fun (wx : World) (hx : Below w3.heap.size w3 wx) => DBlk.cells (Box.on HD3.out hx))
  have HC2 := Lib.hid (fun (wx : World) (hx : Below w3.heap.size w3 wx) => RBlk.cells (show RBlk wx (w.heap.size + 1) ⟨x, y, z⟩ from Box.on HR3.out hx))
  have HBW := Lib.hid (fun (wx : World) (hx : Below w3.heap.size w3 wx) => HB3.out.trans (hx.mono HB3.out.size))
  have HWR := Lib.hid (fun (wx : World) (hx : Below w3.heap.size w3 wx) => show Calls Try.prog 24 #[.agg #[.slice A n c, .slice B m d], .int .i64 pl, .string s] wx fun e w' => ∃ v', e = .returned v' ∧ TupE n m2 E S W2 w' v' ∧ Below wx.heap.size wx w' by
    refine (HWB.out (by trivial) wx (HBW.out wx hx)).mono ?_
    rintro e w' ⟨v', rfl, ⟨A3, c3, B3, d3, rfl, hA3, hB3⟩, hb⟩
    have hdv : DV w' _ S W2 := ⟨A3, c3, B3, d3, rfl, hA3, hB3⟩
    obtain ⟨A0, c0, B0, d0, e0, _, _⟩ := HV0.out
    have hsl : S.length = n := by injection e0 with e0; injection e0 with e0; injection e0 with e0 e1; injection e0 with _ e0 _; exact e0.symm
    rw [hsl, ← hm2] at hdv ⊢
    exact ⟨_, rfl, ⟨A3, c3, B3, d3, rfl, hdv⟩, hb⟩)
  have HPL := Lib.hid (fun (wx : World) => HPL0.out (by trivial) wx)
  have HGB := Lib.hid (show w.heap.size ≤ w.heap.size + 2 by omega)
  generalize hg : w.heap.size + 2 = g at *
  have HZ := Lib.hid (fun (wx : World) (hx : Below w3.heap.size w3 wx) => show DBlk wx g none 0 0 none 0 0 from Box.on HZ3.out hx)
  clear HWB HPL0 hg
  refine wp_region_phase 8 [21, 22, 23, 24, 25, 26, 27, 5] (by kernel_rfl) [7] [] (fun _ _ => True) 1 rfl (by kernel_rfl) (WrS w w3 g n m2 S W2) (fun wa wb => Below wa.heap.size wa wb) (fun _ => WrV n m2 E (.agg #[.slice A n c, .slice B m d]) (.agg #[.int .i64 x, .int .i64 y, .int .i64 z]) pl s S W2) (by kernel_rfl) (fun _ wa wb h1 h2 => h2.on h1) (fun _ t v wa wb h1 h2 => h2.on h1) (fun _ _ _ _ _ _ _ => trivial) ⟨fun _ => (Below.refl _ _).drew, fun h => absurd h (by decide)⟩ trivial (phase1 ?_ ?_) ?_
  · skip
    refine Steps1.cons (fun _ ax wx hS hJ hG => ?_) (Steps1.cons (fun _ ax wx hS hJ hG => ?_) (Steps1.cons (fun _ ax wx hS hJ hG => ?_) (Steps1.cons (fun _ ax wx hS hJ hG => ?_) (Steps1.cons (fun _ ax wx hS hJ hG => ?_) (Steps1.cons (fun _ ax wx hS hJ hG => ?_) (Steps1.cons (fun _ ax wx hS hJ hG => ?_) (Steps1.cons (fun _ ax wx hS hJ hG => ?_) (Steps1.cons (fun hin _ _ _ _ _ => out (by kernel_rfl) hin) Steps1.nil))))))))
    · have q2 := hG.old 2 (by kernel_rfl) (by kernel_rfl)
      obtain ⟨z0, z1⟩ := HC1.out wx (hS.1 rfl)
      refine step_slot rfl rfl rfl (step_value (v := .agg #[.slice A n c, .slice B m d]) (w' := wx) rfl rfl ?_ (Below.refl _ _) (fun d hd => by cases hd; exact rfl))
      go_simp
    · have q3 := hG.old 3 (by kernel_rfl) (by kernel_rfl)
      obtain ⟨z0, z1, z2⟩ := HC2.out wx (hS.1 rfl)
      refine step_slot rfl rfl rfl (step_value (v := .agg #[.int .i64 x, .int .i64 y, .int .i64 z]) (w' := wx) rfl rfl ?_ (Below.refl _ _) (fun d hd => by cases hd; exact rfl))
      go_simp
    · obtain ⟨_, q22, rfl⟩ := hG.new 22 (by kernel_rfl) (by kernel_rfl)
      refine step_slot rfl rfl rfl (step_call (w1 := wx) (f := 25) (args := #[.agg #[.int .i64 x, .int .i64 y, .int .i64 z]]) rfl rfl ?_ ((HPL.out wx).mono ?_))
      · skip
        go_simp
      · rintro e w' ⟨rfl, hq⟩
        exact ⟨_, rfl, hq, fun d hd => by cases hd; exact rfl⟩
    · have q6 := hG.old 6 (by kernel_rfl) (by kernel_rfl)
      refine step_slot rfl rfl rfl (step_value (v := .string s) (w' := wx) rfl rfl ?_ (Below.refl _ _) (fun d hd => by cases hd; exact rfl))
      go_simp
    · obtain ⟨_, q21, rfl⟩ := hG.new 21 (by kernel_rfl) (by kernel_rfl)
      obtain ⟨_, q23, rfl⟩ := hG.new 23 (by kernel_rfl) (by kernel_rfl)
      obtain ⟨_, q24, rfl⟩ := hG.new 24 (by kernel_rfl) (by kernel_rfl)
      refine step_slot rfl rfl rfl (step_call (w1 := wx) (f := 24) (args := #[.agg #[.slice A n c, .slice B m d], .int .i64 pl, .string s]) rfl rfl ?_ ((HWR.out wx (hS.1 rfl)).mono ?_))
      · skip
        go_simp
      · rintro e w' ⟨v', rfl, hv, hq⟩
        exact ⟨_, rfl, hq, fun d hd => by cases hd; exact hv⟩
    · obtain ⟨v25, q25, h25⟩ := hG.new 25 (by kernel_rfl) (by kernel_rfl)
      obtain ⟨A3, c3, B3, d3, rfl, hdv⟩ : TupE n m2 E S W2 wx v25 := h25
      refine step_slot rfl rfl rfl (step_value (v := .agg #[.slice A3 n c3, .slice B3 m2 d3]) (w' := wx) rfl rfl ?_ (Below.refl _ _) (fun d hd => by cases hd; exact ⟨A3, c3, B3, d3, rfl, hdv⟩))
      clear hdv
      go_simp
    · obtain ⟨v25, q25, h25⟩ := hG.new 25 (by kernel_rfl) (by kernel_rfl)
      obtain ⟨A3, c3, B3, d3, rfl, hdv⟩ : TupE n m2 E S W2 wx v25 := h25
      refine step_slot rfl rfl rfl (step_value (v := .int .i64 E) (w' := wx) rfl rfl ?_ (Below.refl _ _) (fun d hd => by cases hd; exact rfl))
      clear hdv
      go_simp
    · have q4 := hG.old 4 (by kernel_rfl) (by kernel_rfl)
      obtain ⟨v26, q26, h26⟩ := hG.new 26 (by kernel_rfl) (by kernel_rfl)
      obtain ⟨A3, c3, B3, d3, rfl, hdv⟩ : Dsk n m2 S W2 wx v26 := h26
      have hz : DBlk wx g none 0 0 none 0 0 := HZ.out wx (hS.1 rfl)
      have hlt := Box.lt hz
      have f0 := Box.free hz 0
      have f1 := Box.free hz 1
      obtain ⟨k0, k1⟩ := DBlk.cells hz
      refine step_store (w' := laidD wx g A3 n c3 B3 m2 d3) rfl rfl rfl rfl ?_ ⟨fun h => absurd h (by decide), fun _ => ⟨laid_below (HBW.out wx (hS.1 rfl)) HGB.out, A3, c3, B3, d3, Box.set (Box.set hz 0 _) 1 _, laid_dv hz hdv⟩⟩ trivial ?_
      · clear hdv hz hJ hS
        unfold laidD
        go_simp
      · intro t u _ hu hV
        unfold WrV at hV ⊢
        split at hV
        · exact hV
        · exact hV
        · exact hV
        · exact hV
        · exact laid_tupE hz hV
        · exact laid_dsk hz hV
        · exact hV
        · exact hV
        · trivial
  · skip
    refine Steps1.cons (fun hin _ _ _ _ _ => out (by kernel_rfl) hin) (Steps1.cons (fun hin _ _ _ _ _ => out (by kernel_rfl) hin) (Steps1.cons (fun hin _ _ _ _ _ => out (by kernel_rfl) hin) (Steps1.cons (fun hin _ _ _ _ _ => out (by kernel_rfl) hin) (Steps1.cons (fun hin _ _ _ _ _ => out (by kernel_rfl) hin) (Steps1.cons (fun hin _ _ _ _ _ => out (by kernel_rfl) hin) (Steps1.cons (fun _ ax wx hS hJ hG => ?_) (Steps1.cons (fun hin _ _ _ _ _ => out (by kernel_rfl) hin) (Steps1.cons (fun _ ax wx hS hJ hG => ?_) Steps1.nil))))))))
    · obtain ⟨v25, q25, h25⟩ := hG.new 25 (by kernel_rfl) (by kernel_rfl)
      obtain ⟨A3, c3, B3, d3, rfl, hdv⟩ : TupE n m2 E S W2 wx v25 := h25
      refine step_slot rfl rfl rfl (step_value (v := .int .i64 E) (w' := wx) rfl rfl ?_ (Below.refl _ _) (fun d hd => by cases hd; exact rfl))
      clear hdv
      go_simp
    · obtain ⟨_, q27, rfl⟩ := hG.new 27 (by kernel_rfl) (by kernel_rfl)
      refine step_slot rfl rfl rfl (step_value (v := .int .i64 E) (w' := wx) rfl rfl ?_ (Below.refl _ _) (fun d hd => by cases hd; exact rfl))
      go_simp
  intro f wz hS _ hV
  have e5 : f 5 = .int .i64 E := hV 5 (by decide)
  obtain ⟨hbz, A3, c3, B3, d3, hd3, hv3⟩ := hS.2 (by decide)
  simp only [puts, Act.put, List.setIfInBounds_toArray, List.set_cons_succ, List.set_cons_zero]
  clear hV hS
  rw [e5]
  obtain ⟨p0, p1⟩ := DBlk.cells hd3
  go_wp2
  exact bodyPost_ret (v := .tuple #[.agg #[.slice A3 n c3, .slice B3 m2 d3], .int .i64 E]) (by simp [results, Try.results11, go_sem, p0, p1]) rfl ⟨_, rfl, hv3, hbz⟩

end Go.Proofs.Ythcolmdfpciolaa
