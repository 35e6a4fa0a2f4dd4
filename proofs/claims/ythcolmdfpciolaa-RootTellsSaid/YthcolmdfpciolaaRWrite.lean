/- The walks of the document's Write of layer 6, of a root's text, and of layer 7. -/
import Derived.Test.YthcolmdfpciolaaRRoot
namespace Go.Proofs.Ythcolmdfpciolaa
open Go.RowKit

/-- A document's disk stored in a block of its own: content tells blocks apart. -/
theorem ecell_apart {w : World} {g : Nat} {A : Option Addr} {n c : Nat} {B : Option Addr} {m d : Nat} (h : EBlk w g (.slice A n c) (.slice B m d)) {p : Addr} {v : Value} (hv : w.cell? p = some v) (hs : ∀ x y z, v ≠ .slice x y z) : p.block ≠ g := by
  intro e
  have h1 : w.heap[p.block]? = some (.cells #[.slice A n c, .slice B m d] 30 (0, 0)) := by rw [e]; exact h
  unfold World.cell? at hv
  rw [h1] at hv
  rcases Nat.lt_or_ge p.off 2 with ho | ho
  · rcases (by omega : p.off = 0 ∨ p.off = 1) with h0 | h0 <;> (simp [h0] at hv; exact hs _ _ _ hv.2.symm)
  · simp [ho] at hv
theorem Strs.eapart {w : World} {B0 g : Nat} {A0 : Option Addr} {l : List ByteArray} {A : Option Addr} {n c : Nat} {B : Option Addr} {m d : Nat} (h : Strs w B0 A0 l) (hd : EBlk w g (.slice A n c) (.slice B m d)) (i : Nat) (v : Value) : Strs (w.setCell ⟨g, i, none⟩ v) B0 A0 l := fun hl => by
  obtain ⟨ad, e, hB, hc⟩ := h hl
  refine ⟨ad, e, hB, fun j hj => (World.cell?_of_block (Below.heap_setCell w _ v _ ?_)).trans (hc j hj)⟩
  exact ecell_apart hd (hc j hj) (by intro x y z; simp)
theorem Wrs.eapart {w : World} {B0 g : Nat} {A0 : Option Addr} {l : List Wr} {A : Option Addr} {n c : Nat} {B : Option Addr} {m d : Nat} (h : Wrs w B0 A0 l) (hd : EBlk w g (.slice A n c) (.slice B m d)) (i : Nat) (v : Value) : Wrs (w.setCell ⟨g, i, none⟩ v) B0 A0 l := fun hl => by
  obtain ⟨ad, e, hB, hc⟩ := h hl
  refine ⟨ad, e, hB, fun j hj k u hu => (World.cell?_of_block (Below.heap_setCell w _ v _ ?_)).trans (hc j hj k u hu)⟩
  have h1 := ecell_apart hd (hc j hj 1 (.string l[j].tx) rfl) (by intro x y z; simp)
  rw [block_of_add, block_of_add] at h1 ⊢
  exact h1
theorem DV.eapart {w : World} {g : Nat} {v : Value} {S : List ByteArray} {W : List Wr} {A : Option Addr} {n c : Nat} {B : Option Addr} {m d : Nat} (h : DV w v S W) (hd : EBlk w g (.slice A n c) (.slice B m d)) (A' : Option Addr) (n' c' : Nat) (B' : Option Addr) (m' d' : Nat) : DV (laidD w g A' n' c' B' m' d') v S W := by
  obtain ⟨A0, c0, B0, d0, e, h1, h2⟩ := h
  have hd2 : EBlk (w.setCell ⟨g, 0, none⟩ (.slice A' n' c')) g (.slice A' n' c') (.slice B m d) := Box.set hd 0 _
  refine ⟨A0, c0, B0, d0, e, ?_, ?_⟩
  · simpa [laidD] using (h1.eapart hd 0 _).eapart hd2 1 _
  · simpa [laidD] using (Wrs.eapart (Wrs.eapart h2 hd 0 _) hd2 1 _)
theorem elaid_tupE {g n m c d n' m' : Nat} {E : Int} {A B : Option Addr} {S : List ByteArray} {W : List Wr} {w : World} {v : Value} (hz : EBlk w g (.slice none 0 0) (.slice none 0 0)) (h : TupE n m E S W w v) : TupE n m E S W (laidD w g A n' c B m' d) v := by
  obtain ⟨A1, c1, B1, d1, e, h⟩ := h
  exact ⟨A1, c1, B1, d1, e, h.eapart hz A n' c B m' d⟩
theorem elaid_dsk {g n m c d n' m' : Nat} {A B : Option Addr} {S : List ByteArray} {W : List Wr} {w : World} {v : Value} (hz : EBlk w g (.slice none 0 0) (.slice none 0 0)) (h : Dsk n m S W w v) : Dsk n m S W (laidD w g A n' c B m' d) v := by
  obtain ⟨A1, c1, B1, d1, e, h⟩ := h
  exact ⟨A1, c1, B1, d1, e, h.eapart hz A n' c B m' d⟩
theorem elaid_sv {g c d n' m' : Nat} {A B : Option Addr} {l : List ByteArray} {w : World} {v : Value} (hz : EBlk w g (.slice none 0 0) (.slice none 0 0)) (h : SV w v l) : SV (laidD w g A n' c B m' d) v l := by
  obtain ⟨A1, c1, e, h⟩ := h
  have hd2 : EBlk (w.setCell ⟨g, 0, none⟩ (.slice A n' c)) g (.slice A n' c) (.slice none 0 0) := Box.set hz 0 _
  exact ⟨A1, c1, e, by simpa [laidD] using (h.eapart hz 0 _).eapart hd2 1 _⟩

/-- The place of the answer, when it was stored. -/
def HeldE (g n m : Nat) (S : List ByteArray) (W : List Wr) (w : World) : Prop := ∃ A c B d, EBlk w g (.slice A n c) (.slice B m d) ∧ DV w (.agg #[.slice A n c, .slice B m d]) S W
theorem HeldE.on {g n m : Nat} {S : List ByteArray} {W : List Wr} {w w' : World} (h : HeldE g n m S W w) (hb : Below w.heap.size w w') : HeldE g n m S W w' := by
  obtain ⟨A, c, B, d, h1, h2⟩ := h
  exact ⟨A, c, B, d, Box.on h1 hb, h2.on hb⟩
def WrSE (w0 w3 : World) (g n m : Nat) (S : List ByteArray) (W : List Wr) (p : Nat) (w : World) : Prop := (p = 0 → Below w3.heap.size w3 w) ∧ (1 ≤ p → Below w0.heap.size w0 w ∧ HeldE g n m S W w)
theorem WrSE.on {w0 w3 : World} {g n m : Nat} {S : List ByteArray} {W : List Wr} {p : Nat} {w w' : World} (h : WrSE w0 w3 g n m S W p w) (hb : Below w.heap.size w w') : WrSE w0 w3 g n m S W p w' :=
  ⟨fun e => (h.1 e).trans (hb.mono (h.1 e).size), fun e => ⟨(h.2 e).1.trans (hb.mono (h.2 e).1.size), (h.2 e).2.on hb⟩⟩

theorem dput_rt {v t : Value} {S : List ByteArray} {W : List Wr} {r : Rt} {w : World} (h : DZ w v S W) (ht : SV w t (secsL (rtT r))) (hn : S.length ≤ 1000000) (hm : W.length ≤ 100000) (hr : rtB r = true) :
    Calls Try.prog 41 #[v, .int .i64 (r.g % 2), t] w fun e w' => ∃ v', e = .returned (.tuple #[v', .int .i64 (wrE S W r)]) ∧ DV w' v' S (wrW S W r) ∧ Below w.heap.size w w' := by
  have hD := h.dv
  obtain ⟨A, c, B, d, rfl, hA, hB, hz⟩ := h
  obtain ⟨T, tc, rfl, hT⟩ := ht
  unfold wrE wrW rtOk rtW
  rw [hr, Bool.true_and]
  have hl := secs12 r
  cases hok : (rightB S W && hasB S.length (r.g % 2) 1) with
  | true =>
    rw [Bool.and_eq_true] at hok
    obtain ⟨b, hb, hbn⟩ := has_parts hok.2
    rw [hb]
    exact dput_ok A c S B d W b T tc (secsL (rtT r)) w hA hB hz hT hm (by rw [hl]; omega) hok.1 (secs_fill _) (by rw [hl]; exact hbn)
  | false =>
    rw [Bool.and_eq_false_iff] at hok
    refine (dput_bad A c S B d W (r.g % 2) T tc (secsL (rtT r)).length w hA hB hn (by omega) (by rw [hl]; exact hok)).mono ?_
    rintro e w' ⟨he, hb⟩
    exact ⟨_, he, hD.on hb, hb⟩
theorem dbytes_rt (r : Rt) (w : World) : Calls Try.prog 43 #[.string (rtS r)] w fun e w' => e = .returned (.string ⟨(bytesL (rtT r)).toArray⟩) ∧ Below w.heap.size w w' := dbytes_any (rtS r) w (by rw [rtS_size]; omega)
theorem dcut_rt (r : Rt) (w : World) : Calls Try.prog 42 #[.string ⟨(bytesL (rtT r)).toArray⟩] w fun e w' => ∃ v', e = .returned v' ∧ SV w' v' (secsL (rtT r)) ∧ Below w.heap.size w w' := by
  have hz : (⟨(bytesL (rtT r)).toArray⟩ : ByteArray).size = 19 := by
    show (bytesL (rtT r)).toArray.size = 19
    rw [List.size_toArray, bytes_len, rtT_len]
  exact dcut_one ⟨(bytesL (rtT r)).toArray⟩ w (by omega) (by omega)

def Wr6V (n m2 : Nat) (E : Int) (D : Value) (pl : Int) (s bs : ByteArray) (L S : List ByteArray) (W2 : List Wr) (t : Nat) (v : Value) (w : World) : Prop :=
  match t with
  | 12 => v = D
  | 13 => v = .int .i64 pl
  | 14 => v = .string s
  | 15 => v = .string bs
  | 16 => SV w v L
  | 17 => TupE n m2 E S W2 w v
  | 18 => Dsk n m2 S W2 w v
  | 19 => v = .int .i64 E
  | 7 => v = .int .i64 E
  | _ => True
theorem Wr6V.on {n m2 : Nat} {E : Int} {D : Value} {pl : Int} {s bs : ByteArray} {L S : List ByteArray} {W2 : List Wr} {t : Nat} {v : Value} {w w' : World} (h : Wr6V n m2 E D pl s bs L S W2 t v w) (hb : Below w.heap.size w w') : Wr6V n m2 E D pl s bs L S W2 t v w' := by
  unfold Wr6V at *
  split at h <;> first | exact h | exact TupE.on h hb | exact Dsk.on h hb | exact SV.on h hb

set_option maxHeartbeats 4000000 in
set_option maxRecDepth 100000 in
theorem dwrite6_rt {v : Value} {S : List ByteArray} {W : List Wr} (r : Rt) {w : World} (h : DZ w v S W) (hn : S.length ≤ 1000000) (hm : W.length ≤ 100000) (hr : rtB r = true) :
    Calls Try.prog 26 #[v, .int .i64 (r.g % 2), .string (rtS r)] w fun e w' => ∃ v', e = .returned (.tuple #[v', .int .i64 (wrE S W r)]) ∧ DV w' v' S (wrW S W r) ∧ Below w.heap.size w w' := by
  have HWB := Lib.hid (fun (wx : World) (hx : Below w.heap.size w wx) (t : Value) (ht : SV wx t (secsL (rtT r))) => dput_rt (r := r) (h.on hx) ht hn hm hr)
  have HBY := Lib.hid (fun wx => dbytes_rt r wx)
  have HCU := Lib.hid (fun wx => dcut_rt r wx)
  have hsz : (rtS r).size = 12 := rtS_size r
  obtain ⟨A, c, B, d, rfl, hA, hB, hzz⟩ := h
  have HSLN := Lib.hid (show ∃ n, n = S.length from ⟨_, rfl⟩)
  obtain ⟨E, hE⟩ : ∃ E, E = wrE S W r := ⟨_, rfl⟩
  obtain ⟨W2, hW2⟩ : ∃ W2, W2 = wrW S W r := ⟨_, rfl⟩
  obtain ⟨s, hs⟩ : ∃ s, s = rtS r := ⟨_, rfl⟩
  obtain ⟨bs, hbs⟩ : ∃ bs : ByteArray, bs = ⟨(bytesL (rtT r)).toArray⟩ := ⟨_, rfl⟩
  obtain ⟨L, hL⟩ : ∃ L, L = secsL (rtT r) := ⟨_, rfl⟩
  obtain ⟨pl, hpl⟩ : ∃ pl, pl = r.g % 2 := ⟨_, rfl⟩
  rw [← hE, ← hW2, ← hpl, ← hL] at HWB
  rw [← hE, ← hW2, ← hpl, ← hs]
  rw [← hs] at hsz
  rw [← hs, ← hbs] at HBY
  rw [← hbs, ← hL] at HCU
  clear hE hW2 hs hbs hL hpl hn hm hA hB hzz hr
  obtain ⟨n, hnn⟩ : ∃ n, n = S.length := ⟨_, rfl⟩
  have HNN := Lib.hid hnn
  rw [← hnn] at HWB ⊢
  generalize W.length = m at *
  clear hnn
  have hb0 : Below w.heap.size w ((w.alloc (.cells #[.slice A n c, .slice B m d] 30)).alloc (.cells #[.slice none 0 0, .slice none 0 0] 30)) := below_two w _ _
  have HD3 := Lib.hid (show EBlk ((w.alloc (.cells #[.slice A n c, .slice B m d] 30)).alloc (.cells #[.slice none 0 0, .slice none 0 0] 30)) w.heap.size (.slice A n c) (.slice B m d) from Box.push (Box.fresh _ _ _) _)
  have HZ3 := Lib.hid (show EBlk ((w.alloc (.cells #[.slice A n c, .slice B m d] 30)).alloc (.cells #[.slice none 0 0, .slice none 0 0] 30)) (w.heap.size + 1) (.slice none 0 0) (.slice none 0 0) from Box.at_ (w.alloc _) _ _ (by simp))
  have HB3 := Lib.hid hb0
  clear hb0
  go_enter Try.func26, Try.ntmps26
  go_wp2
  generalize (w.alloc (.cells #[.slice A n c, .slice B m d] 30)).alloc (.cells #[.slice none 0 0, .slice none 0 0] 30) = w3 at *
  obtain ⟨m2, hm2⟩ : ∃ m2, m2 = W2.length := ⟨_, rfl⟩
  have HC1 := Lib.hid (fun (wx : World) (hx : Below w3.heap.size w3 wx) => EBlk.cells (show EBlk wx w.heap.size (.slice A n c) (.slice B m d) from Box.on HD3.out hx))
  have HBW := Lib.hid (fun (wx : World) (hx : Below w3.heap.size w3 wx) => HB3.out.trans (hx.mono HB3.out.size))
  have HPU := Lib.hid (fun (wx : World) (hx : Below w3.heap.size w3 wx) (t : Value) (ht : SV wx t L) => show Calls Try.prog 41 #[.agg #[.slice A n c, .slice B m d], .int .i64 pl, t] wx fun e w' => ∃ v', e = .returned v' ∧ TupE n m2 E S W2 w' v' ∧ Below wx.heap.size wx w' by
    refine (HWB.out wx (HBW.out wx hx) t ht).mono ?_
    rintro e w' ⟨v', rfl, ⟨A3, c3, B3, d3, rfl, hA3, hB3⟩, hb⟩
    have hdv : DV w' _ S W2 := ⟨A3, c3, B3, d3, rfl, hA3, hB3⟩
    rw [← HNN.out, ← hm2] at hdv ⊢
    exact ⟨_, rfl, ⟨A3, c3, B3, d3, rfl, hdv⟩, hb⟩)
  have HGB := Lib.hid (show w.heap.size ≤ w.heap.size + 1 by omega)
  generalize hg : w.heap.size + 1 = g at *
  have HZ := Lib.hid (fun (wx : World) (hx : Below w3.heap.size w3 wx) => show EBlk wx g (.slice none 0 0) (.slice none 0 0) from Box.on HZ3.out hx)
  clear HWB hg
  refine wp_region_phase 10 [12, 13, 14, 15, 16, 17, 18, 19, 7] (by kernel_rfl) [8] [] (fun _ _ => True) 1 rfl (by kernel_rfl) (WrSE w w3 g n m2 S W2) (fun wa wb => Below wa.heap.size wa wb) (fun _ => Wr6V n m2 E (.agg #[.slice A n c, .slice B m d]) pl s bs L S W2) (by kernel_rfl) (fun _ wa wb h1 h2 => h2.on h1) (fun _ t v wa wb h1 h2 => h2.on h1) (fun _ _ _ _ _ _ _ => trivial) ⟨fun _ => (Below.refl _ _).drew, fun h => absurd h (by decide)⟩ trivial (phase1 ?_ ?_) ?_
  · skip
    refine Steps1.cons (fun _ ax wx hS hJ hG => ?_) (Steps1.cons (fun _ ax wx hS hJ hG => ?_) (Steps1.cons (fun _ ax wx hS hJ hG => ?_) (Steps1.cons (fun _ ax wx hS hJ hG => ?_) (Steps1.cons (fun _ ax wx hS hJ hG => ?_) (Steps1.cons (fun _ ax wx hS hJ hG => ?_) (Steps1.cons (fun _ ax wx hS hJ hG => ?_) (Steps1.cons (fun _ ax wx hS hJ hG => ?_) (Steps1.cons (fun _ ax wx hS hJ hG => ?_) (Steps1.cons (fun hin _ _ _ _ _ => out (by kernel_rfl) hin) Steps1.nil)))))))))
    · have q3 := hG.old 3 (by kernel_rfl) (by kernel_rfl)
      obtain ⟨z0, z1⟩ := HC1.out wx (hS.1 rfl)
      refine step_slot rfl rfl rfl (step_value (v := .agg #[.slice A n c, .slice B m d]) (w' := wx) rfl rfl ?_ (Below.refl _ _) (fun d hd => by cases hd; exact rfl))
      go_simp
    · have q1 := hG.old 1 (by kernel_rfl) (by kernel_rfl)
      refine step_slot rfl rfl rfl (step_value (v := .int .i64 pl) (w' := wx) rfl rfl ?_ (Below.refl _ _) (fun d hd => by cases hd; exact rfl))
      go_simp
    · have q2 := hG.old 2 (by kernel_rfl) (by kernel_rfl)
      refine step_slot rfl rfl rfl (step_value (v := .string s) (w' := wx) rfl rfl ?_ (Below.refl _ _) (fun d hd => by cases hd; exact rfl))
      go_simp
    · obtain ⟨_, q14, rfl⟩ := hG.new 14 (by kernel_rfl) (by kernel_rfl)
      refine step_slot rfl rfl rfl (step_call (w1 := wx) (f := 43) (args := #[.string s]) rfl rfl ?_ ((HBY.out wx).mono ?_))
      · skip
        go_simp
      · rintro e w' ⟨rfl, hq⟩
        exact ⟨_, rfl, hq, fun d hd => by cases hd; exact rfl⟩
    · obtain ⟨_, q15, rfl⟩ := hG.new 15 (by kernel_rfl) (by kernel_rfl)
      refine step_slot rfl rfl rfl (step_call (w1 := wx) (f := 42) (args := #[.string bs]) rfl rfl ?_ ((HCU.out wx).mono ?_))
      · skip
        go_simp
      · rintro e w' ⟨v', rfl, hv, hq⟩
        exact ⟨_, rfl, hq, fun d hd => by cases hd; exact hv⟩
    · obtain ⟨_, q12, rfl⟩ := hG.new 12 (by kernel_rfl) (by kernel_rfl)
      obtain ⟨_, q13, rfl⟩ := hG.new 13 (by kernel_rfl) (by kernel_rfl)
      obtain ⟨v16, q16, h16⟩ := hG.new 16 (by kernel_rfl) (by kernel_rfl)
      have p16 : SV wx v16 L := h16
      refine step_slot rfl rfl rfl (step_call (w1 := wx) (f := 41) (args := #[.agg #[.slice A n c, .slice B m d], .int .i64 pl, v16]) rfl rfl ?_ ((HPU.out wx (hS.1 rfl) v16 p16).mono ?_))
      · clear h16 p16
        go_simp
      · rintro e w' ⟨v', rfl, hv, hq⟩
        exact ⟨_, rfl, hq, fun d hd => by cases hd; exact hv⟩
    · obtain ⟨v17, q17, h17⟩ := hG.new 17 (by kernel_rfl) (by kernel_rfl)
      obtain ⟨A3, c3, B3, d3, rfl, hdv⟩ : TupE n m2 E S W2 wx v17 := h17
      refine step_slot rfl rfl rfl (step_value (v := .agg #[.slice A3 n c3, .slice B3 m2 d3]) (w' := wx) rfl rfl ?_ (Below.refl _ _) (fun d hd => by cases hd; exact ⟨A3, c3, B3, d3, rfl, hdv⟩))
      clear hdv
      go_simp
    · obtain ⟨v17, q17, h17⟩ := hG.new 17 (by kernel_rfl) (by kernel_rfl)
      obtain ⟨A3, c3, B3, d3, rfl, hdv⟩ : TupE n m2 E S W2 wx v17 := h17
      refine step_slot rfl rfl rfl (step_value (v := .int .i64 E) (w' := wx) rfl rfl ?_ (Below.refl _ _) (fun d hd => by cases hd; exact rfl))
      clear hdv
      go_simp
    · have q6 := hG.old 6 (by kernel_rfl) (by kernel_rfl)
      obtain ⟨v18, q18, h18⟩ := hG.new 18 (by kernel_rfl) (by kernel_rfl)
      obtain ⟨A3, c3, B3, d3, rfl, hdv⟩ : Dsk n m2 S W2 wx v18 := h18
      have hz : EBlk wx g (.slice none 0 0) (.slice none 0 0) := HZ.out wx (hS.1 rfl)
      have hlt := Box.lt hz
      have f0 := Box.free hz 0
      have f1 := Box.free hz 1
      obtain ⟨k0, k1⟩ := EBlk.cells hz
      refine step_store (w' := laidD wx g A3 n c3 B3 m2 d3) rfl rfl rfl rfl ?_ ⟨fun h => absurd h (by decide), fun _ => ⟨laid_below (HBW.out wx (hS.1 rfl)) HGB.out, A3, c3, B3, d3, Box.set (Box.set hz 0 _) 1 _, hdv.eapart hz _ _ _ _ _ _⟩⟩ trivial ?_
      · clear hdv hz hJ hS
        unfold laidD
        go_simp
      · intro t u _ hu hV
        unfold Wr6V at hV ⊢
        split at hV
        · exact hV
        · exact hV
        · exact hV
        · exact hV
        · exact elaid_sv hz hV
        · exact elaid_tupE hz hV
        · exact elaid_dsk hz hV
        · exact hV
        · exact hV
        · trivial
  · skip
    refine Steps1.cons (fun hin _ _ _ _ _ => out (by kernel_rfl) hin) (Steps1.cons (fun hin _ _ _ _ _ => out (by kernel_rfl) hin) (Steps1.cons (fun hin _ _ _ _ _ => out (by kernel_rfl) hin) (Steps1.cons (fun hin _ _ _ _ _ => out (by kernel_rfl) hin) (Steps1.cons (fun hin _ _ _ _ _ => out (by kernel_rfl) hin) (Steps1.cons (fun hin _ _ _ _ _ => out (by kernel_rfl) hin) (Steps1.cons (fun hin _ _ _ _ _ => out (by kernel_rfl) hin) (Steps1.cons (fun _ ax wx hS hJ hG => ?_) (Steps1.cons (fun hin _ _ _ _ _ => out (by kernel_rfl) hin) (Steps1.cons (fun _ ax wx hS hJ hG => ?_) Steps1.nil)))))))))
    · obtain ⟨v17, q17, h17⟩ := hG.new 17 (by kernel_rfl) (by kernel_rfl)
      obtain ⟨A3, c3, B3, d3, rfl, hdv⟩ : TupE n m2 E S W2 wx v17 := h17
      refine step_slot rfl rfl rfl (step_value (v := .int .i64 E) (w' := wx) rfl rfl ?_ (Below.refl _ _) (fun d hd => by cases hd; exact rfl))
      clear hdv
      go_simp
    · obtain ⟨_, q19, rfl⟩ := hG.new 19 (by kernel_rfl) (by kernel_rfl)
      refine step_slot rfl rfl rfl (step_value (v := .int .i64 E) (w' := wx) rfl rfl ?_ (Below.refl _ _) (fun d hd => by cases hd; exact rfl))
      go_simp
  intro f wz hS _ hV
  have e5 : f 7 = .int .i64 E := hV 7 (by decide)
  obtain ⟨hbz, A3, c3, B3, d3, hd3, hv3⟩ := hS.2 (by decide)
  simp only [puts, Act.put, List.setIfInBounds_toArray, List.set_cons_succ, List.set_cons_zero]
  clear hV hS
  rw [e5]
  obtain ⟨p0, p1⟩ := EBlk.cells hd3
  go_wp2
  exact bodyPost_ret (v := .tuple #[.agg #[.slice A3 n c3, .slice B3 m2 d3], .int .i64 E]) (by simp [results, Try.results26, go_sem, p0, p1]) rfl ⟨_, rfl, hv3, hbz⟩

def Wr7V (n m2 : Nat) (E : Int) (D P R : Value) (k : Nat) (s : ByteArray) (S : List ByteArray) (W2 : List Wr) (t : Nat) (v : Value) (w : World) : Prop :=
  match t with
  | 12 => v = D
  | 13 => v = P
  | 14 => v = .int .i64 k
  | 15 => v = .int .i64 ((k : Int) % 2)
  | 16 => v = R
  | 17 => v = .string s
  | 18 => TupE n m2 E S W2 w v
  | 19 => Dsk n m2 S W2 w v
  | 20 => v = .int .i64 E
  | 5 => v = .int .i64 E
  | _ => True
theorem Wr7V.on {n m2 : Nat} {E : Int} {D P R : Value} {k : Nat} {s : ByteArray} {S : List ByteArray} {W2 : List Wr} {t : Nat} {v : Value} {w w' : World} (h : Wr7V n m2 E D P R k s S W2 t v w) (hb : Below w.heap.size w w') : Wr7V n m2 E D P R k s S W2 t v w' := by
  unfold Wr7V at *
  split at h <;> first | exact h | exact TupE.on h hb | exact Dsk.on h hb | exact SV.on h hb

set_option maxHeartbeats 4000000 in
set_option maxRecDepth 100000 in
theorem dwrite_any {v : Value} {S : List ByteArray} {W : List Wr} (r : Rt) {w : World} (h : DZ w v S W) (hn : S.length ≤ 1000000) (hm : W.length ≤ 100000) :
    Calls Try.prog 12 #[v, r.v] w fun e w' => ∃ v', e = .returned (.tuple #[v', .int .i64 (wrE S W r)]) ∧ DV w' v' S (wrW S W r) ∧ Below w.heap.size w w' := by
  have HRT := Lib.hid (fun wx => drright_any r wx)
  have HV0 := Lib.hid h.dv
  have HWB := Lib.hid (fun (hr : rtB r = true) (wx : World) (hx : Below w.heap.size w wx) => dwrite6_rt r (h.on hx) hn hm hr)
  have HTX0 := Lib.hid (fun (hr : rtB r = true) (wx : World) => drtext_ok r wx hr)
  have HDN := Lib.hid (show rtB r = false → wrE S W r = 1 ∧ wrW S W r = W from fun hr => by unfold wrE wrW rtOk; rw [hr]; exact ⟨rfl, rfl⟩)
  have HGP := Lib.hid (show rtB r = true → 0 ≤ r.g from fun hr => (rt_parts hr).1.1)
  obtain ⟨A, c, B, d, rfl, hA, hB, hzz⟩ := h
  obtain ⟨E, hE⟩ : ∃ E, E = wrE S W r := ⟨_, rfl⟩
  obtain ⟨W2, hW2⟩ : ∃ W2, W2 = wrW S W r := ⟨_, rfl⟩
  obtain ⟨s, hs⟩ : ∃ s, s = rtS r := ⟨_, rfl⟩
  obtain ⟨br, hbr⟩ : ∃ br, br = rtB r := ⟨_, rfl⟩
  rw [← hE, ← hW2, ← hs] at HWB
  rw [← hE, ← hW2] at HDN ⊢
  rw [← hs] at HTX0
  rw [← hbr] at HRT HTX0 HWB HDN HGP
  clear hE hW2 hs hbr hn hm hA hB hzz
  obtain ⟨x, y, z⟩ := r
  simp only [Rt.v] at HTX0 HRT HWB HGP ⊢
  obtain ⟨n, hnn⟩ : ∃ n, n = S.length := ⟨_, rfl⟩
  have HNN := Lib.hid hnn
  rw [← hnn] at HWB HV0 ⊢
  generalize W.length = m at *
  clear hnn
  have hb0 : Below w.heap.size w (((w.alloc (.cells #[.slice A n c, .slice B m d] 30)).alloc (.cells #[.int .i64 x, .int .i64 y, .int .i64 z] 39)).alloc (.cells #[.slice none 0 0, .slice none 0 0] 30)) := (below_two w _ _).alloc (below_two w _ _).size _
  have HD0 := Lib.hid (show EBlk (((w.alloc (.cells #[.slice A n c, .slice B m d] 30)).alloc (.cells #[.int .i64 x, .int .i64 y, .int .i64 z] 39)).alloc (.cells #[.slice none 0 0, .slice none 0 0] 30)) w.heap.size (.slice A n c) (.slice B m d) from Box.push (Box.push (Box.fresh _ _ _) _) _)
  have HR0 := Lib.hid (show RBlk2 (((w.alloc (.cells #[.slice A n c, .slice B m d] 30)).alloc (.cells #[.int .i64 x, .int .i64 y, .int .i64 z] 39)).alloc (.cells #[.slice none 0 0, .slice none 0 0] 30)) (w.heap.size + 1) ⟨x, y, z⟩ from Box.push (Box.at_ (w.alloc _) _ _ (by simp)) _)
  have HZ0 := Lib.hid (show EBlk (((w.alloc (.cells #[.slice A n c, .slice B m d] 30)).alloc (.cells #[.int .i64 x, .int .i64 y, .int .i64 z] 39)).alloc (.cells #[.slice none 0 0, .slice none 0 0] 30)) (w.heap.size + 1 + 1) (.slice none 0 0) (.slice none 0 0) from Box.at_ ((w.alloc _).alloc _) _ _ (by simp))
  have HB0 := Lib.hid hb0
  clear hb0
  go_enter Try.func12, Try.ntmps12
  go_wp2_with fail
  refine (HRT.out _).mono ?_
  rintro e w3 ⟨rfl, hb1⟩
  have HB3 := Lib.hid (HB0.out.trans (hb1.mono HB0.out.size))
  have HD3 := Lib.hid (show EBlk w3 w.heap.size (.slice A n c) (.slice B m d) from Box.on HD0.out hb1)
  have HR3 := Lib.hid (show RBlk2 w3 (w.heap.size + 1) ⟨x, y, z⟩ from Box.on HR0.out hb1)
  have HZ3 := Lib.hid (show EBlk w3 (w.heap.size + 1 + 1) (.slice none 0 0) (.slice none 0 0) from Box.on HZ0.out hb1)
  have hz1 := Box.lt HD3.out
  have hz2 := Box.lt HR3.out
  have hz3 := Box.lt HZ3.out
  clear hb1 HB0 HD0 HR0 HZ0
  cases br with
  | false =>
    obtain ⟨rfl, rfl⟩ := HDN.out (by trivial)
    have f0 := Box.free HZ3.out 0
    have f1 := Box.free HZ3.out 1
    obtain ⟨k0, k1⟩ := EBlk.cells HZ3.out
    obtain ⟨d0, d1⟩ := EBlk.cells HD3.out
    clear HWB HDN
    go_wp2
    have hp : EBlk ((w3.setCell ⟨w.heap.size + 1 + 1, 0, none⟩ (.slice A n c)).setCell ⟨w.heap.size + 1 + 1, 1, none⟩ (.slice B m d)) (w.heap.size + 1 + 1) (.slice A n c) (.slice B m d) := Box.set (Box.set HZ3.out 0 _) 1 _
    have hp2 := EBlk.cells hp
    have hbz := (HB3.out.setCell (p := ⟨w.heap.size + 1 + 1, 0, none⟩) (by simp only; omega) (.slice A n c)).setCell (p := ⟨w.heap.size + 1 + 1, 1, none⟩) (by simp only; omega) (.slice B m d)
    have hdv := (HV0.out.on HB3.out).eapart HZ3.out A n c B m d
    exact bodyPost_ret (v := .tuple #[.agg #[.slice A n c, .slice B m d], .int .i64 1]) (by simp [results, Try.results12, go_sem, hp2.1, hp2.2]) rfl ⟨_, rfl, hdv, hbz⟩
  | true =>
  obtain ⟨k, rfl⟩ := Int.eq_ofNat_of_zero_le (HGP.out (by trivial))
  obtain ⟨r0, r1, r2⟩ := RBlk2.cells HR3.out
  go_wp2
  clear hz1 hz2 hz3 r0 r1 r2
  obtain ⟨m2, hm2⟩ : ∃ m2, m2 = W2.length := ⟨_, rfl⟩
  have HC1 := Lib.hid (fun (wx : World) (hx : Below w3.heap.size w3 wx) => EBlk.cells (show EBlk wx w.heap.size (.slice A n c) (.slice B m d) from Box.on HD3.out hx))
  have HC2 := Lib.hid (fun (wx : World) (hx : Below w3.heap.size w3 wx) => RBlk2.cells (show RBlk2 wx (w.heap.size + 1) ⟨k, y, z⟩ from Box.on HR3.out hx))
  have HBW := Lib.hid (fun (wx : World) (hx : Below w3.heap.size w3 wx) => HB3.out.trans (hx.mono HB3.out.size))
  have HTX := Lib.hid (fun (wx : World) => HTX0.out (by trivial) wx)
  have HPU := Lib.hid (fun (wx : World) (hx : Below w3.heap.size w3 wx) => show Calls Try.prog 26 #[.agg #[.slice A n c, .slice B m d], .int .i64 ((k : Int) % 2), .string s] wx fun e w' => ∃ v', e = .returned v' ∧ TupE n m2 E S W2 w' v' ∧ Below wx.heap.size wx w' by
    refine (HWB.out (by trivial) wx (HBW.out wx hx)).mono ?_
    rintro e w' ⟨v', rfl, ⟨A3, c3, B3, d3, rfl, hA3, hB3⟩, hb⟩
    have hdv : DV w' _ S W2 := ⟨A3, c3, B3, d3, rfl, hA3, hB3⟩
    rw [← HNN.out, ← hm2] at hdv ⊢
    exact ⟨_, rfl, ⟨A3, c3, B3, d3, rfl, hdv⟩, hb⟩)
  have htm : (k : Int).tmod 2 = (k : Int) % 2 := Int.tmod_eq_emod_of_nonneg (by omega)
  have HGB := Lib.hid (show w.heap.size ≤ w.heap.size + 1 + 1 by omega)
  generalize hg : w.heap.size + 1 + 1 = g at *
  have HZ := Lib.hid (fun (wx : World) (hx : Below w3.heap.size w3 wx) => show EBlk wx g (.slice none 0 0) (.slice none 0 0) from Box.on HZ3.out hx)
  clear HWB HTX0 hg
  refine wp_region_phase 11 [12, 13, 14, 15, 16, 17, 18, 19, 20, 5] (by kernel_rfl) [9] [] (fun _ _ => True) 1 rfl (by kernel_rfl) (WrSE w w3 g n m2 S W2) (fun wa wb => Below wa.heap.size wa wb) (fun _ => Wr7V n m2 E (.agg #[.slice A n c, .slice B m d]) (.pointer (some ⟨w.heap.size + 1, 0, none⟩)) (.agg #[.int .i64 k, .int .i64 y, .int .i64 z]) k s S W2) (by kernel_rfl) (fun _ wa wb h1 h2 => h2.on h1) (fun _ t v wa wb h1 h2 => h2.on h1) (fun _ _ _ _ _ _ _ => trivial) ⟨fun _ => (Below.refl _ _).drew, fun h => absurd h (by decide)⟩ trivial (phase1 ?_ ?_) ?_
  · skip
    refine Steps1.cons (fun _ ax wx hS hJ hG => ?_) (Steps1.cons (fun _ ax wx hS hJ hG => ?_) (Steps1.cons (fun _ ax wx hS hJ hG => ?_) (Steps1.cons (fun _ ax wx hS hJ hG => ?_) (Steps1.cons (fun _ ax wx hS hJ hG => ?_) (Steps1.cons (fun _ ax wx hS hJ hG => ?_) (Steps1.cons (fun _ ax wx hS hJ hG => ?_) (Steps1.cons (fun _ ax wx hS hJ hG => ?_) (Steps1.cons (fun _ ax wx hS hJ hG => ?_) (Steps1.cons (fun _ ax wx hS hJ hG => ?_) (Steps1.cons (fun hin _ _ _ _ _ => out (by kernel_rfl) hin) Steps1.nil))))))))))
    · have q2 := hG.old 2 (by kernel_rfl) (by kernel_rfl)
      obtain ⟨z0, z1⟩ := HC1.out wx (hS.1 rfl)
      refine step_slot rfl rfl rfl (step_value (v := .agg #[.slice A n c, .slice B m d]) (w' := wx) rfl rfl ?_ (Below.refl _ _) (fun d hd => by cases hd; exact rfl))
      go_simp
    · have q3 := hG.old 3 (by kernel_rfl) (by kernel_rfl)
      refine step_slot rfl rfl rfl (step_value (v := .pointer (some ⟨w.heap.size + 1, 0, none⟩)) (w' := wx) rfl rfl ?_ (Below.refl _ _) (fun d hd => by cases hd; exact rfl))
      go_simp
    · obtain ⟨_, q13, rfl⟩ := hG.new 13 (by kernel_rfl) (by kernel_rfl)
      obtain ⟨z0, z1, z2⟩ := HC2.out wx (hS.1 rfl)
      refine step_slot rfl rfl rfl (step_value (v := .int .i64 k) (w' := wx) rfl rfl ?_ (Below.refl _ _) (fun d hd => by cases hd; exact rfl))
      go_simp
    · obtain ⟨_, q14, rfl⟩ := hG.new 14 (by kernel_rfl) (by kernel_rfl)
      refine step_slot rfl rfl rfl (step_value (v := .int .i64 ((k : Int) % 2)) (w' := wx) rfl rfl ?_ (Below.refl _ _) (fun d hd => by cases hd; exact rfl))
      go_simp
    · have q3 := hG.old 3 (by kernel_rfl) (by kernel_rfl)
      obtain ⟨z0, z1, z2⟩ := HC2.out wx (hS.1 rfl)
      refine step_slot rfl rfl rfl (step_value (v := .agg #[.int .i64 k, .int .i64 y, .int .i64 z]) (w' := wx) rfl rfl ?_ (Below.refl _ _) (fun d hd => by cases hd; exact rfl))
      go_simp
    · obtain ⟨_, q16, rfl⟩ := hG.new 16 (by kernel_rfl) (by kernel_rfl)
      refine step_slot rfl rfl rfl (step_call (w1 := wx) (f := 27) (args := #[.agg #[.int .i64 k, .int .i64 y, .int .i64 z]]) rfl rfl ?_ ((HTX.out wx).mono ?_))
      · skip
        go_simp
      · rintro e w' ⟨rfl, hq⟩
        exact ⟨_, rfl, hq, fun d hd => by cases hd; exact rfl⟩
    · obtain ⟨_, q12, rfl⟩ := hG.new 12 (by kernel_rfl) (by kernel_rfl)
      obtain ⟨_, q15, rfl⟩ := hG.new 15 (by kernel_rfl) (by kernel_rfl)
      obtain ⟨_, q17, rfl⟩ := hG.new 17 (by kernel_rfl) (by kernel_rfl)
      refine step_slot rfl rfl rfl (step_call (w1 := wx) (f := 26) (args := #[.agg #[.slice A n c, .slice B m d], .int .i64 ((k : Int) % 2), .string s]) rfl rfl ?_ ((HPU.out wx (hS.1 rfl)).mono ?_))
      · skip
        go_simp
      · rintro e w' ⟨v', rfl, hv, hq⟩
        exact ⟨_, rfl, hq, fun d hd => by cases hd; exact hv⟩
    · obtain ⟨v18, q18, h18⟩ := hG.new 18 (by kernel_rfl) (by kernel_rfl)
      obtain ⟨A3, c3, B3, d3, rfl, hdv⟩ : TupE n m2 E S W2 wx v18 := h18
      refine step_slot rfl rfl rfl (step_value (v := .agg #[.slice A3 n c3, .slice B3 m2 d3]) (w' := wx) rfl rfl ?_ (Below.refl _ _) (fun d hd => by cases hd; exact ⟨A3, c3, B3, d3, rfl, hdv⟩))
      clear hdv
      go_simp
    · obtain ⟨v18, q18, h18⟩ := hG.new 18 (by kernel_rfl) (by kernel_rfl)
      obtain ⟨A3, c3, B3, d3, rfl, hdv⟩ : TupE n m2 E S W2 wx v18 := h18
      refine step_slot rfl rfl rfl (step_value (v := .int .i64 E) (w' := wx) rfl rfl ?_ (Below.refl _ _) (fun d hd => by cases hd; exact rfl))
      clear hdv
      go_simp
    · have q4 := hG.old 4 (by kernel_rfl) (by kernel_rfl)
      obtain ⟨v19, q19, h19⟩ := hG.new 19 (by kernel_rfl) (by kernel_rfl)
      obtain ⟨A3, c3, B3, d3, rfl, hdv⟩ : Dsk n m2 S W2 wx v19 := h19
      have hz : EBlk wx g (.slice none 0 0) (.slice none 0 0) := HZ.out wx (hS.1 rfl)
      have hlt := Box.lt hz
      have f0 := Box.free hz 0
      have f1 := Box.free hz 1
      obtain ⟨k0, k1⟩ := EBlk.cells hz
      refine step_store (w' := laidD wx g A3 n c3 B3 m2 d3) rfl rfl rfl rfl ?_ ⟨fun h => absurd h (by decide), fun _ => ⟨laid_below (HBW.out wx (hS.1 rfl)) HGB.out, A3, c3, B3, d3, Box.set (Box.set hz 0 _) 1 _, hdv.eapart hz _ _ _ _ _ _⟩⟩ trivial ?_
      · clear hdv hz hJ hS
        unfold laidD
        go_simp
      · intro t u _ hu hV
        unfold Wr7V at hV ⊢
        split at hV
        · exact hV
        · exact hV
        · exact hV
        · exact hV
        · exact hV
        · exact hV
        · exact elaid_tupE hz hV
        · exact elaid_dsk hz hV
        · exact hV
        · exact hV
        · trivial
  · skip
    refine Steps1.cons (fun hin _ _ _ _ _ => out (by kernel_rfl) hin) (Steps1.cons (fun hin _ _ _ _ _ => out (by kernel_rfl) hin) (Steps1.cons (fun hin _ _ _ _ _ => out (by kernel_rfl) hin) (Steps1.cons (fun hin _ _ _ _ _ => out (by kernel_rfl) hin) (Steps1.cons (fun hin _ _ _ _ _ => out (by kernel_rfl) hin) (Steps1.cons (fun hin _ _ _ _ _ => out (by kernel_rfl) hin) (Steps1.cons (fun hin _ _ _ _ _ => out (by kernel_rfl) hin) (Steps1.cons (fun hin _ _ _ _ _ => out (by kernel_rfl) hin) (Steps1.cons (fun _ ax wx hS hJ hG => ?_) (Steps1.cons (fun hin _ _ _ _ _ => out (by kernel_rfl) hin) (Steps1.cons (fun _ ax wx hS hJ hG => ?_) Steps1.nil))))))))))
    · obtain ⟨v18, q18, h18⟩ := hG.new 18 (by kernel_rfl) (by kernel_rfl)
      obtain ⟨A3, c3, B3, d3, rfl, hdv⟩ : TupE n m2 E S W2 wx v18 := h18
      refine step_slot rfl rfl rfl (step_value (v := .int .i64 E) (w' := wx) rfl rfl ?_ (Below.refl _ _) (fun d hd => by cases hd; exact rfl))
      clear hdv
      go_simp
    · obtain ⟨_, q20, rfl⟩ := hG.new 20 (by kernel_rfl) (by kernel_rfl)
      refine step_slot rfl rfl rfl (step_value (v := .int .i64 E) (w' := wx) rfl rfl ?_ (Below.refl _ _) (fun d hd => by cases hd; exact rfl))
      go_simp
  intro f wz hS _ hV
  have e5 : f 5 = .int .i64 E := hV 5 (by decide)
  obtain ⟨hbz, A3, c3, B3, d3, hd3, hv3⟩ := hS.2 (by decide)
  simp only [puts, Act.put, List.setIfInBounds_toArray, List.set_cons_succ, List.set_cons_zero]
  clear hV hS
  rw [e5]
  obtain ⟨p0, p1⟩ := EBlk.cells hd3
  go_wp2
  exact bodyPost_ret (v := .tuple #[.agg #[.slice A3 n c3, .slice B3 m2 d3], .int .i64 E]) (by simp [results, Try.results12, go_sem, p0, p1]) rfl ⟨_, rfl, hv3, hbz⟩

end Go.Proofs.Ythcolmdfpciolaa
