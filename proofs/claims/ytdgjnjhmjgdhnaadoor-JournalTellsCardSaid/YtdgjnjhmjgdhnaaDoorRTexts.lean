/- The walks of the document's Texts and Append of layer 8. -/
import Derived.Test.YtdgjnjhmjgdhnaaDoorRParse
import Derived.Test.YtdgjnjhmjgdhnaaDoorRCut
import Derived.Test.YtdgjnjhmjgdhnaaDoorRPut
import Derived.Test.YtdgjnjhmjgdhnaaDoorWTexts
namespace Go.Proofs.YtdgjnjhmjgdhnaaDoor
open Go.RowKit

/-! A document's disk stored in a block of its own: content tells blocks apart. -/
theorem ecell_apart {w : World} {g : Nat} {A : Option Addr} {n c : Nat} {B : Option Addr} {m d : Nat} (h : EBlk w g (.slice A n c) (.slice B m d)) {p : Addr} {v : Value} (hv : w.cell? p = some v) (hs : ∀ x y z, v ≠ .slice x y z) : p.block ≠ g := by
  intro e
  have h1 : w.heap[p.block]? = some (.cells #[.slice A n c, .slice B m d] 39 (0, 0)) := by rw [e]; exact h
  unfold World.cell? at hv
  rw [h1] at hv
  rcases Nat.lt_or_ge p.off 2 with ho | ho
  · rcases (by omega : p.off = 0 ∨ p.off = 1) with h0 | h0 <;> (simp [h0] at hv; exact hs _ _ _ hv.2.symm)
  · simp [ho] at hv
theorem Strs.eapart {w : World} {B0 g : Nat} {A0 : Option Addr} {l : List ByteArray} {A : Option Addr} {n c : Nat} {B : Option Addr} {m d : Nat} (h : Strs w B0 A0 l) (hd : EBlk w g (.slice A n c) (.slice B m d)) (i : Nat) (v : Value) : Strs (w.setCell ⟨g, i, none⟩ v) B0 A0 l := fun hl => by
  obtain ⟨ad, e, hB, hc⟩ := h hl
  refine ⟨ad, e, hB, fun j hj => (World.cell?_of_block (Below.heap_setCell w _ v _ ?_)).trans (hc j hj)⟩
  exact ecell_apart hd (hc j hj) (by intro x y z; simp)
theorem Wrs.eapart {w : World} {B0 g : Nat} {A0 : Option Addr} {l : List Wr} {A : Option Addr} {n c : Nat} {B : Option Addr} {m d : Nat} (h : Wrs w B0 A0 l) (hd : EBlk w g (.slice A n c) (.slice B m d)) (i : Nat) (v : Value) : Wrs (w.setCell ⟨g, i, none⟩ v) B0 A0 l := fun hl => by
  obtain ⟨ad, e, hB, hc⟩ := h hl
  refine ⟨ad, e, hB, fun j hj k u hu => (World.cell?_of_block (Below.heap_setCell w _ v _ ?_)).trans (hc j hj k u hu)⟩
  have h1 := ecell_apart hd (hc j hj 1 (.string l[j].tx) rfl) (by intro x y z; simp)
  rw [block_of_add, block_of_add] at h1 ⊢
  exact h1
theorem DV.eapart {w : World} {g : Nat} {v : Value} {S : List ByteArray} {W : List Wr} {A : Option Addr} {n c : Nat} {B : Option Addr} {m d : Nat} (h : DV w v S W) (hd : EBlk w g (.slice A n c) (.slice B m d)) (A' : Option Addr) (n' c' : Nat) (B' : Option Addr) (m' d' : Nat) : DV ((w.setCell ⟨g, 0, none⟩ (.slice A' n' c')).setCell ⟨g, 1, none⟩ (.slice B' m' d')) v S W := by
  obtain ⟨A0, c0, B0, d0, e, h1, h2⟩ := h
  have hd2 : EBlk (w.setCell ⟨g, 0, none⟩ (.slice A' n' c')) g (.slice A' n' c') (.slice B m d) := Box.set hd 0 _
  refine ⟨A0, c0, B0, d0, e, ?_, ?_⟩
  · simpa using (h1.eapart hd 0 _).eapart hd2 1 _
  · simpa using (Wrs.eapart (Wrs.eapart h2 hd 0 _) hd2 1 _)
theorem DV.z {w : World} {v : Value} {S : List ByteArray} {W : List Wr} (h : DV w v S W) (h0 : 0 < W.length) : DZ w v S W := by
  obtain ⟨A, c, B, d, e, h1, h2⟩ := h
  refine ⟨A, c, B, d, e, h1, h2, fun hB => ?_⟩
  obtain ⟨ad, hb, _⟩ := h2 h0
  rw [hB] at hb
  cases hb

theorem djread_ok {v : Value} {S : List ByteArray} {W : List Wr} {w : World} (h : DV w v S W) (hm : W.length ≤ 1000000) (hj : jB S W = true) :
    Calls Tryd.prog 38 #[v, .int .i64 2, .int .i64 128] w fun e w' => e = .returned (.tuple #[.string (flatS (jou S W)), .int .i64 0]) ∧ Below w.heap.size w w' := by
  obtain ⟨A, c, B, d, rfl, hA, hB⟩ := h
  exact dread_ok A c S B d W 2 128 w hA hB hm (jB_parts hj).1 (by have := (jB_parts hj).2; omega)
theorem djread_bad {v : Value} {S : List ByteArray} {W : List Wr} {w : World} (h : DV w v S W) (hn : S.length ≤ 1000000) (hm : W.length ≤ 1000000) (hj : jB S W = false) :
    Calls Tryd.prog 38 #[v, .int .i64 2, .int .i64 128] w fun e w' => e = .returned (.tuple #[.string ⟨#[]⟩, .int .i64 1]) ∧ Below w.heap.size w w' := by
  obtain ⟨A, c, B, d, rfl, hA, hB⟩ := h
  exact dread_bad A c S B d W 2 128 w hA hB hn hm (jB_no hj)
theorem djput_ok {v t : Value} {S : List ByteArray} {W : List Wr} {a : Nat} {l : List ByteArray} {w : World} (h : DZ w v S W) (ht : SV w t l) (hm : W.length ≤ 100000) (hl : l.length ≤ 100000) (hR : rightB S W = true) (hf : fillB l = true) (hh : a + l.length ≤ S.length) :
    Calls Tryd.prog 42 #[v, .int .i64 a, t] w fun e w' => ∃ v', e = .returned (.tuple #[v', .int .i64 0]) ∧ DV w' v' S (W ++ putL a l) ∧ Below w.heap.size w w' := by
  obtain ⟨A, c, B, d, rfl, hA, hB, hz⟩ := h
  obtain ⟨T, tc, rfl, hT⟩ := ht
  exact dput_ok A c S B d W a T tc l w hA hB hz hT hm hl hR hf hh

set_option maxHeartbeats 4000000 in
set_option maxRecDepth 100000 in
theorem dtexts_bad {v : Value} {S : List ByteArray} {W : List Wr} (g : Int) {w : World} (h : DV w v S W) (hn : S.length ≤ 1000000) (hm : W.length ≤ 1000000) (hj : jB S W = false) :
    Calls Tryd.prog 20 #[v, .int .i64 g] w fun e w' => e = .returned (.tuple #[.slice none 0 0, .int .i64 0, .int .i64 1]) ∧ Below w.heap.size w w' := by
  have HRD := Lib.hid (fun (wx : World) (hb : Below w.heap.size w wx) => djread_bad (h.on hb) hn hm hj)
  obtain ⟨A, c, B, d, rfl, hA, hB⟩ := h
  have HB0 := Lib.hid ((Below.refl w.heap.size w).alloc (Nat.le_refl _) (.cells #[.slice A S.length c, .slice B W.length d] 39))
  generalize S.length = n at *
  generalize W.length = m at *
  clear hA hB hj hn hm
  have hrd := HRD.out _ HB0.out
  clear HRD
  go_enter Tryd.func20, Tryd.ntmps20
  go_wp2_with fail
  refine hrd.mono ?_
  rintro e w1 ⟨rfl, hb1⟩
  have HB1 := Lib.hid (HB0.out.trans (hb1.mono HB0.out.size))
  clear hb1 hrd
  go_wp2
  exact bodyPost_ret (v := .tuple #[.slice none 0 0, .int .i64 0, .int .i64 1]) (by simp [results, Tryd.results20, go_sem]) rfl ⟨rfl, HB1.out⟩

set_option maxHeartbeats 4000000 in
set_option maxRecDepth 100000 in
theorem dtexts_ok {v : Value} {S : List ByteArray} {W : List Wr} (g : Int) {w : World} (h : DV w v S W) (hm : W.length ≤ 1000000) (hj : jB S W = true) :
    Calls Tryd.prog 20 #[v, .int .i64 g] w fun e w' => ∃ v' ts, e = .returned (.tuple #[v', .int .i64 (needs ts : Nat), .int .i64 0]) ∧ RowV w' v' ts ∧ ToldP g (jou S W) ts ∧ Below w.heap.size w w' := by
  have HRD := Lib.hid (fun (wx : World) (hb : Below w.heap.size w wx) => djread_ok (h.on hb) hm hj)
  have hz := jou_size hj
  have hct := fun wx => dcut_any (flatS (jou S W)) wx (by rw [hz]; omega)
  rw [jou_cut (jB_parts hj).1] at hct
  have HCT := Lib.hid hct
  have HPA := Lib.hid (fun (wx : World) (x : Value) (hx : SV wx x (jou S W)) => dparse_any g (jou S W) wx hx (by rw [jou_len (jB_parts hj).2]; unfold maxLen; omega) (fun y hy => by rw [fill_mem (jou_fill (jB_parts hj).1) hy]; unfold maxLen; omega))
  obtain ⟨A, c, B, d, rfl, hA, hB⟩ := h
  have HB0 := Lib.hid ((Below.refl w.heap.size w).alloc (Nat.le_refl _) (.cells #[.slice A S.length c, .slice B W.length d] 39))
  generalize flatS (jou S W) = s at *
  obtain ⟨J, hJ⟩ : ∃ J, J = jou S W := ⟨_, rfl⟩
  rw [← hJ] at HCT HPA ⊢
  generalize S.length = n at *
  generalize W.length = m at *
  clear hA hB hj hm hct hJ
  have hrd := HRD.out _ HB0.out
  clear HRD
  go_enter Tryd.func20, Tryd.ntmps20
  go_wp2_with fail
  refine hrd.mono ?_
  rintro e w1 ⟨rfl, hb1⟩
  have HB1 := Lib.hid (HB0.out.trans (hb1.mono HB0.out.size))
  clear hb1 hrd
  go_wp2_with fail
  refine (HCT.out _).mono ?_
  rintro e w2 ⟨v2, rfl, hv2, hb2⟩
  have HB2 := Lib.hid (HB1.out.trans (hb2.mono HB1.out.size))
  have hpa := HPA.out _ _ hv2
  clear hv2 hb2 HPA
  go_wp2_with fail
  refine hpa.mono ?_
  rintro e w3 ⟨v3, ts, rfl, hv3, ht, hb3⟩
  have HB3 := Lib.hid (HB2.out.trans (hb3.mono HB2.out.size))
  have HV := Lib.hid hv3
  have HT := Lib.hid ht
  clear hpa hv3 hb3 ht
  obtain ⟨q, hq⟩ : ∃ q, q = needs ts := ⟨_, rfl⟩
  rw [← hq]
  have HQ := Lib.hid hq
  clear hq
  go_wp2
  exact bodyPost_ret (v := .tuple #[v3, .int .i64 q, .int .i64 0]) (by simp [results, Tryd.results20, go_sem]) rfl ⟨v3, ts, by rw [HQ.out], HV.out, HT.out, HB3.out⟩

/-- The two blocks of the document's Append: the disk that came, the place of the answer. -/
def ETwo (w : World) (g : Nat) (A : Option Addr) (n c : Nat) (B : Option Addr) (m d : Nat) : Prop := EBlk w g (.slice A n c) (.slice B m d) ∧ EBlk w (g + 1) (.slice none 0 0) (.slice none 0 0)
theorem ETwo.laid (w : World) (A : Option Addr) (n c : Nat) (B : Option Addr) (m d : Nat) :
    ETwo ((w.alloc (.cells #[.slice A n c, .slice B m d] 39)).alloc (.cells #[.slice none 0 0, .slice none 0 0] 39)) w.heap.size A n c B m d :=
  ⟨Box.push (Box.fresh _ _ _) _, Box.at_ (w.alloc _) _ _ (by simp)⟩
theorem ETwo.on {w w' : World} {g : Nat} {A : Option Addr} {n c : Nat} {B : Option Addr} {m d : Nat} (h : ETwo w g A n c B m d) (hb : Below w.heap.size w w') : ETwo w' g A n c B m d := ⟨Box.on h.1 hb, Box.on h.2 hb⟩
theorem eans_cells {w : World} {g : Nat} {x0 y0 : Value} (x y : Value) (h : EBlk w g x0 y0) :
    ((w.setCell ⟨g, 0, none⟩ x).setCell ⟨g, 1, none⟩ y).cell? ⟨g, 0, none⟩ = some x ∧ ((w.setCell ⟨g, 0, none⟩ x).setCell ⟨g, 1, none⟩ y).cell? ⟨g, 1, none⟩ = some y := by
  have h2 := Box.set (Box.set h 0 x) 1 y
  exact ⟨Box.cell h2 0 rfl, Box.cell h2 1 rfl⟩

set_option maxHeartbeats 4000000 in
set_option maxRecDepth 100000 in
theorem dappend_wrong {v : Value} {S : List ByteArray} {W : List Wr} (g a : Int) (t : Value) {w : World} (h : DV w v S W) (hn : S.length ≤ 1000000) (hm : W.length ≤ 1000000) (hj : (jB S W && gpB g a) = false) :
    Calls Tryd.prog 22 #[v, .int .i64 g, .int .i64 a, t] w fun e w' => e = .returned (.tuple #[v, .int .i64 a, .int .i64 1]) ∧ Below w.heap.size w w' := by
  have hrs : ∃ (s : ByteArray) (E : Int), (E ≠ 0 ∨ gpB g a = false) ∧ ∀ wx : World, Below w.heap.size w wx → Calls Tryd.prog 38 #[v, .int .i64 2, .int .i64 128] wx fun e w' => e = .returned (.tuple #[.string s, .int .i64 E]) ∧ Below wx.heap.size wx w' := by
    cases hb : jB S W with
    | false => exact ⟨⟨#[]⟩, 1, .inl (by decide), fun wx hx => djread_bad (h.on hx) hn hm hb⟩
    | true =>
      rw [hb] at hj
      exact ⟨_, 0, .inr (by simpa using hj), fun wx hx => djread_ok (h.on hx) hm hb⟩
  obtain ⟨s, E, hE, hrd0⟩ := hrs
  have HRD := Lib.hid hrd0
  have hmy := fun wx => dmay_any g a wx
  have HMY := Lib.hid hmy
  obtain ⟨A, c, B, d, rfl, hA, hB⟩ := h
  have HT := Lib.hid (ETwo.laid w A S.length c B W.length d)
  have HB0 := Lib.hid (below_two w (.cells #[.slice A S.length c, .slice B W.length d] 39) (.cells #[.slice none 0 0, .slice none 0 0] 39))
  generalize S.length = n at *
  generalize W.length = m at *
  generalize gpB g a = gp at *
  clear hA hB hj hn hm hrd0 hmy
  have hrd := HRD.out _ HB0.out
  clear HRD
  go_enter Tryd.func22, Tryd.ntmps22
  go_wp2_with fail
  refine hrd.mono ?_
  rintro e w1 ⟨rfl, hb1⟩
  have HT1 := Lib.hid (HT.out.on hb1)
  have HB1 := Lib.hid (HB0.out.trans (hb1.mono HB0.out.size))
  clear hb1 hrd
  go_wp2_with fail
  refine (HMY.out _).mono ?_
  rintro e w2 ⟨rfl, rfl⟩
  have hz1 : w.heap.size + 1 < w1.heap.size := Box.lt HT1.out.2
  have f0 := Box.free HT1.out.2 0
  have f1 := Box.free HT1.out.2 1
  obtain ⟨k0, k1⟩ := EBlk.cells HT1.out.2
  obtain ⟨d1, d2⟩ := EBlk.cells HT1.out.1
  by_cases h0 : E = 0
  · subst h0
    obtain rfl : gp = false := by rcases hE with h | h; (exact absurd rfl h); exact h
    go_wp2
    have hp := eans_cells (.slice A n c) (.slice B m d) HT1.out.2
    exact bodyPost_ret (v := .tuple #[.agg #[.slice A n c, .slice B m d], .int .i64 a, .int .i64 1]) (by simp [results, Tryd.results22, go_sem, hp.1, hp.2]) rfl ⟨rfl, (HB1.out.setCell (by simp) _).setCell (by simp) _⟩
  · have hne : (E != 0) = true := by simpa using h0
    go_wp2
    have hp := eans_cells (.slice A n c) (.slice B m d) HT1.out.2
    exact bodyPost_ret (v := .tuple #[.agg #[.slice A n c, .slice B m d], .int .i64 a, .int .i64 1]) (by simp [results, Tryd.results22, go_sem, hp.1, hp.2]) rfl ⟨rfl, (HB1.out.setCell (by simp) _).setCell (by simp) _⟩

end Go.Proofs.YtdgjnjhmjgdhnaaDoor
