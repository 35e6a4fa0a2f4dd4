/- The walk of 'awake', the fixed answer at each statement's end: it is true. -/
import Derived.Test.YtdgjnjhmjgdhnaaDoorJd
import Derived.Test.YtdgjnjhmjgdhnaaDoorWSame
namespace Go.Proofs.YtdgjnjhmjgdhnaaDoor
open Go.RowKit

/-- A disk's variable: its block, the disk that it holds, and what is below them. -/
structure Holds (w0 w : World) (g : Nat) (A : Option Addr) (n c : Nat) (B : Option Addr) (m d : Nat) (S : List ByteArray) (W : List Wr) : Prop where
  dv : DV w (.agg #[.slice A n c, .slice B m d]) S W
  blk : DBlk w g A n c B m d
  low : w0.heap.size ≤ g
  below : Below w0.heap.size w0 w
theorem Holds.on {w0 w w' : World} {g : Nat} {A : Option Addr} {n c : Nat} {B : Option Addr} {m d : Nat} {S : List ByteArray} {W : List Wr} (h : Holds w0 w g A n c B m d S W) (hb : Below w.heap.size w w') : Holds w0 w' g A n c B m d S W :=
  ⟨h.dv.on hb, Box.on h.blk hb, h.low, h.below.trans (hb.mono h.below.size)⟩
theorem Holds.fresh {w0 w : World} {A : Option Addr} {n c : Nat} {B : Option Addr} {m d : Nat} {S : List ByteArray} {W : List Wr} (h : DV w (.agg #[.slice A n c, .slice B m d]) S W) (hb : Below w0.heap.size w0 w) : Holds w0 (w.alloc (.cells #[.slice A n c, .slice B m d] 36)) w.heap.size A n c B m d S W :=
  ⟨h.on ((Below.refl _ _).alloc (Nat.le_refl _) _), Box.fresh _ _ _, hb.size, hb.alloc hb.size _⟩
theorem Holds.put {w0 w : World} {g : Nat} {A : Option Addr} {n c : Nat} {B : Option Addr} {m d : Nat} {S : List ByteArray} {W : List Wr} {A' : Option Addr} {n' c' : Nat} {B' : Option Addr} {m' d' : Nat} {S' : List ByteArray} {W' : List Wr} (h : Holds w0 w g A n c B m d S W) (hv : DV w (.agg #[.slice A' n' c', .slice B' m' d']) S' W') :
    Holds w0 ((w.setCell ⟨g, 0, none⟩ (.slice A' n' c')).setCell ⟨g, 1, none⟩ (.slice B' m' d')) g A' n' c' B' m' d' S' W' :=
  ⟨hv.apart h.blk A' n' c' B' m' d', Box.set (Box.set h.blk 0 _) 1 _, h.low, (h.below.setCell h.low _).setCell h.low _⟩

theorem strs_three (w : World) (t : TypeId) (x y z : ByteArray) : Strs (w.alloc (.cells #[.string x, .string y, .string z] t)) (w.alloc (.cells #[.string x, .string y, .string z] t)).heap.size (some ⟨w.heap.size, 0, none⟩) [x, y, z] := by
  intro _
  refine ⟨_, rfl, by simp, fun i hi => ?_⟩
  match i, hi with
  | 0, _ => simp [Addr.add]
  | 1, _ => simp [Addr.add]
  | 2, _ => simp [Addr.add]
theorem sv_three (w : World) (t : TypeId) (x y z : ByteArray) {g : Nat} (hg : g = w.heap.size) : SV (w.alloc (.cells #[.string x, .string y, .string z] t)) (.slice (some ⟨g, 0, none⟩) 3 3) [x, y, z] := by
  subst hg
  exact ⟨_, 3, rfl, strs_three w t x y z⟩
theorem sv_one (w : World) (t : TypeId) (x : ByteArray) {g : Nat} (hg : g = w.heap.size) : SV (w.alloc (.cells #[.string x] t)) (.slice (some ⟨g, 0, none⟩) 1 1) [x] := by
  subst hg
  refine ⟨_, 1, rfl, ?_⟩
  intro _
  refine ⟨_, rfl, by simp, fun i hi => ?_⟩
  match i, hi with
  | 0, _ => simp [Addr.add]

def abS : ByteArray := ⟨#[97, 98]⟩
def moS : ByteArray := ⟨#[97, 32, 116, 101, 120, 116, 32, 116, 104, 97, 116, 32, 104, 97, 115, 32, 109, 111, 114, 101, 32, 116, 104, 97, 110, 32, 97, 32, 112, 105, 101, 99, 101]⟩
def awT : List ByteArray := [abS, ⟨#[]⟩, moS]
def awW : List Wr := [] ++ putL (2 + ((needs [] : Nat) : Int)) (chainL 1 (needs []) awT)
theorem aw_needs : needs awT = 4 := by decide +kernel
theorem aw_size : ∀ t ∈ awT, t.size ≤ 1000 := by decide +kernel
theorem aw_len : awW.length = 4 := by unfold awW; rw [List.nil_append, put_len, chain_len, aw_needs]
theorem aw_j0 : jB S0 [] = true := jB_of S0_right (by rw [S0_len]; exact Nat.le_refl _)
theorem aw_right : rightB S0 awW = true := ch_right S0_right (by rw [S0_len]; exact Nat.le_refl _) (by decide +kernel)
theorem aw_j1 : jB S0 awW = true := jB_of aw_right (by rw [S0_len]; exact Nat.le_refl _)
theorem aw_stand : Stand 1 (jou S0 awW) awT := by
  have h := Stand.append (S := S0) (W := []) (g := 1) (ts := []) (us := awT) (by rw [S0_len]; exact Nat.le_refl _) (Stand.nil (jou_len (by rw [S0_len]; exact Nat.le_refl _)) (bare_zero (by decide) (by decide))) aw_size (by decide +kernel)
  exact h
theorem aw_bare : Bare 2 (jou S0 awW) := bare_other (by rw [S0_len]; exact Nat.le_refl _) (by decide) (by decide) (by decide) (by decide +kernel) (bare_zero (by decide) (by decide))

theorem S0_ge : 130 ≤ S0.length := by rw [S0_len]; exact Nat.le_refl _
theorem aw_jl : (jou S0 awW).length ≤ 128 := by rw [jou_len S0_ge]; exact Nat.le_refl _
theorem aw_to1 (ts : List ByteArray) : ToldP 1 (jou S0 awW) ts ↔ Told 1 0 (jou S0 awW) ts := ToldP.of (g := 1) (l := jou S0 awW) (ts := ts) (by omega) (by omega) aw_jl
theorem aw_to2 (ts : List ByteArray) : ToldP 2 (jou S0 awW) ts ↔ Told 2 0 (jou S0 awW) ts := ToldP.of (g := 2) (l := jou S0 awW) (ts := ts) (by omega) (by omega) aw_jl
theorem aw_new (w : World) : Calls Tryd.prog 24 #[.int .i64 130] w fun e w' => ∃ v', e = .returned (.tuple #[v', .int .i64 0]) ∧ DV w' v' S0 [] ∧ Below w.heap.size w w' := new_ok 130 w (by decide) (by decide)
theorem aw_append {v t : Value} {w : World} (h : DV w v S0 []) (ht : SV w t awT) :
    Calls Tryd.prog 21 #[v, .int .i64 1, .int .i64 0, t] w fun e w' => ∃ v', e = .returned (.tuple #[v', .int .i64 4, .int .i64 0]) ∧ DV w' v' S0 awW ∧ Below w.heap.size w w' := by
  have h1 := append_ok 1 0 awT h ht (by decide) aw_size (by decide) aw_j0 (by decide +kernel)
  rw [aw_needs] at h1
  exact h1
theorem aw_full {v t : Value} {w : World} (h : DV w v S0 awW) (ht : SV w t [⟨#[]⟩]) :
    Calls Tryd.prog 21 #[v, .int .i64 1, .int .i64 128, t] w fun e w' => e = .returned (.tuple #[v, .int .i64 128, .int .i64 6]) ∧ Below w.heap.size w w' := by
  have h1 := append_bad 1 128 [⟨#[]⟩] h ht (by decide) (by decide +kernel) (by rw [aw_len]; decide) aw_j1 (by decide +kernel)
  rw [show chE 1 128 [⟨#[]⟩] = 6 by decide +kernel] at h1
  exact h1
set_option maxRecDepth 100000 in
theorem aw_texts1 {v : Value} {w : World} (h : DV w v S0 awW) :
    Calls Tryd.prog 19 #[v, .int .i64 1] w fun e w' => ∃ v', e = .returned (.tuple #[v', .int .i64 4, .int .i64 0]) ∧ RowV w' v' awT ∧ Below w.heap.size w w' := by
  refine (texts_ok 1 h (by rw [aw_len]; decide) aw_j1).mono ?_
  rintro e w' ⟨v', ts, rfl, hv, ht, hb⟩
  have e1 := Told.only aw_stand.told ((aw_to1 ts).1 ht)
  subst e1
  rw [aw_needs]
  exact ⟨v', rfl, hv, hb⟩
set_option maxRecDepth 100000 in
theorem aw_texts2 {v : Value} {w : World} (h : DV w v S0 awW) :
    Calls Tryd.prog 19 #[v, .int .i64 2] w fun e w' => (∃ A c, e = .returned (.tuple #[.slice A 0 c, .int .i64 0, .int .i64 0])) ∧ Below w.heap.size w w' := by
  refine (texts_ok 2 h (by rw [aw_len]; decide) aw_j1).mono ?_
  rintro e w' ⟨v', ts, rfl, ⟨A, c, rfl, _, _⟩, ht, hb⟩
  have e1 := Told.only (bare_none aw_bare) ((aw_to2 ts).1 ht)
  subst e1
  exact ⟨⟨A, c, rfl⟩, hb⟩
def pcA : ByteArray := pcS 1 5 [97, 98]
theorem pcA_size : pcA.size = 32 := pcS_size _ _ _
theorem pcA_head : pcA.extract 0 10 = ⟨#[0, 0, 0, 1, 0, 5, 0, 2, 97, 98]⟩ := by decide +kernel
theorem aw_pieces (w : World) : Calls Tryd.prog 11 #[.int .i64 1, .int .i64 5, .string ⟨#[97, 98]⟩] w fun e w' => ∃ A c, e = .returned (.tuple #[.slice (some A) 1 c, .int .i64 0]) ∧ w'.cell? A = some (.string pcA) ∧ Below w.heap.size w w' := by
  refine (pieces_ok 1 5 ⟨#[97, 98]⟩ w (by decide) (by decide) (by decide) (by decide) (by decide +kernel)).mono ?_
  rintro e w' ⟨v', rfl, ⟨A, c, rfl, hs, _⟩, hb⟩
  have e1 : recL 1 5 (⟨#[97, 98]⟩ : ByteArray).data.toList = [pcA] := rec_small 1 5 (by decide)
  rw [e1] at hs ⊢
  obtain ⟨ad, rfl, _, hc⟩ := hs (by simp)
  have h0 := hc 0 (by simp)
  rw [show ad.add 0 = ad by unfold Addr.add; split <;> simp_all] at h0
  exact ⟨ad, c, rfl, h0, hb⟩
theorem aw_same {v t : Value} {w : World} (h : SV w v awT) (ht : SV w t awT) :
    Calls Tryd.prog 15 #[v, t] w fun e w' => e = .returned (.bool true) ∧ Below w.heap.size w w' := by
  obtain ⟨A, c, rfl, hA⟩ := h
  obtain ⟨B, d, rfl, hB⟩ := ht
  have h1 := same_any A B c d awT awT w hA hB (by decide) (by decide)
  rw [decide_eq_true rfl] at h1
  exact h1
theorem aw_need (w : World) : Calls Tryd.prog 16 #[.int .i64 25] w fun e w' => e = .returned (.int .i64 2) ∧ w = w' := needj_in 25 w (by decide)

set_option maxHeartbeats 4000000 in
set_option maxRecDepth 100000 in
theorem awake_true (w : World) :
    Calls Tryd.prog 10 #[] w fun e w' => e = .returned (.bool true) ∧ Below w.heap.size w w' := by
  go_enter Tryd.func10, Tryd.ntmps10
  go_wp2_with fail
  refine (aw_new w).mono ?_
  rintro e w1 ⟨v1, rfl, hv1, hb1⟩
  obtain ⟨A, c, B, d, rfl, hA, hB⟩ := hv1
  have hv1 : DV w1 _ S0 [] := ⟨A, c, B, d, rfl, hA, hB⟩
  rw [S0_len, show ([] : List Wr).length = 0 from rfl] at hv1 ⊢
  have H1 := Lib.hid (Holds.fresh hv1 hb1)
  clear hv1 hb1 hA hB
  have H2 := Lib.hid (H1.out.on ((Below.refl _ _).alloc (Nat.le_refl _) (.cells #[.string abS, .string ⟨#[]⟩, .string moS] 9)))
  have hw := aw_append H2.out.dv (sv_three _ 9 abS ⟨#[]⟩ moS (g := w1.heap.size + 1) (by simp))
  unfold abS moS at hw H2
  clear H1
  go_wp2_with fail
  refine hw.mono ?_
  clear hw
  rintro e w3 ⟨v3, rfl, ⟨A3, c3, B3, d3, rfl, hA3, hB3⟩, hb3⟩
  have hv3 : DV w3 _ S0 awW := ⟨A3, c3, B3, d3, rfl, hA3, hB3⟩
  rw [S0_len, aw_len] at hv3 ⊢
  have H3 := Lib.hid (H2.out.on hb3)
  have H4 := Lib.hid (H3.out.put hv3)
  have f0 := Box.free H3.out.blk 0
  have f1 := Box.free H3.out.blk 1
  obtain ⟨k0, k1⟩ := DBlk.cells H3.out.blk
  have hz := Box.lt H3.out.blk
  clear hv3 hb3 hA3 hB3 H2
  have hr := aw_texts1 H4.out.dv
  go_wp2_with fail
  refine hr.mono ?_
  clear hr f0 f1 k0 k1 hz
  rintro e w5 ⟨v5, rfl, hv5, hb5⟩
  have H5 := Lib.hid (H4.out.on hb5)
  have hv5 := hv5.sv
  obtain ⟨A5, c5, rfl, hs5⟩ := hv5
  have HV5 := Lib.hid (show SV w5 (.slice A5 awT.length c5) awT from ⟨A5, c5, rfl, hs5⟩)
  rw [show awT.length = 3 from rfl] at HV5 ⊢
  clear hb5 H4 H3 hs5
  obtain ⟨k0, k1⟩ := DBlk.cells H5.out.blk
  have hz := Box.lt H5.out.blk
  have hr := aw_texts2 H5.out.dv
  go_wp2_with fail
  refine hr.mono ?_
  clear hr k0 k1 hz
  rintro e w6 ⟨⟨A6, c6, rfl⟩, hb6⟩
  have H6 := Lib.hid (H5.out.on hb6)
  have HV6 := Lib.hid (HV5.out.on hb6)
  clear hb6 H5 HV5
  have H7 := Lib.hid (H6.out.on ((Below.refl _ _).alloc (Nat.le_refl _) (.cells #[.string ⟨#[]⟩] 9)))
  have HV7 := Lib.hid (HV6.out.on ((Below.refl _ _).alloc (Nat.le_refl _) (.cells #[.string ⟨#[]⟩] 9)))
  obtain ⟨k0, k1⟩ := DBlk.cells H6.out.blk
  have hz := Box.lt H6.out.blk
  have hw := aw_full H7.out.dv (sv_one _ 9 ⟨#[]⟩ (g := w6.heap.size) rfl)
  clear H6 HV6
  go_wp2_with fail
  refine hw.mono ?_
  clear hw k0 k1 hz
  rintro e w8 ⟨rfl, hb8⟩
  have H8 := Lib.hid (H7.out.on hb8)
  have HV8 := Lib.hid (HV7.out.on hb8)
  have HB8 := Lib.hid H8.out.below
  clear hb8 H7 HV7 H8
  have HBA := Lib.hid ((Below.refl w8.heap.size w8).alloc (Nat.le_refl _) (.cells #[.slice A3 130 c3, .slice B3 4 d3] 36))
  go_wp2_with fail
  refine (aw_pieces _).mono ?_
  rintro e w9 ⟨A9, c9, rfl, hc9, hb9⟩
  have HB9 := Lib.hid ((HB8.out.trans (HBA.out.mono HB8.out.size)).trans (hb9.mono (HB8.out.trans (HBA.out.mono HB8.out.size)).size))
  have HV9 := Lib.hid ((HV8.out.on HBA.out).on hb9)
  clear HB8 HV8 HBA hb9
  have HVA := Lib.hid (HV9.out.on ((Below.refl _ _).alloc (Nat.le_refl _) (.cells #[.string ⟨#[97, 98]⟩, .string ⟨#[]⟩, .string ⟨#[97, 32, 116, 101, 120, 116, 32, 116, 104, 97, 116, 32, 104, 97, 115, 32, 109, 111, 114, 101, 32, 116, 104, 97, 110, 32, 97, 32, 112, 105, 101, 99, 101]⟩] 9)))
  have HBB := Lib.hid (HB9.out.alloc HB9.out.size (.cells #[.string ⟨#[97, 98]⟩, .string ⟨#[]⟩, .string ⟨#[97, 32, 116, 101, 120, 116, 32, 116, 104, 97, 116, 32, 104, 97, 115, 32, 109, 111, 114, 101, 32, 116, 104, 97, 110, 32, 97, 32, 112, 105, 101, 99, 101]⟩] 9))
  have hsm := aw_same HVA.out (sv_three _ 9 ⟨#[97, 98]⟩ ⟨#[]⟩ ⟨#[97, 32, 116, 101, 120, 116, 32, 116, 104, 97, 116, 32, 104, 97, 115, 32, 109, 111, 114, 101, 32, 116, 104, 97, 110, 32, 97, 32, 112, 105, 101, 99, 101]⟩ (g := w9.heap.size) rfl)
  have HC9 := Lib.hid hc9
  go_wp2_with fail
  refine hsm.mono ?_
  clear hsm
  rintro e wa ⟨rfl, hba⟩
  have hca : wa.cell? A9 = some (.string pcA) := by
    have hlt := lt_of_cell HC9.out
    have h1 := ((Below.refl w9.heap.size w9).alloc (Nat.le_refl _) (.cells #[.string ⟨#[97, 98]⟩, .string ⟨#[]⟩, .string ⟨#[97, 32, 116, 101, 120, 116, 32, 116, 104, 97, 116, 32, 104, 97, 115, 32, 109, 111, 114, 101, 32, 116, 104, 97, 110, 32, 97, 32, 112, 105, 101, 99, 101]⟩] 9))
    exact ((h1.trans (hba.mono h1.size)).cell hlt).trans HC9.out
  have HBC := Lib.hid (HBB.out.trans (hba.mono HBB.out.size))
  have hx1 := pcA_size
  have hx2 := pcA_head
  generalize pcA = x at *
  have hx3 := str_eq hx2
  clear hba hc9 HC9 HVA HV9 HB9
  go_wp2_with fail
  refine (aw_need _).mono ?_
  rintro e wb ⟨rfl, rfl⟩
  go_wp2
  go_ret
  exact ⟨rfl, HBC.out⟩

end Go.Proofs.YtdgjnjhmjgdhnaaDoor
