/- The walk of the law JournalTells. -/
import Derived.Test.YtdgjnjhmjgdhnaaDoorLNeeds
import Derived.Test.YtdgjnjhmjgdhnaaDoorRAppend
import Derived.Test.YtdgjnjhmjgdhnaaDoorInv
namespace Go.Proofs.YtdgjnjhmjgdhnaaDoor
open Go.RowKit

def TellsV (T1 T2 DW DY : Value) (nt E0 N E : Int) (S : List ByteArray) (W2 : List Wr) (t : Nat) (v : Value) (w : World) : Prop :=
  match t with
  | 85 => v = T1
  | 86 => v = T2
  | 87 => v = .bool true
  | 88 => v = .bool true
  | 89 => v = .int .i64 nt
  | 90 => v = .int .i64 nt
  | 91 => v = .bool true
  | 92 => v = .bool true
  | 93 => v = .bool true
  | 94 => v = .int .i64 E0
  | 95 => v = .int .i64 E0
  | 96 => v = .bool true
  | 97 => v = .bool true
  | 98 => v = .bool true
  | 99 => v = DW
  | 100 => DV w v S W2
  | 101 => v = DY
  | 102 => v = .bool true
  | 103 => v = .bool true
  | 104 => v = .bool true
  | 105 => v = .int .i64 N
  | 106 => v = .int .i64 N
  | 107 => v = .bool true
  | 108 => v = .bool true
  | 109 => v = .bool true
  | 110 => v = .int .i64 E
  | 111 => v = .int .i64 E
  | 112 => v = .bool true
  | 113 => v = .bool true
  | 114 => v = .bool true
  | 115 => v = .bool true
  | 116 => v = .bool true
  | 8 => v = .bool true
  | _ => True
theorem TellsV.on {T1 T2 DW DY : Value} {nt E0 N E : Int} {S : List ByteArray} {W2 : List Wr} {t : Nat} {v : Value} {w w' : World} (h : TellsV T1 T2 DW DY nt E0 N E S W2 t v w) (hb : Below w.heap.size w w') : TellsV T1 T2 DW DY nt E0 N E S W2 t v w' := by
  unfold TellsV at *
  split at h <;> first | exact h | exact DV.on h hb

/-! Texts and Append, and the document's, whatever comes of them. -/
def TJ (S : List ByteArray) (W : List Wr) (g : Int) (ts : List ByteArray) : Prop := if jB S W then ToldP g (jou S W) ts else ts = []
def jE (S : List ByteArray) (W : List Wr) : Int := if jB S W then 0 else 1
theorem TJ.only {S : List ByteArray} {W : List Wr} {g : Int} {ts us : List ByteArray} (h : TJ S W g ts) (h2 : TJ S W g us) : ts = us := by
  unfold TJ at h h2
  cases hb : jB S W with
  | true => rw [hb] at h h2; exact ToldP.only h h2
  | false => rw [hb] at h h2; exact (show ts = [] from h).trans (show us = [] from h2).symm
theorem TJ.len {S : List ByteArray} {W : List Wr} {g : Int} {ts : List ByteArray} (h : TJ S W g ts) : ts.length ≤ 128 := by
  unfold TJ at h
  cases hb : jB S W with
  | true =>
    rw [hb] at h
    have h1 := (show ToldP g (jou S W) ts from h).len
    rw [jou_len (jB_parts hb).2] at h1
    exact Nat.le_trans (needs_ge ts) h1
  | false => rw [hb] at h; rw [show ts = [] from h]; exact Nat.zero_le _
theorem texts_any {v : Value} {S : List ByteArray} {W : List Wr} (g : Int) {w : World} (h : DV w v S W) (hn : S.length ≤ 1000000) (hm : W.length ≤ 1000000) :
    Calls Tryd.prog 19 #[v, .int .i64 g] w fun e w' => ∃ v' ts, e = .returned (.tuple #[v', .int .i64 (needs ts : Nat), .int .i64 (jE S W)]) ∧ RowV w' v' ts ∧ TJ S W g ts ∧ Below w.heap.size w w' := by
  unfold jE TJ
  cases hb : jB S W with
  | true => exact texts_ok g h hm hb
  | false =>
    refine (texts_bad g h hn hm hb).mono ?_
    rintro e w' ⟨rfl, hb⟩
    exact ⟨_, [], rfl, nil_row _, rfl, hb⟩
theorem dtexts_any {v : Value} {S : List ByteArray} {W : List Wr} (g : Int) {w : World} (h : DV w v S W) (hn : S.length ≤ 1000000) (hm : W.length ≤ 1000000) :
    Calls Tryd.prog 20 #[v, .int .i64 g] w fun e w' => ∃ v' ts, e = .returned (.tuple #[v', .int .i64 (needs ts : Nat), .int .i64 (jE S W)]) ∧ RowV w' v' ts ∧ TJ S W g ts ∧ Below w.heap.size w w' := by
  unfold jE TJ
  cases hb : jB S W with
  | true => exact dtexts_ok g h hm hb
  | false =>
    refine (dtexts_bad g h hn hm hb).mono ?_
    rintro e w' ⟨rfl, hb⟩
    exact ⟨_, [], rfl, nil_row _, rfl, hb⟩
theorem append_any {v t : Value} {S : List ByteArray} {W : List Wr} (g a : Int) (ts : List ByteArray) {w : World} (h : DV w v S W) (ht : SV w t ts) (hl : ts.length ≤ 65535) (hs : ∀ x ∈ ts, x.size ≤ 1000) (hn : S.length ≤ 1000000) (hm : W.length ≤ 90000) :
    Calls Tryd.prog 21 #[v, .int .i64 g, .int .i64 a, t] w fun e w' => ∃ v', e = .returned (.tuple #[v', .int .i64 (apN S W g a ts), .int .i64 (apE S W g a ts)]) ∧ DV w' v' S (apW S W g a ts) ∧ Below w.heap.size w w' := by
  unfold apN apW apE
  cases hb : jB S W with
  | false =>
    simp only [Bool.false_eq_true, if_false]
    rw [if_neg (by decide), if_neg (by decide)]
    refine (append_read g a t h hn (by omega) hb).mono ?_
    rintro e w' ⟨rfl, hb⟩
    exact ⟨v, rfl, h.on hb, hb⟩
  | true =>
    simp only [if_true]
    by_cases hE : chE g a ts = 0
    · rw [hE, if_pos rfl, if_pos rfl]
      exact append_ok g a ts h ht hl hs hm hb hE
    · rw [if_neg hE, if_neg hE]
      refine (append_bad g a ts h ht hl hs (by omega) hb hE).mono ?_
      rintro e w' ⟨rfl, hb⟩
      exact ⟨v, rfl, h.on hb, hb⟩
theorem dappend_any {v t : Value} {S : List ByteArray} {W : List Wr} (g a : Int) (ts : List ByteArray) {w : World} (h : DZ w v S W) (ht : SV w t ts) (hl : ts.length ≤ 65535) (hs : ∀ x ∈ ts, x.size ≤ 1000) (hn : S.length ≤ 1000000) (hm : W.length ≤ 90000) :
    Calls Tryd.prog 22 #[v, .int .i64 g, .int .i64 a, t] w fun e w' => ∃ v', e = .returned (.tuple #[v', .int .i64 (apN S W g a ts), .int .i64 (apE S W g a ts)]) ∧ DV w' v' S (apW S W g a ts) ∧ Below w.heap.size w w' := by
  cases hb : (jB S W && gpB g a) with
  | false =>
    have e1 : apE S W g a ts = 1 := by
      unfold apE chE
      cases hj : jB S W with
      | false => rfl
      | true =>
        rw [hj] at hb
        rw [show gpB g a = false by simpa using hb]
        rfl
    unfold apN apW
    rw [e1, if_neg (by decide), if_neg (by decide)]
    refine (dappend_wrong g a t h.dv hn (by omega) hb).mono ?_
    rintro e w' ⟨rfl, hb⟩
    exact ⟨v, rfl, h.dv.on hb, hb⟩
  | true =>
    rw [Bool.and_eq_true] at hb
    obtain ⟨hj, hgp⟩ := hb
    obtain ⟨p, q, rfl, h2, h3, rfl, h5⟩ := gp_parts hgp
    obtain ⟨T, tc, rfl, hT⟩ := ht
    refine (dappend_right p q T tc ts h hT hl hs hm hj h2 h3 h5).mono ?_
    unfold apN apW apE chE
    rw [hj, hgp]
    simp only [if_true, Int.toNat_natCast]
    rintro e w' ⟨⟨v', rfl, hv, hle⟩ | ⟨rfl, hgt⟩, hb⟩
    · have hle2 : (q : Int) + ((needs ts : Nat) : Int) ≤ 128 := by omega
      simp only [hle2, if_true]
      exact ⟨v', rfl, hv, hb⟩
    · have hle2 : ¬ (q : Int) + ((needs ts : Nat) : Int) ≤ 128 := by omega
      simp only [hle2, if_false]
      rw [if_neg (by decide), if_neg (by decide)]
      exact ⟨_, rfl, h.dv.on hb, hb⟩
theorem apW_len (S : List ByteArray) (W : List Wr) (g a : Int) (ts : List ByteArray) : (apW S W g a ts).length ≤ W.length + 128 := by
  unfold apW
  by_cases h : apE S W g a ts = 0
  · rw [if_pos h]
    have h1 : chE g a ts = 0 := by
      unfold apE at h
      cases hj : jB S W with
      | true => rw [hj] at h; exact h
      | false => rw [hj] at h; cases h
    obtain ⟨p, q, _, _, _, _, h5⟩ := ch_zero h1
    rw [List.length_append, put_len, chain_len]
    omega
  · rw [if_neg h]
    omega
theorem refz_dv {v : Value} {S : List ByteArray} {W : List Wr} {w : World} (h : DV w v S W) (h24 : W.length * 24 ≤ 140737488355328) :
    Calls Tryd.prog 18 #[v] w fun e w' => ∃ v', e = .returned v' ∧ DZ w' v' S W ∧ Below w.heap.size w w' := by
  obtain ⟨A, c, B, d, rfl, hA, hB⟩ := h
  exact refz_any A c S B d W w hA hB h24

set_option maxHeartbeats 16000000 in
set_option maxRecDepth 100000 in
theorem tells_walk (v0 : Value) (S : List ByteArray) (V : List Wr) (g a : Int) (A3 : Option Addr) (c3 : Nat) (l : List ByteArray) (w : World) (hv : DV w v0 S V) (hn : S.length ≤ maxLen) (hm : V.length ≤ maxLen) (h24 : V.length * 24 ≤ 140737488355328) (hl3 : AV w A3 c3 l) :
    Calls Tryd.prog 4 #[v0, .int .i64 g, .int .i64 a, .slice A3 l.length c3] w fun e w' => e = .returned (.bool true) ∧ Below w.heap.size w w' := by
  have hlen := hl3.len
  obtain ⟨hA3, hcc, hc2, hs, hn0⟩ := hl3
  unfold maxLen at hn hm hlen hc2
  obtain ⟨A, c, B, d, rfl, hA, hB⟩ := hv
  have HS := Lib.hid hs
  have HA := Lib.hid hA3
  have HSV := Lib.hid (fun (wx : World) (hb : Below w.heap.size w wx) => show SV wx (.slice A3 l.length c3) l from ⟨A3, c3, rfl, (hA3.below hb).more hb.size⟩)
  have HSN := Lib.hid (fun k x (h : l[k]? = some x) (h2 : ∀ x ∈ l.take k, x.size ≤ 300) (h3 : x.size ≤ 300) => show ∀ x ∈ l.take (k + 1), x.size ≤ 300 by
    obtain ⟨h1, rfl⟩ := List.getElem?_eq_some_iff.1 h
    exact sizes_snoc h1 h2 h3)
  have H0 := Lib.hid (Holds.fresh (show DV w (.agg #[.slice A S.length c, .slice B V.length d]) S V from ⟨A, c, B, d, rfl, hA, hB⟩) (Below.refl w.heap.size w))
  have H24 := Lib.hid h24
  obtain ⟨E, hE⟩ : ∃ E, E = apE S V g a l := ⟨_, rfl⟩
  obtain ⟨N, hN⟩ : ∃ N, N = apN S V g a l := ⟨_, rfl⟩
  obtain ⟨W2, hW2⟩ : ∃ W2, W2 = apW S V g a l := ⟨_, rfl⟩
  have HAP := Lib.hid (fun (hn : S.length ≤ 1000000) (hm : V.length ≤ 90000) (hl : l.length ≤ 65535) (hs : ∀ x ∈ l, x.size ≤ 1000) (wx : World) (v t : Value) (h : DV wx v S V) (ht : SV wx t l) => append_any g a l h ht hl hs hn hm)
  have HDAP := Lib.hid (fun (hn : S.length ≤ 1000000) (hm : V.length ≤ 90000) (hl : l.length ≤ 65535) (hs : ∀ x ∈ l, x.size ≤ 1000) (wx : World) (v t : Value) (h : DZ wx v S V) (ht : SV wx t l) => dappend_any g a l h ht hl hs hn hm)
  have hwl := apW_len S V g a l
  rw [← hE, ← hN, ← hW2] at HAP HDAP
  rw [← hW2] at hwl
  have HWL := Lib.hid hwl
  generalize hsl : S.length = n at *
  generalize hvl : V.length = m at *
  generalize hql : l.length = q at *
  have HSL := Lib.hid hsl
  have HVL := Lib.hid hvl
  have HL := Lib.hid hql
  clear hA hB hA3 hs hsl hvl hql h24 hE hN hW2 hwl hlen
  go_enter Tryd.func4, Tryd.ntmps4
  go_wp2_with fail
  refine (refz_dv H0.out.dv (by rw [HVL.out]; exact H24.out)).mono ?_
  rintro e w1 ⟨v1, rfl, ⟨A1, c1, B1, d1, rfl, hA1, hB1, hz1⟩, hb1⟩
  have hx1 : DZ w1 _ S V := ⟨A1, c1, B1, d1, rfl, hA1, hB1, hz1⟩
  rw [HSL.out, HVL.out] at hx1 ⊢
  have hba : Below _ _ (w1.alloc (.cells #[.slice A1 n c1, .slice B1 m d1] 39)) := hb1.alloc hb1.size _
  have H1 := Lib.hid (H0.out.on hba)
  have HX := Lib.hid (show EBlk (w1.alloc (.cells #[.slice A1 n c1, .slice B1 m d1] 39)) w1.heap.size (.slice A1 n c1) (.slice B1 m d1) from Box.fresh _ _ _)
  have HXV := Lib.hid (hx1.on ((Below.refl _ _).alloc (Nat.le_refl _) (.cells #[.slice A1 n c1, .slice B1 m d1] 39)))
  clear hb1 hba hx1 hA1 hB1 hz1 H0
  obtain ⟨k0, k1⟩ := DBlk.cells H1.out.blk
  have hzb := Box.lt H1.out.blk
  by_cases hsz : (n ≤ 200 ∧ m ≤ 100) ∧ q ≤ 10
  · obtain ⟨⟨g1, g2⟩, g3⟩ := hsz
    have hd1 : decide ((200 : Int) < n) = false := decide_eq_false (by omega)
    have hd2 : decide (200 < n) = false := decide_eq_false (by omega)
    have hd3 : decide ((100 : Int) < m) = false := decide_eq_false (by omega)
    have hd4 : decide (100 < m) = false := decide_eq_false (by omega)
    have hd5 : decide ((10 : Int) < q) = false := decide_eq_false (by omega)
    have hd6 : decide (10 < q) = false := decide_eq_false (by omega)
    go_wp2
    generalize hw2 : w1.alloc (.cells #[.slice A1 n c1, .slice B1 m d1] 39) = w2 at *
    generalize hgx : w1.heap.size = gx at *
    clear hw2 hgx
    go_loopw [44] (fun i wr => ∃ k : Nat, i = .int .i64 k ∧ k ≤ q ∧ (∀ x ∈ l.take k, x.size ≤ 300) ∧ wr = w2) (fun i _ => (q - intOf i).toNat)
    case atStart => exact ⟨0, rfl, by omega, by simp, rfl⟩
    case round =>
      obtain ⟨k, rfl, hk, hall, rfl⟩ := hrel
      have HALL := Lib.hid hall
      clear hall
      by_cases hlt : k < q
      · obtain ⟨a1, rfl, hab, hca⟩ := (HA.out.below H1.out.below) (by rw [HL.out]; omega)
        have c1' := hca k (by rw [HL.out]; omega)
        have hmx := HS.out _ (List.getElem_mem (by rw [HL.out]; omega : k < l.length))
        have hgx := List.getElem?_eq_getElem (l := l) (i := k) (by rw [HL.out]; omega)
        generalize l[k]'(by rw [HL.out]; omega) = x at *
        unfold maxLen at hmx
        clear hca
        by_cases hx : x.size ≤ 300
        · have hd7 : decide ((300 : Int) < x.size) = false := decide_eq_false (by omega)
          have hd8 : decide (300 < x.size) = false := decide_eq_false (by omega)
          have HSN1 := Lib.hid (HSN.out k x hgx HALL.out hx)
          clear hgx
          go_wp2
          go_roundw
          case rel => exact ⟨k + 1, by go_num, by omega, HSN1.out, by trivial⟩
          case measure => simp [intOf]; omega
        · have hd7 : decide ((300 : Int) < x.size) = true := decide_eq_true (by omega)
          have hd8 : decide (300 < x.size) = true := decide_eq_true (by omega)
          clear hgx
          go_wp2_with fail
          refine (awake_true _).mono ?_
          rintro e w9 ⟨rfl, hb9⟩
          go_wp2
          go_ret
          exact ⟨rfl, H1.out.below.trans (hb9.mono H1.out.below.size)⟩
      · obtain rfl : k = q := by omega
        have hall := HALL.out
        rw [← HL.out, List.take_length] at hall
        have HS1 := Lib.hid (show ∀ x ∈ l, x.size ≤ 1000 from fun x hx => Nat.le_trans (hall x hx) (by decide))
        clear hall HALL HSN HS hlt hk
        have htx := texts_any g H1.out.dv (by rw [HSL.out]; omega) (by rw [HVL.out]; omega)
        obtain ⟨E0, hE0⟩ : ∃ E0, E0 = jE S V := ⟨_, rfl⟩
        have HDT := Lib.hid (fun (wx : World) (v : Value) (h : DV wx v S V) => dtexts_any g h (by rw [HSL.out]; omega) (by rw [HVL.out]; omega))
        rw [← hE0] at htx HDT
        clear hE0
        go_wp2_with fail
        refine htx.mono ?_
        clear htx k0 k1 hzb
        rintro e w3 ⟨v3, ts, rfl, hv3, ht, hb3⟩
        have H3 := Lib.hid (H1.out.on hb3)
        have HX3 := Lib.hid (show EBlk w3 gx (.slice A1 n c1) (.slice B1 m d1) from Box.on HX.out hb3)
        have HXV3 := Lib.hid (HXV.out.on hb3)
        have HV3 := Lib.hid hv3.sv
        have HT3 := Lib.hid ht
        obtain ⟨A5, c5, rfl, _, _⟩ := hv3
        clear hb3 ht H1 HX HXV
        obtain ⟨k0, k1⟩ := EBlk.cells HX3.out
        have hzb := Box.lt HX3.out
        have hdt := HDT.out _ _ HXV3.out.dv
        go_wp2_with fail
        refine hdt.mono ?_
        clear hdt HDT k0 k1 hzb
        rintro e w4 ⟨v4, us, rfl, hv4, hu, hb4⟩
        obtain rfl := TJ.only HT3.out hu
        have htl := HT3.out.len
        have H4 := Lib.hid (H3.out.on hb4)
        have HX4 := Lib.hid (show EBlk w4 gx (.slice A1 n c1) (.slice B1 m d1) from Box.on HX3.out hb4)
        have HXV4 := Lib.hid (HXV3.out.on hb4)
        have HV4 := Lib.hid hv4.sv
        have HU4 := Lib.hid (HV3.out.on hb4)
        obtain ⟨A6, c6, rfl, _, _⟩ := hv4
        have HSM0 := Lib.hid (fun (wx : World) (h : Below w4.heap.size w4 wx) => same_eq (HU4.out.on h) (HV4.out.on h) rfl (by unfold maxLen; omega))
        generalize ts.length = q5 at *
        generalize needs ts = nt0 at *
        obtain ⟨nt, hnt⟩ : ∃ nt : Int, nt = (nt0 : Int) := ⟨_, rfl⟩
        rw [← hnt]
        clear hnt hb4 hu H3 HX3 HXV3 HV3 HT3
        obtain ⟨k0, k1⟩ := DBlk.cells H4.out.blk
        have hzb := Box.lt H4.out.blk
        have hap := HAP.out (by omega) (by omega) (by omega) HS1.out _ _ _ H4.out.dv (HSV.out _ H4.out.below)
        go_wp2_with fail
        refine hap.mono ?_
        clear hap HAP k0 k1 hzb
        rintro e w5 ⟨v5, rfl, ⟨A7, c7, B7, d7, rfl, hA7, hB7⟩, hb5⟩
        have hv5 : DV w5 _ S W2 := ⟨A7, c7, B7, d7, rfl, hA7, hB7⟩
        obtain ⟨m2, hm2⟩ : ∃ m2, m2 = W2.length := ⟨_, rfl⟩
        have HM2 := Lib.hid hm2
        have hm2z : m2 ≤ 300 := by rw [hm2]; have := HWL.out; omega
        rw [HSL.out, ← hm2] at hv5 ⊢
        have hba5 : Below _ _ (w5.alloc (.cells #[.slice A7 n c7, .slice B7 m2 d7] 36)) := hb5.alloc hb5.size _
        have H5 := Lib.hid (H4.out.on hba5)
        have HX5 := Lib.hid (show EBlk _ gx (.slice A1 n c1) (.slice B1 m d1) from Box.on HX4.out hba5)
        have HXV5 := Lib.hid (HXV4.out.on hba5)
        have HB45 := Lib.hid hba5
        have HW5 := Lib.hid (show DBlk (w5.alloc (.cells #[.slice A7 n c7, .slice B7 m2 d7] 36)) w5.heap.size A7 n c7 B7 m2 d7 from Box.fresh _ _ _)
        have HWV5 := Lib.hid (hv5.on ((Below.refl _ _).alloc (Nat.le_refl _) (.cells #[.slice A7 n c7, .slice B7 m2 d7] 36)))
        clear hv5 hA7 hB7 hb5 hba5 hm2 H4 HX4 HXV4
        obtain ⟨k0, k1⟩ := EBlk.cells HX5.out
        have hzb := Box.lt HX5.out
        have hap := HDAP.out (by omega) (by omega) (by omega) HS1.out _ _ _ HXV5.out (HSV.out _ H5.out.below)
        go_wp2_with fail
        refine hap.mono ?_
        clear hap HDAP k0 k1 hzb
        rintro e w6 ⟨v6, rfl, ⟨A9, c9, B9, d9, rfl, hA9, hB9⟩, hb6⟩
        have hv6 : DV w6 _ S W2 := ⟨A9, c9, B9, d9, rfl, hA9, hB9⟩
        rw [HSL.out, ← HM2.out] at hv6 ⊢
        have hba6 : Below _ _ (w6.alloc (.cells #[.slice A9 n c9, .slice B9 m2 d9] 39)) := hb6.alloc hb6.size _
        have H6 := Lib.hid (H5.out.on hba6)
        have HW6 := Lib.hid (show DBlk _ w5.heap.size A7 n c7 B7 m2 d7 from Box.on HW5.out hba6)
        have HWV6 := Lib.hid (HWV5.out.on hba6)
        have HB46 := Lib.hid (HB45.out.trans (hba6.mono HB45.out.size))
        have HY6 := Lib.hid (show EBlk (w6.alloc (.cells #[.slice A9 n c9, .slice B9 m2 d9] 39)) w6.heap.size (.slice A9 n c9) (.slice B9 m2 d9) from Box.fresh _ _ _)
        have HYV6 := Lib.hid (hv6.on ((Below.refl _ _).alloc (Nat.le_refl _) (.cells #[.slice A9 n c9, .slice B9 m2 d9] 39)))
        clear hv6 hA9 hB9 hb6 hba6 H5 HX5 HXV5 HB45 HW5 HWV5
        go_wp2
        generalize hw7 : w6.alloc (.cells #[.slice A9 n c9, .slice B9 m2 d9] 39) = w7 at *
        obtain ⟨gw, hgw⟩ : ∃ gw, gw = w5.heap.size := ⟨_, rfl⟩
        obtain ⟨gy, hgy⟩ : ∃ gy, gy = w6.heap.size := ⟨_, rfl⟩
        rw [← hgw] at HW6 ⊢
        rw [← hgy] at HY6 ⊢
        clear hw7 hgw hgy
        have HC18 := Lib.hid (fun (wx : World) (h : Below w7.heap.size w7 wx) => DBlk.cells (show DBlk wx gw A7 n c7 B7 m2 d7 from Box.on HW6.out h))
        have HC21 := Lib.hid (fun (wx : World) (h : Below w7.heap.size w7 wx) => EBlk.cells (show EBlk wx gy (.slice A9 n c9) (.slice B9 m2 d9) from Box.on HY6.out h))
        have HREF := Lib.hid (fun (wx : World) (h : Below w7.heap.size w7 wx) => ref_dv (HWV6.out.on h) (by rw [← HM2.out]; omega))
        have HSAME := Lib.hid (fun (wx : World) (h : Below w7.heap.size w7 wx) (v : Value) (hv : DV wx v S W2) => same2_eq v _ S W2 wx hv (HYV6.out.on h) (by rw [HSL.out]; omega) (by rw [← HM2.out]; omega))
        have HSM := Lib.hid (fun (wx : World) (h : Below w7.heap.size w7 wx) => HSM0.out wx (HB46.out.trans (h.mono HB46.out.size)))
        have hee : (E == E) = true := by simp
        have hnn : (N == N) = true := by simp
        have h00 : (E0 == E0) = true := by simp
        have htt : (nt == nt) = true := by simp
        refine wp_region_inv [85, 86, 87, 88, 89, 90, 91, 92, 93, 94, 95, 96, 97, 98, 99, 100, 101, 102, 103, 104, 105, 106, 107, 108, 109, 110, 111, 112, 113, 114, 115, 116, 8] (by kernel_rfl) (by kernel_rfl) (fun w' => Below w7.heap.size w7 w') (fun wa wb => Below wa.heap.size wa wb) (TellsV (.slice A5 q5 c5) (.slice A6 q5 c6) (.agg #[.slice A7 n c7, .slice B7 m2 d7]) (.agg #[.slice A9 n c9, .slice B9 m2 d9]) nt E0 N E S W2) (by kernel_rfl) (fun wa wb h1 h2 => h2.trans (h1.mono h2.size)) (fun t v wa wb h1 h2 => h2.on h1) (Below.refl _ _).drew (steps_of ?_) ?_
        · skip
          refine Steps1.cons (fun ax wx hS hG => ?_) (Steps1.cons (fun ax wx hS hG => ?_) (Steps1.cons (fun ax wx hS hG => ?_) (Steps1.cons (fun ax wx hS hG => ?_) (Steps1.cons (fun ax wx hS hG => ?_) (Steps1.cons (fun ax wx hS hG => ?_) (Steps1.cons (fun ax wx hS hG => ?_) (Steps1.cons (fun ax wx hS hG => ?_) (Steps1.cons (fun ax wx hS hG => ?_) (Steps1.cons (fun ax wx hS hG => ?_) (Steps1.cons (fun ax wx hS hG => ?_) (Steps1.cons (fun ax wx hS hG => ?_) (Steps1.cons (fun ax wx hS hG => ?_) (Steps1.cons (fun ax wx hS hG => ?_) (Steps1.cons (fun ax wx hS hG => ?_) (Steps1.cons (fun ax wx hS hG => ?_) (Steps1.cons (fun ax wx hS hG => ?_) (Steps1.cons (fun ax wx hS hG => ?_) (Steps1.cons (fun ax wx hS hG => ?_) (Steps1.cons (fun ax wx hS hG => ?_) (Steps1.cons (fun ax wx hS hG => ?_) (Steps1.cons (fun ax wx hS hG => ?_) (Steps1.cons (fun ax wx hS hG => ?_) (Steps1.cons (fun ax wx hS hG => ?_) (Steps1.cons (fun ax wx hS hG => ?_) (Steps1.cons (fun ax wx hS hG => ?_) (Steps1.cons (fun ax wx hS hG => ?_) (Steps1.cons (fun ax wx hS hG => ?_) (Steps1.cons (fun ax wx hS hG => ?_) (Steps1.cons (fun ax wx hS hG => ?_) (Steps1.cons (fun ax wx hS hG => ?_) (Steps1.cons (fun ax wx hS hG => ?_) (Steps1.cons (fun ax wx hS hG => ?_) Steps1.nil))))))))))))))))))))))))))))))))
          · have q12 := hG.old 12 (by kernel_rfl) (by kernel_rfl)
            refine step_value (v := .slice A5 q5 c5) (w' := wx) rfl rfl ?_ (Below.refl _ _) (fun d hd => by cases hd; exact rfl)
            go_simp
          · have q15 := hG.old 15 (by kernel_rfl) (by kernel_rfl)
            refine step_value (v := .slice A6 q5 c6) (w' := wx) rfl rfl ?_ (Below.refl _ _) (fun d hd => by cases hd; exact rfl)
            go_simp
          · obtain ⟨_, q85, rfl⟩ := hG.new 85 (by kernel_rfl) (by kernel_rfl)
            obtain ⟨_, q86, rfl⟩ := hG.new 86 (by kernel_rfl) (by kernel_rfl)
            refine step_call (w1 := wx) (f := 15) (args := #[.slice A5 q5 c5, .slice A6 q5 c6]) rfl rfl ?_ ((HSM.out wx hS).mono ?_)
            · skip
              go_simp
            · rintro e w' ⟨rfl, hq⟩
              exact ⟨_, rfl, hq, fun d hd => by cases hd; exact rfl⟩
          · obtain ⟨_, q87, rfl⟩ := hG.new 87 (by kernel_rfl) (by kernel_rfl)
            refine step_value (v := .bool true) (w' := wx) rfl rfl ?_ (Below.refl _ _) (fun d hd => by cases hd; exact rfl)
            go_simp
          · have q13 := hG.old 13 (by kernel_rfl) (by kernel_rfl)
            obtain ⟨_, q88, rfl⟩ := hG.new 88 (by kernel_rfl) (by kernel_rfl)
            refine step_value (v := .int .i64 nt) (w' := wx) rfl (by simp [Region.wanted, yielded, q88]) ?_ (Below.refl _ _) (fun d hd => by cases hd; exact rfl)
            go_simp
          · have q16 := hG.old 16 (by kernel_rfl) (by kernel_rfl)
            obtain ⟨_, q88, rfl⟩ := hG.new 88 (by kernel_rfl) (by kernel_rfl)
            refine step_value (v := .int .i64 nt) (w' := wx) rfl (by simp [Region.wanted, yielded, q88]) ?_ (Below.refl _ _) (fun d hd => by cases hd; exact rfl)
            go_simp
          · obtain ⟨_, q89, rfl⟩ := hG.new 89 (by kernel_rfl) (by kernel_rfl)
            obtain ⟨_, q90, rfl⟩ := hG.new 90 (by kernel_rfl) (by kernel_rfl)
            obtain ⟨_, q88, rfl⟩ := hG.new 88 (by kernel_rfl) (by kernel_rfl)
            refine step_value (v := .bool true) (w' := wx) rfl (by simp [Region.wanted, yielded, q88]) ?_ (Below.refl _ _) (fun d hd => by cases hd; exact rfl)
            go_simp
          · obtain ⟨_, q88, rfl⟩ := hG.new 88 (by kernel_rfl) (by kernel_rfl)
            obtain ⟨_, q91, rfl⟩ := hG.new 91 (by kernel_rfl) (by kernel_rfl)
            refine step_value (v := .bool true) (w' := wx) rfl rfl ?_ (Below.refl _ _) (fun d hd => by cases hd; exact rfl)
            go_simp
          · obtain ⟨_, q92, rfl⟩ := hG.new 92 (by kernel_rfl) (by kernel_rfl)
            refine step_value (v := .bool true) (w' := wx) rfl rfl ?_ (Below.refl _ _) (fun d hd => by cases hd; exact rfl)
            go_simp
          · have q14 := hG.old 14 (by kernel_rfl) (by kernel_rfl)
            obtain ⟨_, q93, rfl⟩ := hG.new 93 (by kernel_rfl) (by kernel_rfl)
            refine step_value (v := .int .i64 E0) (w' := wx) rfl (by simp [Region.wanted, yielded, q93]) ?_ (Below.refl _ _) (fun d hd => by cases hd; exact rfl)
            go_simp
          · have q17 := hG.old 17 (by kernel_rfl) (by kernel_rfl)
            obtain ⟨_, q93, rfl⟩ := hG.new 93 (by kernel_rfl) (by kernel_rfl)
            refine step_value (v := .int .i64 E0) (w' := wx) rfl (by simp [Region.wanted, yielded, q93]) ?_ (Below.refl _ _) (fun d hd => by cases hd; exact rfl)
            go_simp
          · obtain ⟨_, q94, rfl⟩ := hG.new 94 (by kernel_rfl) (by kernel_rfl)
            obtain ⟨_, q95, rfl⟩ := hG.new 95 (by kernel_rfl) (by kernel_rfl)
            obtain ⟨_, q93, rfl⟩ := hG.new 93 (by kernel_rfl) (by kernel_rfl)
            refine step_value (v := .bool true) (w' := wx) rfl (by simp [Region.wanted, yielded, q93]) ?_ (Below.refl _ _) (fun d hd => by cases hd; exact rfl)
            go_simp
          · obtain ⟨_, q93, rfl⟩ := hG.new 93 (by kernel_rfl) (by kernel_rfl)
            obtain ⟨_, q96, rfl⟩ := hG.new 96 (by kernel_rfl) (by kernel_rfl)
            refine step_value (v := .bool true) (w' := wx) rfl rfl ?_ (Below.refl _ _) (fun d hd => by cases hd; exact rfl)
            go_simp
          · obtain ⟨_, q97, rfl⟩ := hG.new 97 (by kernel_rfl) (by kernel_rfl)
            refine step_value (v := .bool true) (w' := wx) rfl rfl ?_ (Below.refl _ _) (fun d hd => by cases hd; exact rfl)
            go_simp
          · have q18 := hG.old 18 (by kernel_rfl) (by kernel_rfl)
            obtain ⟨_, q98, rfl⟩ := hG.new 98 (by kernel_rfl) (by kernel_rfl)
            obtain ⟨z0, z1⟩ := HC18.out wx hS
            refine step_value (v := .agg #[.slice A7 n c7, .slice B7 m2 d7]) (w' := wx) rfl (by simp [Region.wanted, yielded, q98]) ?_ (Below.refl _ _) (fun d hd => by cases hd; exact rfl)
            go_simp
          · obtain ⟨_, q99, rfl⟩ := hG.new 99 (by kernel_rfl) (by kernel_rfl)
            obtain ⟨_, q98, rfl⟩ := hG.new 98 (by kernel_rfl) (by kernel_rfl)
            refine step_call (w1 := wx) (f := 18) (args := #[.agg #[.slice A7 n c7, .slice B7 m2 d7]]) rfl (by simp [Region.wanted, yielded, q98]) ?_ ((HREF.out wx hS).mono ?_)
            · skip
              go_simp
            · rintro e w' ⟨v', rfl, hv, hq⟩
              exact ⟨_, rfl, hq, fun d hd => by cases hd; exact hv⟩
          · have q21 := hG.old 21 (by kernel_rfl) (by kernel_rfl)
            obtain ⟨_, q98, rfl⟩ := hG.new 98 (by kernel_rfl) (by kernel_rfl)
            obtain ⟨z0, z1⟩ := HC21.out wx hS
            refine step_value (v := .agg #[.slice A9 n c9, .slice B9 m2 d9]) (w' := wx) rfl (by simp [Region.wanted, yielded, q98]) ?_ (Below.refl _ _) (fun d hd => by cases hd; exact rfl)
            go_simp
          · obtain ⟨v100, q100, h100⟩ := hG.new 100 (by kernel_rfl) (by kernel_rfl)
            have p100 : DV wx v100 S W2 := h100
            obtain ⟨_, q101, rfl⟩ := hG.new 101 (by kernel_rfl) (by kernel_rfl)
            obtain ⟨_, q98, rfl⟩ := hG.new 98 (by kernel_rfl) (by kernel_rfl)
            refine step_call (w1 := wx) (f := 23) (args := #[v100, .agg #[.slice A9 n c9, .slice B9 m2 d9]]) rfl (by simp [Region.wanted, yielded, q98]) ?_ ((HSAME.out wx hS v100 p100).mono ?_)
            · clear h100 p100
              go_simp
            · rintro e w' ⟨rfl, hq⟩
              exact ⟨_, rfl, hq, fun d hd => by cases hd; exact rfl⟩
          · obtain ⟨_, q98, rfl⟩ := hG.new 98 (by kernel_rfl) (by kernel_rfl)
            obtain ⟨_, q102, rfl⟩ := hG.new 102 (by kernel_rfl) (by kernel_rfl)
            refine step_value (v := .bool true) (w' := wx) rfl rfl ?_ (Below.refl _ _) (fun d hd => by cases hd; exact rfl)
            go_simp
          · obtain ⟨_, q103, rfl⟩ := hG.new 103 (by kernel_rfl) (by kernel_rfl)
            refine step_value (v := .bool true) (w' := wx) rfl rfl ?_ (Below.refl _ _) (fun d hd => by cases hd; exact rfl)
            go_simp
          · have q19 := hG.old 19 (by kernel_rfl) (by kernel_rfl)
            obtain ⟨_, q104, rfl⟩ := hG.new 104 (by kernel_rfl) (by kernel_rfl)
            refine step_value (v := .int .i64 N) (w' := wx) rfl (by simp [Region.wanted, yielded, q104]) ?_ (Below.refl _ _) (fun d hd => by cases hd; exact rfl)
            go_simp
          · have q22 := hG.old 22 (by kernel_rfl) (by kernel_rfl)
            obtain ⟨_, q104, rfl⟩ := hG.new 104 (by kernel_rfl) (by kernel_rfl)
            refine step_value (v := .int .i64 N) (w' := wx) rfl (by simp [Region.wanted, yielded, q104]) ?_ (Below.refl _ _) (fun d hd => by cases hd; exact rfl)
            go_simp
          · obtain ⟨_, q105, rfl⟩ := hG.new 105 (by kernel_rfl) (by kernel_rfl)
            obtain ⟨_, q106, rfl⟩ := hG.new 106 (by kernel_rfl) (by kernel_rfl)
            obtain ⟨_, q104, rfl⟩ := hG.new 104 (by kernel_rfl) (by kernel_rfl)
            refine step_value (v := .bool true) (w' := wx) rfl (by simp [Region.wanted, yielded, q104]) ?_ (Below.refl _ _) (fun d hd => by cases hd; exact rfl)
            go_simp
          · obtain ⟨_, q104, rfl⟩ := hG.new 104 (by kernel_rfl) (by kernel_rfl)
            obtain ⟨_, q107, rfl⟩ := hG.new 107 (by kernel_rfl) (by kernel_rfl)
            refine step_value (v := .bool true) (w' := wx) rfl rfl ?_ (Below.refl _ _) (fun d hd => by cases hd; exact rfl)
            go_simp
          · obtain ⟨_, q108, rfl⟩ := hG.new 108 (by kernel_rfl) (by kernel_rfl)
            refine step_value (v := .bool true) (w' := wx) rfl rfl ?_ (Below.refl _ _) (fun d hd => by cases hd; exact rfl)
            go_simp
          · have q20 := hG.old 20 (by kernel_rfl) (by kernel_rfl)
            obtain ⟨_, q109, rfl⟩ := hG.new 109 (by kernel_rfl) (by kernel_rfl)
            refine step_value (v := .int .i64 E) (w' := wx) rfl (by simp [Region.wanted, yielded, q109]) ?_ (Below.refl _ _) (fun d hd => by cases hd; exact rfl)
            go_simp
          · have q23 := hG.old 23 (by kernel_rfl) (by kernel_rfl)
            obtain ⟨_, q109, rfl⟩ := hG.new 109 (by kernel_rfl) (by kernel_rfl)
            refine step_value (v := .int .i64 E) (w' := wx) rfl (by simp [Region.wanted, yielded, q109]) ?_ (Below.refl _ _) (fun d hd => by cases hd; exact rfl)
            go_simp
          · obtain ⟨_, q110, rfl⟩ := hG.new 110 (by kernel_rfl) (by kernel_rfl)
            obtain ⟨_, q111, rfl⟩ := hG.new 111 (by kernel_rfl) (by kernel_rfl)
            obtain ⟨_, q109, rfl⟩ := hG.new 109 (by kernel_rfl) (by kernel_rfl)
            refine step_value (v := .bool true) (w' := wx) rfl (by simp [Region.wanted, yielded, q109]) ?_ (Below.refl _ _) (fun d hd => by cases hd; exact rfl)
            go_simp
          · obtain ⟨_, q109, rfl⟩ := hG.new 109 (by kernel_rfl) (by kernel_rfl)
            obtain ⟨_, q112, rfl⟩ := hG.new 112 (by kernel_rfl) (by kernel_rfl)
            refine step_value (v := .bool true) (w' := wx) rfl rfl ?_ (Below.refl _ _) (fun d hd => by cases hd; exact rfl)
            go_simp
          · obtain ⟨_, q113, rfl⟩ := hG.new 113 (by kernel_rfl) (by kernel_rfl)
            refine step_value (v := .bool true) (w' := wx) rfl rfl ?_ (Below.refl _ _) (fun d hd => by cases hd; exact rfl)
            go_simp
          · obtain ⟨_, q114, rfl⟩ := hG.new 114 (by kernel_rfl) (by kernel_rfl)
            refine step_call (w1 := wx) (f := 10) (args := #[]) rfl (by simp [Region.wanted, yielded, q114]) ?_ ((awake_true wx).mono ?_)
            · skip
              go_simp
            · rintro e w' ⟨rfl, hq⟩
              exact ⟨_, rfl, hq, fun d hd => by cases hd; exact rfl⟩
          · obtain ⟨_, q114, rfl⟩ := hG.new 114 (by kernel_rfl) (by kernel_rfl)
            obtain ⟨_, q115, rfl⟩ := hG.new 115 (by kernel_rfl) (by kernel_rfl)
            refine step_value (v := .bool true) (w' := wx) rfl rfl ?_ (Below.refl _ _) (fun d hd => by cases hd; exact rfl)
            go_simp
          · obtain ⟨_, q116, rfl⟩ := hG.new 116 (by kernel_rfl) (by kernel_rfl)
            refine step_value (v := .bool true) (w' := wx) rfl rfl ?_ (Below.refl _ _) (fun d hd => by cases hd; exact rfl)
            go_simp
        intro fv w8 hS8 hV8
        have e8 : fv 8 = .bool true := hV8 8 (by decide)
        simp only [puts, Act.put, List.setIfInBounds_toArray, List.set_cons_succ, List.set_cons_zero]
        clear hV8
        rw [e8]
        go_wp2
        go_ret
        exact ⟨rfl, H6.out.below.trans (hS8.mono H6.out.below.size)⟩
  · by_cases x1 : 200 < n
    · have hd1 : decide ((200 : Int) < n) = true := decide_eq_true (by omega)
      have hd2 : decide (200 < n) = true := decide_eq_true x1
      go_wp2_with fail
      refine (awake_true _).mono ?_
      rintro e w9 ⟨rfl, hb9⟩
      go_wp2
      go_ret
      exact ⟨rfl, H1.out.below.trans (hb9.mono H1.out.below.size)⟩
    · have hd1 : decide ((200 : Int) < n) = false := decide_eq_false (by omega)
      have hd2 : decide (200 < n) = false := decide_eq_false x1
      by_cases x2 : 100 < m
      · have hd3 : decide ((100 : Int) < m) = true := decide_eq_true (by omega)
        have hd4 : decide (100 < m) = true := decide_eq_true x2
        go_wp2_with fail
        refine (awake_true _).mono ?_
        rintro e w9 ⟨rfl, hb9⟩
        go_wp2
        go_ret
        exact ⟨rfl, H1.out.below.trans (hb9.mono H1.out.below.size)⟩
      · have hd3 : decide ((100 : Int) < m) = false := decide_eq_false (by omega)
        have hd4 : decide (100 < m) = false := decide_eq_false x2
        have hd5 : decide ((10 : Int) < q) = true := decide_eq_true (by omega)
        have hd6 : decide (10 < q) = true := decide_eq_true (by omega)
        go_wp2_with fail
        refine (awake_true _).mono ?_
        rintro e w9 ⟨rfl, hb9⟩
        go_wp2
        go_ret
        exact ⟨rfl, H1.out.below.trans (hb9.mono H1.out.below.size)⟩

end Go.Proofs.YtdgjnjhmjgdhnaaDoor
