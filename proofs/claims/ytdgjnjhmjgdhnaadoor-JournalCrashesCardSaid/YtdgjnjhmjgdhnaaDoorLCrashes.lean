/- The walk of the law JournalCrashes. -/
import Derived.Test.YtdgjnjhmjgdhnaaDoorLBack
namespace Go.Proofs.YtdgjnjhmjgdhnaaDoor
open Go.RowKit

/-- How the journal stands when k records of all came, ahead of the flush; and behind it: q of them were flushed. -/
def CrI (g q : Nat) (l2 L S : List ByteArray) (W : List Wr) (k : Nat) : Prop := (k ≤ q ∧ Stand g (jou S W) (L.take k)) ∨ (q < k ∧ Stand g (jou S []) l2 ∧ W = putL (2 + ((needs l2 : Nat) : Int)) (chainL g (needs l2) ((L.take k).drop q)))
def CrP (g q : Nat) (l2 L S : List ByteArray) (W : List Wr) (k : Nat) : Prop := (k < q ∧ Stand g (jou S W) (L.take k)) ∨ (q ≤ k ∧ Stand g (jou S []) l2 ∧ W = putL (2 + ((needs l2 : Nat) : Int)) (chainL g (needs l2) ((L.take k).drop q)))
theorem CrI.flush {g q : Nat} {l2 L S : List ByteArray} {W : List Wr} {k : Nat} (h : CrI g q l2 L S W k) (hk : k = q) (hq : L.take q = l2) : CrP g q l2 L (doneL S W) [] k := by
  subst hk
  rcases h with ⟨_, h⟩ | ⟨h, _⟩
  · refine .inr ⟨Nat.le_refl _, ?_, ?_⟩
    · rw [jou_flush, ← hq]
      exact h
    · rw [List.drop_of_length_le (by rw [List.length_take]; omega)]
      rfl
  · omega
theorem CrI.keep {g q : Nat} {l2 L S : List ByteArray} {W : List Wr} {k : Nat} (h : CrI g q l2 L S W k) (hk : k ≠ q) : CrP g q l2 L S W k := by
  rcases h with ⟨h1, h⟩ | ⟨h1, h⟩
  · exact .inl ⟨by omega, h⟩
  · exact .inr ⟨by omega, h⟩
theorem CrP.next {g q : Nat} {l2 L S : List ByteArray} {W : List Wr} {k : Nat} {x : ByteArray} (h : CrP g q l2 L S W k) (hS : 130 ≤ S.length) (hx : x.size ≤ 1000) (hgx : L[k]? = some x) (hf : needs (L.take k) + needJ x.size ≤ 128) (hq : L.take q = l2) : CrI g q l2 L S (W ++ putL (2 + ((needs (L.take k) : Nat) : Int)) (chainL g (needs (L.take k)) [x])) (k + 1) := by
  obtain ⟨hk, e⟩ := List.getElem?_eq_some_iff.1 hgx
  have htk : L.take (k + 1) = L.take k ++ [x] := by rw [List.take_succ_eq_append_getElem hk, e]
  rcases h with ⟨h1, h⟩ | ⟨h1, h, h2⟩
  · refine .inl ⟨by omega, ?_⟩
    rw [htk]
    exact Stand.append hS h (by intro t ht; rw [List.mem_singleton.1 ht]; exact hx) (by rw [needs_one]; exact hf)
  · refine .inr ⟨by omega, h, ?_⟩
    have hl : (L.take k).length = k := by rw [List.length_take]; omega
    have hn : needs (L.take k) = needs l2 + needs ((L.take k).drop q) := by
      have h3 := congrArg needs (List.take_append_drop q (L.take k))
      rw [needs_append, List.take_take, Nat.min_eq_left h1, hq] at h3
      exact h3.symm
    rw [htk, List.drop_append_of_le_length (by omega), chain_append, put_append, ← h2, chain_len, hn]
    congr 2
    omega
theorem CrP.all {g q : Nat} {l2 l3 S : List ByteArray} {W : List Wr} {k : Nat} (h : CrP g q l2 (l2 ++ l3) S W k) (hq : l2.length = q) (hk : (l2 ++ l3).length = k) : Stand g (jou S []) l2 ∧ W = putL (2 + ((needs l2 : Nat) : Int)) (chainL g (needs l2) l3) := by
  rw [List.length_append] at hk
  rcases h with ⟨h1, _⟩ | ⟨_, h, h2⟩
  · omega
  · refine ⟨h, ?_⟩
    rw [List.take_of_length_le (by rw [List.length_append]; omega), ← hq, List.drop_left] at h2
    exact h2
theorem own_le {w : World} {base e n c : Nat} {A : Option Addr} {xs : List Value} (h : w.ownsRow base e 1 (.slice A n c) n xs) : n ≤ c ∧ c ≤ maxLen := by
  rcases h.2 with ⟨hv, h0⟩ | ⟨g, cap, cur, hv, _⟩
  · subst h0
    exact ⟨Nat.zero_le _, by injection hv with _ _ h3; rw [h3]; exact Nat.zero_le _⟩
  · have hv2 := hv
    injection hv with h1
    subst h1
    exact own_cap h
theorem BV.below {w w' : World} {v : Value} {l : List Bool} (h : BV w v l) (hb : Below w.heap.size w w') : BV w' v l := h.on hb

/-- Append, whatever comes of it: d, with the records, or as it was. -/
theorem append_either {v t : Value} {S : List ByteArray} {W : List Wr} (g a : Nat) (ts : List ByteArray) {w : World} (h : DV w v S W) (ht : SV w t ts) (hl : ts.length ≤ 65535) (hs : ∀ x ∈ ts, x.size ≤ 1000) (hm : W.length ≤ 90000) (hj : jB S W = true) (hg : 1 ≤ g) (hg2 : g ≤ 2147483647) (ha : a ≤ 128) :
    Calls Tryd.prog 21 #[v, .int .i64 g, .int .i64 a, t] w fun e w' => ∃ v' n' E', e = .returned (.tuple #[v', .int .i64 n', .int .i64 E']) ∧ DV w' v' S (if a + needs ts ≤ 128 then W ++ putL (2 + (a : Int)) (chainL g a ts) else W) ∧ Below w.heap.size w w' := by
  by_cases hf : a + needs ts ≤ 128
  · rw [if_pos hf]
    refine (append_inF (W' := W ++ putL (2 + (a : Int)) (chainL g a ts)) (n := a + needs ts) g a ts h ht hl hs hm hj hg hg2 hf rfl rfl).mono ?_
    rintro e w' ⟨v', rfl, hv, hb⟩
    exact ⟨v', _, _, rfl, hv.dv, hb⟩
  · rw [if_neg hf]
    refine (append_outF g a ts h ht hl hs (by omega) hj hg hg2 ha (by omega)).mono ?_
    rintro e w' ⟨rfl, hb⟩
    exact ⟨v, _, _, rfl, h.on hb, hb⟩
def oldW (g : Nat) (l : List ByteArray) : List Wr := if 0 + needs l ≤ 128 then [] ++ putL (2 + ((0 : Nat) : Int)) (chainL g 0 l) else []
theorem oldW_len (g : Nat) (l : List ByteArray) : (oldW g l).length ≤ 128 := by
  unfold oldW
  split
  · rw [List.nil_append, put_len, chain_len]; omega
  · simp
theorem oldW_j (g : Nat) (l : List ByteArray) : jB S0 (oldW g l) = true := by
  unfold oldW
  split
  · rename_i h
    exact jB_of (ch_right S0_right S0_ge h) S0_ge
  · exact aw_j0
theorem oldW_bare {g k : Nat} (l : List ByteArray) (hg : 1 ≤ g) (hg2 : g ≤ 2147483647) (hk : k ≤ 2147483647) (hne : g ≠ k) : Bare g (jou S0 (oldW k l)) := by
  unfold oldW
  split
  · rename_i h
    exact bare_other S0_ge hg2 hk hne h (bare_zero hg hg2)
  · exact bare_zero hg hg2

set_option maxHeartbeats 32000000 in
set_option maxRecDepth 100000 in
theorem crashes_walk (n0 : Nat) (A1 : Option Addr) (c1 : Nat) (l1 : List ByteArray) (A2 : Option Addr) (c2 : Nat) (l2 : List ByteArray) (A3 : Option Addr) (c3 : Nat) (l3 : List ByteArray) (v4 : Value) (ks : List Bool) (w : World) (h0 : n0 < 4294967296) (hv1 : AV w A1 c1 l1) (hv2 : AV w A2 c2 l2) (hv3 : AV w A3 c3 l3) (hv4 : BV w v4 ks) (hq4 : ks.length ≤ maxLen) :
    Calls Tryd.prog 6 #[.int .u32 n0, .slice A1 l1.length c1, .slice A2 l2.length c2, .slice A3 l3.length c3, v4] w fun e w' => e = .returned (.bool true) ∧ Below w.heap.size w w' := by
  have hlen1 := hv1.len
  have hlen2 := hv2.len
  have hlen3 := hv3.len
  obtain ⟨hA1, hc1, hcc1, hs1, hn1⟩ := hv1
  obtain ⟨hA2, hc2, hcc2, hs2, hn2⟩ := hv2
  obtain ⟨hA3, hc3, hcc3, hs3, hn3⟩ := hv3
  unfold maxLen at hcc1 hcc2 hcc3 hlen1 hlen2 hlen3 hq4
  have HA1 := Lib.hid hA1
  have HA2 := Lib.hid hA2
  have HA3 := Lib.hid hA3
  have HN1 := Lib.hid hn1
  have HN2 := Lib.hid hn2
  have HN3 := Lib.hid hn3
  have HS := Lib.hid (show ∀ x ∈ l1 ++ (l2 ++ l3), x.size ≤ maxLen from fun x hx => (List.mem_append.1 hx).elim (hs1 x) (fun hx => (List.mem_append.1 hx).elim (hs2 x) (hs3 x)))
  have HSV1 := Lib.hid (fun (wx : World) (hb : Below w.heap.size w wx) => show SV wx (.slice A1 l1.length c1) l1 from ⟨A1, c1, rfl, (hA1.below hb).more hb.size⟩)
  have HSN := Lib.hid (fun k x (h : (l1 ++ (l2 ++ l3))[k]? = some x) (h2 : ∀ x ∈ (l1 ++ (l2 ++ l3)).take k, x.size ≤ 300) (h3 : x.size ≤ 300) => show ∀ x ∈ (l1 ++ (l2 ++ l3)).take (k + 1), x.size ≤ 300 by
    obtain ⟨h1, rfl⟩ := List.getElem?_eq_some_iff.1 h
    exact sizes_snoc h1 h2 h3)
  have HTK := Lib.hid (fun k x (h : (l2 ++ l3)[k]? = some x) => show needs ((l2 ++ l3).take (k + 1)) = needs ((l2 ++ l3).take k) + needJ x.size by
    obtain ⟨h1, rfl⟩ := List.getElem?_eq_some_iff.1 h
    exact needs_take (l2 ++ l3) k h1)
  have HLA := Lib.hid (show (l1 ++ (l2 ++ l3)).length = l1.length + (l2.length + l3.length) by rw [List.length_append, List.length_append])
  have HLL := Lib.hid (show (l2 ++ l3).length = l2.length + l3.length from List.length_append)
  have HTQ := Lib.hid (show (l2 ++ l3).take l2.length = l2 from List.take_left)
  obtain ⟨KA, kc, rfl, hKA⟩ := hv4
  have HKB := Lib.hid (fun (wx : World) (hb : Below w.heap.size w wx) => BV.on (show BV w (.slice KA ks.length kc) ks from ⟨KA, kc, rfl, hKA⟩) hb)
  generalize hq1 : l1.length = q1 at *
  generalize hq2 : l2.length = q2 at *
  generalize hq3 : l3.length = q3 at *
  generalize hq4e : ks.length = q4 at *
  have HQ4 := Lib.hid hq4e
  have HQ1 := Lib.hid hq1
  have HQ2 := Lib.hid hq2
  have HQ3 := Lib.hid hq3
  clear hA1 hA2 hA3 hs1 hs2 hs3 hn1 hn2 hn3 hq1 hq2 hq3 hq4e hlen1 hlen2 hlen3 hKA
  by_cases hsz : (q1 ≤ 10 ∧ q2 ≤ 10) ∧ q3 ≤ 10 ∧ q4 ≤ 100
  · obtain ⟨⟨g1, g2⟩, g3, g4⟩ := hsz
    have hd1 : decide ((10 : Int) < q1) = false := decide_eq_false (by omega)
    have hd2 : decide (10 < q1) = false := decide_eq_false (by omega)
    have hd3 : decide ((10 : Int) < q2) = false := decide_eq_false (by omega)
    have hd4 : decide (10 < q2) = false := decide_eq_false (by omega)
    have hd5 : decide ((10 : Int) < q3) = false := decide_eq_false (by omega)
    have hd6 : decide (10 < q3) = false := decide_eq_false (by omega)
    have hd7 : decide ((100 : Int) < q4) = false := decide_eq_false (by omega)
    have hd8 : decide (100 < q4) = false := decide_eq_false (by omega)
    obtain ⟨p, hp⟩ : ∃ p : Nat, p = n0 % 2147483645 := ⟨_, rfl⟩
    have hp1 : p ≤ 2147483644 := by omega
    have e1 : (n0 : Int) % 2147483645 = p := by omega
    have hw1 : IntKind.i64.wrap ((2 : Int) + p) = ((2 + p : Nat) : Int) := by rw [IntWalk.i64_in _ (by omega)]; omega
    have hw2 : IntKind.i64.wrap ((2 : Int) + p - 1) = ((1 + p : Nat) : Int) := by rw [IntWalk.i64_in _ (by omega)]; omega
    clear hp
    go_enter Tryd.func6, Tryd.ntmps6
    go_wp2_with fail
    refine (aw_new w).mono ?_
    rintro e w1 ⟨v1, rfl, ⟨Ad, cd, Bd, dd, rfl, hAd, hBd⟩, hb1⟩
    have hvd : DV w1 _ S0 [] := ⟨Ad, cd, Bd, dd, rfl, hAd, hBd⟩
    rw [S0_len, show ([] : List Wr).length = 0 from rfl] at hvd ⊢
    have H1 := Lib.hid (Holds.fresh (w0 := w) hvd hb1)
    clear hvd hb1 hAd hBd
    have hsz : (w1.alloc (.cells #[.slice Ad 130 cd, .slice Bd 0 dd] 36)).heap.size = w1.heap.size + 1 := by simp
    have hown0 : ((w1.alloc (.cells #[.slice Ad 130 cd, .slice Bd 0 dd] 36)).alloc (.cells #[] 9)).ownsRow (w1.heap.size + 1) 9 1 (.slice (some ⟨w1.heap.size + 1, 0, none⟩) 0 0) 0 [] := by
      have h := World.ownsRow_made (base := (w1.alloc (.cells #[.slice Ad 130 cd, .slice Bd 0 dd] 36)).heap.size) (e := 9) (size := 1) (w1.alloc (.cells #[.slice Ad 130 cd, .slice Bd 0 dd] 36)) #[] 0 (Nat.le_refl _) (Nat.zero_le _) rfl
      rw [hsz] at h
      exact h
    have HB0 := Lib.hid ((Below.refl (w1.alloc (.cells #[.slice Ad 130 cd, .slice Bd 0 dd] 36)).heap.size (w1.alloc (.cells #[.slice Ad 130 cd, .slice Bd 0 dd] 36))).alloc (Nat.le_refl _) (.cells #[] 9))
    have HA1a := Lib.hid ((HA1.out.below (H1.out.on HB0.out).below).more (H1.out.on HB0.out).below.size)
    have hz0 : w1.heap.size + 1 ≤ ((w1.alloc (.cells #[.slice Ad 130 cd, .slice Bd 0 dd] 36)).alloc (.cells #[] 9)).heap.size := by simp
    have HZ0 := Lib.hid hz0
    clear hz0
    have HSZ := Lib.hid hsz
    clear hsz
    go_wp2_with (at_builtin; refine append_strs _ rfl _ _ rfl _ _ 0 _ rfl hown0 _ A1 q1 c1 l1 rfl HQ1.out HA1a.out HN1.out (by omega) HZ0.out ?_)
    intro v1 wa hown1 hg1
    have HB1 := Lib.hid (HB0.out.grown hg1 HB0.out.size (fun k hk => by rw [HSZ.out]; exact (hown0.lt k hk).1))
    obtain ⟨A7, c7, rfl⟩ := own_shape hown1
    have HA2a := Lib.hid ((HA2.out.below (H1.out.on HB1.out).below).more (H1.out.on HB1.out).below.size)
    have HZ1 := Lib.hid (show w1.heap.size + 1 ≤ wa.heap.size by have := HB1.out.size; rw [HSZ.out] at this; exact this)
    clear hg1 hown0
    go_wp2_with (at_builtin; refine append_strs _ rfl _ _ rfl _ _ q1 _ rfl hown1 _ A2 q2 c2 l2 rfl HQ2.out HA2a.out HN2.out (by omega) HZ1.out ?_)
    intro v2 wb hown2 hg2
    have HB2 := Lib.hid (HB1.out.grown hg2 HB1.out.size (fun k hk => by rw [HSZ.out]; exact (hown1.lt k hk).1))
    obtain ⟨A8, c8, rfl⟩ := own_shape hown2
    have HA3a := Lib.hid ((HA3.out.below (H1.out.on HB2.out).below).more (H1.out.on HB2.out).below.size)
    have HZ2 := Lib.hid (show w1.heap.size + 1 ≤ wb.heap.size by have := HB2.out.size; rw [HSZ.out] at this; exact this)
    clear hg2 hown1
    go_wp2_with (at_builtin; refine append_strs _ rfl _ _ rfl _ _ (q1 + q2) _ rfl hown2 _ A3 q3 c3 l3 rfl HQ3.out HA3a.out HN3.out (by omega) HZ2.out ?_)
    intro v3 wc hown3 hg3
    have HB3 := Lib.hid (HB2.out.grown hg3 HB2.out.size (fun k hk => by rw [HSZ.out]; exact (hown2.lt k hk).1))
    obtain ⟨A6, c6, rfl⟩ := own_shape hown3
    have H2 := Lib.hid (H1.out.on HB3.out)
    have HR := Lib.hid (show Strs wc wc.heap.size A6 (l1 ++ (l2 ++ l3)) by
      have h := hown3
      simp only [← List.map_append, List.append_assoc] at h
      exact Strs.own (n := q1 + q2 + q3) (c := c6) (by rw [HLA.out, ← Nat.add_assoc]; exact h))
    clear hg3 hown2 hown3 HA1a HA2a HA3a HB0 HB1 HB2 HB3 H1 HZ0 HZ1 HZ2 HSZ
    go_wp2
    go_loopw [61] (fun i wr => ∃ k : Nat, i = .int .i64 k ∧ k ≤ q1 + q2 + q3 ∧ (∀ x ∈ (l1 ++ (l2 ++ l3)).take k, x.size ≤ 300) ∧ wr = wc) (fun i _ => (q1 + q2 + q3 - intOf i).toNat)
    case atStart => exact ⟨0, rfl, by omega, by simp, rfl⟩
    case round =>
      obtain ⟨k, rfl, hk, hall, rfl⟩ := hrel
      have HALL := Lib.hid hall
      clear hall
      by_cases hlt : k < q1 + q2 + q3
      · obtain ⟨a1, rfl, hab, hca⟩ := HR.out (by rw [HLA.out]; omega)
        have c1' := hca k (by rw [HLA.out]; omega)
        have hm := HS.out _ (List.getElem_mem (by rw [HLA.out]; omega : k < (l1 ++ (l2 ++ l3)).length))
        have hgx := List.getElem?_eq_getElem (l := l1 ++ (l2 ++ l3)) (i := k) (by rw [HLA.out]; omega)
        generalize (l1 ++ (l2 ++ l3))[k]'(by rw [HLA.out]; omega) = x at *
        unfold maxLen at hm
        have hkk : decide ((k : Int) < q1 + q2 + q3) = true := decide_eq_true (by omega)
        clear hca
        by_cases hx : x.size ≤ 300
        · have hd9 : decide ((300 : Int) < x.size) = false := decide_eq_false (by omega)
          have hda : decide (300 < x.size) = false := decide_eq_false (by omega)
          have HSN1 := Lib.hid (HSN.out k x hgx HALL.out hx)
          clear hgx
          go_wp2
          go_roundw
          case rel => exact ⟨k + 1, by go_num, by omega, HSN1.out, by trivial⟩
          case measure => simp [intOf]; omega
        · have hd9 : decide ((300 : Int) < x.size) = true := decide_eq_true (by omega)
          have hda : decide (300 < x.size) = true := decide_eq_true (by omega)
          clear hgx
          go_wp2_with fail
          refine (awake_true _).mono ?_
          rintro e w9 ⟨rfl, hb9⟩
          go_wp2
          go_ret
          exact ⟨rfl, H2.out.below.trans (hb9.mono H2.out.below.size)⟩
      · obtain rfl : k = q1 + q2 + q3 := by omega
        have hall := HALL.out
        rw [show q1 + q2 + q3 = (l1 ++ (l2 ++ l3)).length by rw [HLA.out]; omega, List.take_length] at hall
        have HS1 := Lib.hid (show ∀ x ∈ l1, x.size ≤ 1000 from fun x hx => Nat.le_trans (hall x (List.mem_append_left _ hx)) (by decide))
        have HS23 := Lib.hid (show ∀ x ∈ l2 ++ l3, x.size ≤ 300 from fun x hx => hall x (List.mem_append_right _ hx))
        have HS3 := Lib.hid (show ∀ x ∈ l3, x.size ≤ 1000 from fun x hx => Nat.le_trans (hall x (List.mem_append_right _ (List.mem_append_right _ hx))) (by decide))
        have hkk : decide (((q1 : Int) + q2 + q3) < q1 + q2 + q3) = false := decide_eq_false (by omega)
        clear hall HALL HSN HS HR hlt hk
        have hap := append_either (1 + p) 0 l1 H2.out.dv (HSV1.out _ H2.out.below) (by rw [HQ1.out]; omega) HS1.out (by decide) aw_j0 (by omega) (by omega) (by omega)
        rw [show (if 0 + needs l1 ≤ 128 then [] ++ putL (2 + ((0 : Nat) : Int)) (chainL (1 + p) 0 l1) else []) = oldW (1 + p) l1 from rfl] at hap
        have hol := oldW_len (1 + p) l1
        have hoj := oldW_j (1 + p) l1
        have hob := oldW_bare (g := 2 + p) (k := 1 + p) l1 (by omega) (by omega) (by omega) (by omega)
        obtain ⟨W1, hW1⟩ : ∃ W1, W1 = oldW (1 + p) l1 := ⟨_, rfl⟩
        rw [← hW1] at hap hol hoj hob
        obtain ⟨m1, hm1⟩ : ∃ m1, m1 = W1.length := ⟨_, rfl⟩
        have HM1 := Lib.hid hm1
        rw [← hm1] at hol
        have HOJ := Lib.hid hoj
        have HOB := Lib.hid hob
        clear hW1 hm1 hoj hob
        obtain ⟨k0, k1⟩ := DBlk.cells H2.out.blk
        have hzb := Box.lt H2.out.blk
        go_wp2_with fail
        refine hap.mono ?_
        clear hap k0 k1 hzb
        rintro e wd ⟨vd, nd, ed, rfl, ⟨Ag, cg, Bg, dg, rfl, hAg, hBg⟩, hbd⟩
        have hvg : DV wd _ S0 W1 := ⟨Ag, cg, Bg, dg, rfl, hAg, hBg⟩
        rw [S0_len, ← HM1.out] at hvg ⊢
        have HX := Lib.hid (H2.out.on hbd)
        have H3 := Lib.hid (HX.out.put hvg)
        have f0 := Box.free HX.out.blk 0
        have f1 := Box.free HX.out.blk 1
        obtain ⟨k0, k1⟩ := DBlk.cells HX.out.blk
        have hzb := Box.lt HX.out.blk
        clear hvg hAg hBg hbd H2
        generalize hwe : (wd.setCell ⟨w1.heap.size, 0, none⟩ (.slice Ag 130 cg)).setCell ⟨w1.heap.size, 1, none⟩ (.slice Bg m1 dg) = we at *
        have hown0 : (we.alloc (.cells #[] 9)).ownsRow we.heap.size 9 1 (.slice (some ⟨we.heap.size, 0, none⟩) 0 0) 0 [] := World.ownsRow_made we #[] 0 (Nat.le_refl _) (Nat.zero_le _) rfl
        have HB0 := Lib.hid ((Below.refl we.heap.size we).alloc (Nat.le_refl _) (.cells #[] 9))
        have HA2a := Lib.hid ((HA2.out.below (H3.out.on HB0.out).below).more (H3.out.on HB0.out).below.size)
        have HWS := Lib.hid (show we.heap.size = wd.heap.size by rw [← hwe]; simp)
        have HY0 := Lib.hid (show wd.heap.size ≤ (we.alloc (.cells #[] 9)).heap.size by have := HWS.out; simp; omega)
        subst hwe
        rw [HWS.out] at hown0
        go_wp2_with (at_builtin; refine append_strs _ rfl _ _ rfl _ _ 0 _ rfl hown0 _ A2 q2 c2 l2 rfl HQ2.out HA2a.out HN2.out (by omega) HY0.out ?_)
        intro v1' wf hown1 hg1
        have HB1 := Lib.hid (HB0.out.grown hg1 HB0.out.size (fun k hk => by have h1 := (hown0.lt k hk).1; rw [HWS.out]; exact h1))
        obtain ⟨A7', c7', rfl⟩ := own_shape hown1
        have HA3a := Lib.hid ((HA3.out.below (H3.out.on HB1.out).below).more (H3.out.on HB1.out).below.size)
        have HY1 := Lib.hid (show wd.heap.size ≤ wf.heap.size by have := HB1.out.size; rw [HWS.out] at this; exact this)
        clear hg1 hown0
        go_wp2_with (at_builtin; refine append_strs _ rfl _ _ rfl _ _ q2 _ rfl hown1 _ A3 q3 c3 l3 rfl HQ3.out HA3a.out HN3.out (by omega) HY1.out ?_)
        intro v2' wg hown2 hg2
        have HB2 := Lib.hid (HB1.out.grown hg2 HB1.out.size (fun k hk => by have h1 := (hown1.lt k hk).1; rw [HWS.out]; exact h1))
        obtain ⟨A9, c9, rfl⟩ := own_shape hown2
        have H4 := Lib.hid (H3.out.on HB2.out)
        obtain ⟨hc9, hc9m⟩ := own_le hown2
        unfold maxLen at hc9m
        have hown4 : wg.ownsRow wd.heap.size 9 1 (.slice A9 (q2 + q3) c9) (q2 + q3) ((l2 ++ l3).map Value.string) := by
          rw [List.map_append]
          exact hown2
        have HO4 := Lib.hid hown4
        clear hg2 hown1 hown2 hown4 HA2a HA3a HB0 HB1 HB2 H3 HX f0 f1 k0 k1 hzb
        go_wp2
        go_loopw [14, 86] (fun t i wr => ∃ (k z : Nat) (Ad : Option Addr) (cd : Nat) (Bd : Option Addr) (dd m : Nat) (S : List ByteArray) (W : List Wr), i = .int .i64 k ∧ t = .int .i64 z ∧ k ≤ q2 + q3 ∧ z = needs ((l2 ++ l3).take k) ∧ z ≤ 128 ∧ wr.ownsRow wd.heap.size 9 1 (.slice A9 (q2 + q3) c9) (q2 + q3) ((l2 ++ l3).map Value.string) ∧ Holds w wr w1.heap.size Ad 130 cd Bd m dd S W ∧ W.length = m ∧ m ≤ 128 + z ∧ S.length = 130 ∧ jB S W = true ∧ CrI (2 + p) q2 l2 (l2 ++ l3) S W k) (fun _ i _ => (q2 + q3 - intOf i).toNat)
        case atStart => exact ⟨0, 0, Ag, cg, Bg, dg, m1, S0, W1, rfl, rfl, by omega, rfl, by omega, HO4.out, H4.out, HM1.out.symm, by omega, S0_len, HOJ.out, .inl ⟨Nat.zero_le _, Stand.nil (jou_len S0_ge) HOB.out⟩⟩
        case round =>
          obtain ⟨k, z, Ad, cd, Bd, dd, m, S, W, rfl, rfl, hk, hz, hz128, hrow, hH, hWl, hmz, hSl, hj, hci⟩ := hrel
          have HZ := Lib.hid hz
          have HRW := Lib.hid hrow
          have HH := Lib.hid hH
          have HWL0 := Lib.hid hWl
          have HSL0 := Lib.hid hSl
          have HJ0 := Lib.hid hj
          have HCI := Lib.hid hci
          have hrs : Strs wr wr.heap.size A9 (l2 ++ l3) := Strs.own (n := q2 + q3) (c := c9) (by rw [HLL.out]; exact hrow)
          clear hz hrow hH hWl hSl hj hci
          obtain ⟨k0, k1⟩ := DBlk.cells HH.out.blk
          have hzb := Box.lt HH.out.blk
          by_cases hlt : k < q2 + q3
          · obtain ⟨a1, rfl, hab, hca⟩ := hrs (by rw [HLL.out]; omega)
            have c1' := hca k (by rw [HLL.out]; omega)
            have hm := HS23.out _ (List.getElem_mem (by rw [HLL.out]; omega : k < (l2 ++ l3).length))
            have hgx := List.getElem?_eq_getElem (l := l2 ++ l3) (i := k) (by rw [HLL.out]; omega)
            generalize (l2 ++ l3)[k]'(by rw [HLL.out]; omega) = x at *
            have hkk : decide ((k : Int) < q2 + q3) = true := decide_eq_true (by omega)
            have HTK1 := Lib.hid (HTK.out k x hgx)
            have HGX := Lib.hid hgx
            have h13 := needJ_300 hm
            have hpos := needJ_pos x.size
            obtain ⟨y, hy⟩ : ∃ y, y = needJ x.size := ⟨_, rfl⟩
            rw [← hy] at HTK1 h13 hpos
            have HY := Lib.hid hy
            clear hy hgx hca
            by_cases hkq : k = q2
            · have hqe : ((k : Int) == q2) = true := by simp; omega
              have HCP := Lib.hid (show CrP (2 + p) q2 l2 (l2 ++ l3) (doneL S W) [] k from CrI.flush HCI.out hkq HTQ.out)
              have HWL := Lib.hid (show ([] : List Wr).length = 0 from rfl)
              have HKQ := Lib.hid hkq
              clear hkq
              have hfl := flush_dv HH.out.dv (by rw [HWL0.out]; omega) (jB_parts HJ0.out).1
              go_wp2_with fail
              refine hfl.mono ?_
              clear hfl
              rintro e w4 ⟨v4', rfl, ⟨Af, cf, Bf, df, rfl, hAf, hBf⟩, hb4⟩
              have hvf : DV w4 _ (doneL S W) [] := ⟨Af, cf, Bf, df, rfl, hAf, hBf⟩
              have HSL := Lib.hid (show (doneL S W).length = 130 by rw [done_len]; exact HSL0.out)
              rw [HSL.out, show ([] : List Wr).length = 0 from rfl] at hvf ⊢
              have HG4 := Lib.hid (HH.out.on hb4)
              have HO4 := Lib.hid (own_below HRW.out hb4)
              have HX := Lib.hid (HG4.out.put hvf)
              have HRX := Lib.hid (own_beside (Box.set HG4.out.blk 0 (.slice Af 130 cf)) (own_beside HG4.out.blk HO4.out 0 (.slice Af 130 cf)) 1 (.slice Bf 0 df))
              have HJ := Lib.hid (show jB (doneL S W) [] = true from jB_of (done_right (jB_parts HJ0.out).1 (fun _ h => h)) (by rw [HSL.out]; exact Nat.le_refl _))
              have f0 := Box.free HG4.out.blk 0
              have f1 := Box.free HG4.out.blk 1
              clear k0 k1 hzb
              obtain ⟨k0, k1⟩ := DBlk.cells HG4.out.blk
              have hzb := Box.lt HG4.out.blk
              clear hvf hAf hBf hb4 HH HRW
              have hba0 : Below ((w4.setCell ⟨w1.heap.size, 0, none⟩ (.slice Af 130 cf)).setCell ⟨w1.heap.size, 1, none⟩ (.slice Bf 0 df)).heap.size ((w4.setCell ⟨w1.heap.size, 0, none⟩ (.slice Af 130 cf)).setCell ⟨w1.heap.size, 1, none⟩ (.slice Bf 0 df)) (((w4.setCell ⟨w1.heap.size, 0, none⟩ (.slice Af 130 cf)).setCell ⟨w1.heap.size, 1, none⟩ (.slice Bf 0 df)).alloc (.cells #[.string x] 9)) := (Below.refl _ _).alloc (Nat.le_refl _) _
              have HH0 := Lib.hid (HX.out.on hba0)
              have HO0 := Lib.hid (own_below HRX.out hba0)
              have hsv := sv_one ((w4.setCell ⟨w1.heap.size, 0, none⟩ (.slice Af 130 cf)).setCell ⟨w1.heap.size, 1, none⟩ (.slice Bf 0 df)) 9 x (g := w4.heap.size) (by simp)
              by_cases hfit : z + y ≤ 128
              · obtain ⟨W2, hW2⟩ : ∃ W2, W2 = ([] : List Wr) ++ putL (2 + (z : Int)) (chainL (2 + p) z [x]) := ⟨_, rfl⟩
                obtain ⟨m2, hm2⟩ : ∃ m2, m2 = W2.length := ⟨_, rfl⟩
                have hap := append_inF (W' := W2) (n := z + y) (2 + p) z [x] HH0.out.dv hsv (by simp) (by intro t ht; rw [List.mem_singleton.1 ht]; omega) (by rw [HWL.out]; omega) HJ.out (by omega) (by omega) (by rw [needs_one, ← HY.out]; exact hfit) hW2 (by rw [needs_one, ← HY.out])
                have hm2z : m2 ≤ 128 + (z + y) := by
                  have h1 : W2.length = ([] : List Wr).length + y := by rw [hW2, List.length_append, put_len, chain_len, needs_one, ← HY.out]
                  rw [hm2, h1, HWL.out]
                  omega
                have HJ2 := Lib.hid (show jB (doneL S W) W2 = true from jB_of (by rw [hW2]; exact ch_right (jB_parts HJ.out).1 (by rw [HSL.out]; exact Nat.le_refl _) (by rw [needs_one, ← HY.out]; exact hfit)) (by rw [HSL.out]; exact Nat.le_refl _))
                have HC2 := Lib.hid (show CrI (2 + p) q2 l2 (l2 ++ l3) (doneL S W) W2 (k + 1) by
                  have h := CrP.next HCP.out (by rw [HSL.out]; exact Nat.le_refl _) (by omega) HGX.out (by rw [← HZ.out, ← HY.out]; exact hfit) HTQ.out
                  rw [← HZ.out, ← hW2] at h
                  exact h)
                have HM2 := Lib.hid hm2
                clear hW2 hm2
                go_wp2_with fail
                refine hap.mono ?_
                clear hap k0 k1 hzb
                rintro e w3 ⟨v3, rfl, ⟨Ae, ce, Be, de, rfl, hAe, hBe, _, _⟩, hb3⟩
                have hdv : DV w3 _ (doneL S W) W2 := ⟨Ae, ce, Be, de, rfl, hAe, hBe⟩
                rw [HSL.out, ← HM2.out] at hdv ⊢
                have hba3 : Below w3.heap.size w3 (w3.alloc (.cells #[.slice Ae 130 ce, .slice Be m2 de] 36)) := (Below.refl _ _).alloc (Nat.le_refl _) _
                have HK := Lib.hid ((HH0.out.on hb3).on hba3)
                have HDV := Lib.hid (hdv.on hba3)
                have HOK := Lib.hid (own_below (own_below HO0.out hb3) hba3)
                have HGW := Lib.hid (show DBlk (w3.alloc (.cells #[.slice Ae 130 ce, .slice Be m2 de] 36)) w3.heap.size Ae 130 ce Be m2 de from Box.fresh _ _ _)
                generalize hwa : w3.alloc (.cells #[.slice Ae 130 ce, .slice Be m2 de] 36) = wa at *
                have HN := Lib.hid (HK.out.put HDV.out)
                have HON := Lib.hid (own_beside (Box.set HK.out.blk 0 (.slice Ae 130 ce)) (own_beside HK.out.blk HOK.out 0 (.slice Ae 130 ce)) 1 (.slice Be m2 de))
                have f0 := Box.free HK.out.blk 0
                have f1 := Box.free HK.out.blk 1
                obtain ⟨k0, k1⟩ := DBlk.cells HK.out.blk
                have hzb := Box.lt HK.out.blk
                obtain ⟨j0, j1⟩ := DBlk.cells HGW.out
                have hzw := Box.lt HGW.out
                clear hdv hAe hBe hb3 hba3 HH0 HO0 hsv hba0
                subst hwa
                go_wp2
                go_roundw
                case rel => exact ⟨k + 1, z + y, Ae, ce, Be, de, m2, (doneL S W), W2, by go_num, by go_num, by omega, by rw [HTK1.out, ← HZ.out], by omega, HON.out, HN.out, HM2.out.symm, hm2z, HSL.out, HJ2.out, HC2.out⟩
                case measure => simp [intOf]; omega
              · have hap := append_outF (2 + p) z [x] HH0.out.dv hsv (by simp) (by intro t ht; rw [List.mem_singleton.1 ht]; omega) (by rw [HWL.out]; omega) HJ.out (by omega) (by omega) (by omega) (by rw [needs_one, ← HY.out]; omega)
                go_wp2_with fail
                refine hap.mono ?_
                clear hap k0 k1 hzb
                rintro e w3 ⟨rfl, hb3⟩
                have HB3 := Lib.hid ((HH0.out.below.trans (hb3.mono HH0.out.below.size)).alloc (HH0.out.below.trans (hb3.mono HH0.out.below.size)).size (.cells #[.slice Af 130 cf, .slice Bf 0 df] 36))
                clear hb3
                go_wp2_with fail
                refine (awake_true _).mono ?_
                rintro e w9 ⟨rfl, hb9⟩
                go_wp2
                go_ret
                exact ⟨rfl, HB3.out.trans (hb9.mono HB3.out.size)⟩
            · have hqe : ((k : Int) == q2) = false := by simp; omega
              have HCP := Lib.hid (CrI.keep HCI.out hkq)
              have HWL := Lib.hid HWL0.out
              have HSL := Lib.hid HSL0.out
              have HJ := Lib.hid HJ0.out
              have HX := Lib.hid HH.out
              have HRX := Lib.hid HRW.out
              have hba0 : Below wr.heap.size wr (wr.alloc (.cells #[.string x] 9)) := (Below.refl _ _).alloc (Nat.le_refl _) _
              have HH0 := Lib.hid (HX.out.on hba0)
              have HO0 := Lib.hid (own_below HRX.out hba0)
              have hsv := sv_one wr 9 x (g := wr.heap.size) rfl
              by_cases hfit : z + y ≤ 128
              · obtain ⟨W2, hW2⟩ : ∃ W2, W2 = W ++ putL (2 + (z : Int)) (chainL (2 + p) z [x]) := ⟨_, rfl⟩
                obtain ⟨m2, hm2⟩ : ∃ m2, m2 = W2.length := ⟨_, rfl⟩
                have hap := append_inF (W' := W2) (n := z + y) (2 + p) z [x] HH0.out.dv hsv (by simp) (by intro t ht; rw [List.mem_singleton.1 ht]; omega) (by rw [HWL.out]; omega) HJ.out (by omega) (by omega) (by rw [needs_one, ← HY.out]; exact hfit) hW2 (by rw [needs_one, ← HY.out])
                have hm2z : m2 ≤ 128 + (z + y) := by
                  have h1 : W2.length = W.length + y := by rw [hW2, List.length_append, put_len, chain_len, needs_one, ← HY.out]
                  rw [hm2, h1, HWL.out]
                  omega
                have HJ2 := Lib.hid (show jB S W2 = true from jB_of (by rw [hW2]; exact ch_right (jB_parts HJ.out).1 (by rw [HSL.out]; exact Nat.le_refl _) (by rw [needs_one, ← HY.out]; exact hfit)) (by rw [HSL.out]; exact Nat.le_refl _))
                have HC2 := Lib.hid (show CrI (2 + p) q2 l2 (l2 ++ l3) S W2 (k + 1) by
                  have h := CrP.next HCP.out (by rw [HSL.out]; exact Nat.le_refl _) (by omega) HGX.out (by rw [← HZ.out, ← HY.out]; exact hfit) HTQ.out
                  rw [← HZ.out, ← hW2] at h
                  exact h)
                have HM2 := Lib.hid hm2
                clear hW2 hm2
                go_wp2_with fail
                refine hap.mono ?_
                clear hap k0 k1 hzb
                rintro e w3 ⟨v3, rfl, ⟨Ae, ce, Be, de, rfl, hAe, hBe, _, _⟩, hb3⟩
                have hdv : DV w3 _ S W2 := ⟨Ae, ce, Be, de, rfl, hAe, hBe⟩
                rw [HSL.out, ← HM2.out] at hdv ⊢
                have hba3 : Below w3.heap.size w3 (w3.alloc (.cells #[.slice Ae 130 ce, .slice Be m2 de] 36)) := (Below.refl _ _).alloc (Nat.le_refl _) _
                have HK := Lib.hid ((HH0.out.on hb3).on hba3)
                have HDV := Lib.hid (hdv.on hba3)
                have HOK := Lib.hid (own_below (own_below HO0.out hb3) hba3)
                have HGW := Lib.hid (show DBlk (w3.alloc (.cells #[.slice Ae 130 ce, .slice Be m2 de] 36)) w3.heap.size Ae 130 ce Be m2 de from Box.fresh _ _ _)
                generalize hwa : w3.alloc (.cells #[.slice Ae 130 ce, .slice Be m2 de] 36) = wa at *
                have HN := Lib.hid (HK.out.put HDV.out)
                have HON := Lib.hid (own_beside (Box.set HK.out.blk 0 (.slice Ae 130 ce)) (own_beside HK.out.blk HOK.out 0 (.slice Ae 130 ce)) 1 (.slice Be m2 de))
                have f0 := Box.free HK.out.blk 0
                have f1 := Box.free HK.out.blk 1
                obtain ⟨k0, k1⟩ := DBlk.cells HK.out.blk
                have hzb := Box.lt HK.out.blk
                obtain ⟨j0, j1⟩ := DBlk.cells HGW.out
                have hzw := Box.lt HGW.out
                clear hdv hAe hBe hb3 hba3 HH0 HO0 hsv hba0
                subst hwa
                go_wp2
                go_roundw
                case rel => exact ⟨k + 1, z + y, Ae, ce, Be, de, m2, S, W2, by go_num, by go_num, by omega, by rw [HTK1.out, ← HZ.out], by omega, HON.out, HN.out, HM2.out.symm, hm2z, HSL.out, HJ2.out, HC2.out⟩
                case measure => simp [intOf]; omega
              · have hap := append_outF (2 + p) z [x] HH0.out.dv hsv (by simp) (by intro t ht; rw [List.mem_singleton.1 ht]; omega) (by rw [HWL.out]; omega) HJ.out (by omega) (by omega) (by omega) (by rw [needs_one, ← HY.out]; omega)
                go_wp2_with fail
                refine hap.mono ?_
                clear hap k0 k1 hzb
                rintro e w3 ⟨rfl, hb3⟩
                have HB3 := Lib.hid ((HH0.out.below.trans (hb3.mono HH0.out.below.size)).alloc (HH0.out.below.trans (hb3.mono HH0.out.below.size)).size (.cells #[.slice Ad 130 cd, .slice Bd m dd] 36))
                clear hb3
                go_wp2_with fail
                refine (awake_true _).mono ?_
                rintro e w9 ⟨rfl, hb9⟩
                go_wp2
                go_ret
                exact ⟨rfl, HB3.out.trans (hb9.mono HB3.out.size)⟩
          · obtain rfl : k = q2 + q3 := by omega
            have HTA := Lib.hid (show (l2 ++ l3).take (q2 + q3) = l2 ++ l3 by rw [← HLL.out, List.take_length])
            have hkk : decide (((q2 : Int) + q3) < q2 + q3) = false := decide_eq_false (by omega)
            generalize hkn : q2 + q3 = k at *
            have HKN := Lib.hid hkn
            have hkn2 : (q2 : Int) + q3 = k := by omega
            clear hrs
            by_cases hq30 : q3 = 0
            · have hqe : ((q3 : Int) == 0) = true := by simp; omega
              have HCP := Lib.hid (show CrP (2 + p) q2 l2 (l2 ++ l3) (doneL S W) [] k from CrI.flush HCI.out (by omega) HTQ.out)
              have HWL := Lib.hid (show ([] : List Wr).length = 0 from rfl)
              have hfl := flush_dv HH.out.dv (by rw [HWL0.out]; omega) (jB_parts HJ0.out).1
              go_wp2_with fail
              refine hfl.mono ?_
              clear hfl
              rintro e w4 ⟨v4', rfl, ⟨Af, cf, Bf, df, rfl, hAf, hBf⟩, hb4⟩
              have hvf : DV w4 _ (doneL S W) [] := ⟨Af, cf, Bf, df, rfl, hAf, hBf⟩
              have HSL := Lib.hid (show (doneL S W).length = 130 by rw [done_len]; exact HSL0.out)
              rw [HSL.out, show ([] : List Wr).length = 0 from rfl] at hvf ⊢
              have HG4 := Lib.hid (HH.out.on hb4)
              have HO4 := Lib.hid (own_below HRW.out hb4)
              have HX := Lib.hid (HG4.out.put hvf)
              have HRX := Lib.hid (own_beside (Box.set HG4.out.blk 0 (.slice Af 130 cf)) (own_beside HG4.out.blk HO4.out 0 (.slice Af 130 cf)) 1 (.slice Bf 0 df))
              have HJ := Lib.hid (show jB (doneL S W) [] = true from jB_of (done_right (jB_parts HJ0.out).1 (fun _ h => h)) (by rw [HSL.out]; exact Nat.le_refl _))
              have f0 := Box.free HG4.out.blk 0
              have f1 := Box.free HG4.out.blk 1
              clear k0 k1 hzb
              obtain ⟨k0, k1⟩ := DBlk.cells HG4.out.blk
              have hzb := Box.lt HG4.out.blk
              clear hvf hAf hBf hb4 HH HRW
              obtain ⟨hst, hWe⟩ := CrP.all HCP.out HQ2.out HLL.out
              have hcr := crash_dv (ks := ks) HX.out.dv (HKB.out _ HX.out.below) (by rw [HWL.out]; omega) (by rw [HQ4.out]; omega) (jB_parts HJ.out).1
              obtain ⟨kk, hkk1, hkk2, hkt⟩ := crash_told (g := 2 + p) (us := l3) ks (by rw [HSL.out]; exact Nat.le_refl _) hst HS3.out (by have h1 := HZ.out; rw [HTA.out, needs_append] at h1; omega)
              rw [← hWe] at hkt
              have hjc : jB (doneL (doneL S W) (keptL ks ([] : List Wr))) [] = true := jB_of (done_right (jB_parts HJ.out).1 (fun _ h => kept_mem h)) (by rw [done_len, HSL.out]; exact Nat.le_refl _)
              rw [HQ2.out] at hkk1
              rw [HLL.out] at hkk2
              have HKT := Lib.hid hkt
              have HJC := Lib.hid hjc
              clear hst hWe hkt hjc
              go_wp2_with fail
              refine hcr.mono ?_
              clear hcr k0 k1 hzb
              rintro e w5 ⟨v5, rfl, hv5, hb5⟩
              have htx := texts_ok ((2 + p : Nat) : Int) hv5 (by decide) HJC.out
              obtain ⟨A5, c5, B5, d5, rfl, hA5, hB5⟩ := hv5
              have HX5 := Lib.hid (HX.out.on hb5)
              have HO5 := Lib.hid (own_below HRX.out hb5)
              clear hb5 hA5 hB5 HX HRX
              go_wp2_with fail
              refine htx.mono ?_
              clear htx
              rintro e w6 ⟨v6, ts, rfl, hv6, ht, hb6⟩
              have hts := Told.only ((ToldP.of (by omega) (by omega) (by rw [jou_len (by rw [done_len, HSL.out]; exact Nat.le_refl _)]; exact Nat.le_refl _)).1 ht) HKT.out
              have hlt : ts.length = kk := by rw [hts, List.length_take, HLL.out]; omega
              have HX6 := Lib.hid (HX5.out.on hb6)
              have HO6 := Lib.hid (own_below HO5.out hb6)
              have HV6 := Lib.hid hv6.sv
              obtain ⟨A6, c6, rfl, _, _⟩ := hv6
              have HTS := Lib.hid hts
              have HLT := Lib.hid hlt
              generalize needs ts = nts at *
              rw [HLT.out] at HV6 ⊢
              clear hb6 ht HX5 HO5 hts hlt
              have hsv9 : SV w6 (.slice A9 kk c9) ((l2 ++ l3).take kk) := ⟨A9, c9, by rw [List.length_take, HLL.out]; congr 1; omega, (Strs.own (n := k) (c := c9) (by rw [HLL.out]; exact HO6.out)).take kk⟩
              have hsm := same_eq HV6.out hsv9 HTS.out (by rw [HLT.out]; unfold maxLen; omega)
              have hc1 : decide ((q2 : Int) ≤ kk) = true := decide_eq_true (by omega)
              have hc2 : decide (q2 ≤ kk) = true := decide_eq_true (by omega)
              have hc3 : decide ((kk : Int) ≤ k) = true := decide_eq_true (by omega)
              have hc4 : decide (kk ≤ k) = true := decide_eq_true (by omega)
              clear hsv9
              go_wp2_with fail
              refine hsm.mono ?_
              clear hsm
              rintro e w7 ⟨rfl, hb7⟩
              have HX7 := Lib.hid (HX6.out.on hb7)
              clear hb7 HX6 HO6 HV6
              go_wp2_with fail
              refine (awake_true _).mono ?_
              rintro e w9 ⟨rfl, hb9⟩
              go_wp2
              go_ret
              exact ⟨rfl, HX7.out.below.trans (hb9.mono HX7.out.below.size)⟩
            · have hqe : ((q3 : Int) == 0) = false := by simp; omega
              have HCP := Lib.hid (CrI.keep HCI.out (by omega))
              have HWL := Lib.hid HWL0.out
              have HSL := Lib.hid HSL0.out
              have HJ := Lib.hid HJ0.out
              have HX := Lib.hid HH.out
              have HRX := Lib.hid HRW.out
              obtain ⟨hst, hWe⟩ := CrP.all HCP.out HQ2.out HLL.out
              have hcr := crash_dv (ks := ks) HX.out.dv (HKB.out _ HX.out.below) (by rw [HWL.out]; omega) (by rw [HQ4.out]; omega) (jB_parts HJ.out).1
              obtain ⟨kk, hkk1, hkk2, hkt⟩ := crash_told (g := 2 + p) (us := l3) ks (by rw [HSL.out]; exact Nat.le_refl _) hst HS3.out (by have h1 := HZ.out; rw [HTA.out, needs_append] at h1; omega)
              rw [← hWe] at hkt
              have hjc : jB (doneL S (keptL ks W)) [] = true := jB_of (done_right (jB_parts HJ.out).1 (fun _ h => kept_mem h)) (by rw [done_len, HSL.out]; exact Nat.le_refl _)
              rw [HQ2.out] at hkk1
              rw [HLL.out] at hkk2
              have HKT := Lib.hid hkt
              have HJC := Lib.hid hjc
              clear hst hWe hkt hjc
              go_wp2_with fail
              refine hcr.mono ?_
              clear hcr k0 k1 hzb
              rintro e w5 ⟨v5, rfl, hv5, hb5⟩
              have htx := texts_ok ((2 + p : Nat) : Int) hv5 (by decide) HJC.out
              obtain ⟨A5, c5, B5, d5, rfl, hA5, hB5⟩ := hv5
              have HX5 := Lib.hid (HX.out.on hb5)
              have HO5 := Lib.hid (own_below HRX.out hb5)
              clear hb5 hA5 hB5 HX HRX
              go_wp2_with fail
              refine htx.mono ?_
              clear htx
              rintro e w6 ⟨v6, ts, rfl, hv6, ht, hb6⟩
              have hts := Told.only ((ToldP.of (by omega) (by omega) (by rw [jou_len (by rw [done_len, HSL.out]; exact Nat.le_refl _)]; exact Nat.le_refl _)).1 ht) HKT.out
              have hlt : ts.length = kk := by rw [hts, List.length_take, HLL.out]; omega
              have HX6 := Lib.hid (HX5.out.on hb6)
              have HO6 := Lib.hid (own_below HO5.out hb6)
              have HV6 := Lib.hid hv6.sv
              obtain ⟨A6, c6, rfl, _, _⟩ := hv6
              have HTS := Lib.hid hts
              have HLT := Lib.hid hlt
              generalize needs ts = nts at *
              rw [HLT.out] at HV6 ⊢
              clear hb6 ht HX5 HO5 hts hlt
              have hsv9 : SV w6 (.slice A9 kk c9) ((l2 ++ l3).take kk) := ⟨A9, c9, by rw [List.length_take, HLL.out]; congr 1; omega, (Strs.own (n := k) (c := c9) (by rw [HLL.out]; exact HO6.out)).take kk⟩
              have hsm := same_eq HV6.out hsv9 HTS.out (by rw [HLT.out]; unfold maxLen; omega)
              have hc1 : decide ((q2 : Int) ≤ kk) = true := decide_eq_true (by omega)
              have hc2 : decide (q2 ≤ kk) = true := decide_eq_true (by omega)
              have hc3 : decide ((kk : Int) ≤ k) = true := decide_eq_true (by omega)
              have hc4 : decide (kk ≤ k) = true := decide_eq_true (by omega)
              clear hsv9
              go_wp2_with fail
              refine hsm.mono ?_
              clear hsm
              rintro e w7 ⟨rfl, hb7⟩
              have HX7 := Lib.hid (HX6.out.on hb7)
              clear hb7 HX6 HO6 HV6
              go_wp2_with fail
              refine (awake_true _).mono ?_
              rintro e w9 ⟨rfl, hb9⟩
              go_wp2
              go_ret
              exact ⟨rfl, HX7.out.below.trans (hb9.mono HX7.out.below.size)⟩
  · by_cases x1 : 10 < q1
    · have hd1 : decide ((10 : Int) < q1) = true := decide_eq_true (by omega)
      have hd2 : decide (10 < q1) = true := decide_eq_true x1
      go_enter Tryd.func6, Tryd.ntmps6
      go_wp2_with fail
      refine (awake_true _).mono ?_
      rintro e w1 ⟨rfl, hb1⟩
      go_wp2
      go_ret
      exact ⟨rfl, hb1⟩
    · have hd1 : decide ((10 : Int) < q1) = false := decide_eq_false (by omega)
      have hd2 : decide (10 < q1) = false := decide_eq_false x1
      by_cases x2 : 10 < q2
      · have hd3 : decide ((10 : Int) < q2) = true := decide_eq_true (by omega)
        have hd4 : decide (10 < q2) = true := decide_eq_true x2
        go_enter Tryd.func6, Tryd.ntmps6
        go_wp2_with fail
        refine (awake_true _).mono ?_
        rintro e w1 ⟨rfl, hb1⟩
        go_wp2
        go_ret
        exact ⟨rfl, hb1⟩
      · have hd3 : decide ((10 : Int) < q2) = false := decide_eq_false (by omega)
        have hd4 : decide (10 < q2) = false := decide_eq_false x2
        by_cases x3 : 10 < q3
        · have hd5 : decide ((10 : Int) < q3) = true := decide_eq_true (by omega)
          have hd6 : decide (10 < q3) = true := decide_eq_true x3
          go_enter Tryd.func6, Tryd.ntmps6
          go_wp2_with fail
          refine (awake_true _).mono ?_
          rintro e w1 ⟨rfl, hb1⟩
          go_wp2
          go_ret
          exact ⟨rfl, hb1⟩
        · have hd5 : decide ((10 : Int) < q3) = false := decide_eq_false (by omega)
          have hd6 : decide (10 < q3) = false := decide_eq_false x3
          have hd7 : decide ((100 : Int) < q4) = true := decide_eq_true (by omega)
          have hd8 : decide (100 < q4) = true := decide_eq_true (by omega)
          go_enter Tryd.func6, Tryd.ntmps6
          go_wp2_with fail
          refine (awake_true _).mono ?_
          rintro e w1 ⟨rfl, hb1⟩
          go_wp2
          go_ret
          exact ⟨rfl, hb1⟩

end Go.Proofs.YtdgjnjhmjgdhnaaDoor
