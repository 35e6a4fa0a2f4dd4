/- The walk of Parse: the records that are told of pieces. -/
import Derived.Test.YtdgjnjhmjgdhnaaDoorWRecord
namespace Go.Proofs.YtdgjnjhmjgdhnaaDoor
open Go.RowKit

/-- What is told of any pieces, for any Gen. -/
def parB (g : Int) (n : Nat) : Bool := genB g && decide (n ≤ 128)
def ToldP (g : Int) (l ts : List ByteArray) : Prop := if parB g l.length then Told g.toNat 0 l ts else ts = []
theorem ToldP.only {g : Int} {l ts us : List ByteArray} (h : ToldP g l ts) (h2 : ToldP g l us) : ts = us := by
  unfold ToldP at h h2
  cases hb : parB g l.length with
  | true => rw [hb] at h h2; exact Told.only h h2
  | false => rw [hb] at h h2; exact (show ts = [] from h).trans (show us = [] from h2).symm
theorem ToldP.len {g : Int} {l ts : List ByteArray} (h : ToldP g l ts) : needs ts ≤ l.length := by
  unfold ToldP at h
  cases hb : parB g l.length with
  | true => rw [hb] at h; exact Told.len h
  | false => rw [hb] at h; rw [show ts = [] from h]; exact Nat.zero_le _
theorem ToldP.size {g : Int} {l ts : List ByteArray} (h : ToldP g l ts) : ∀ t ∈ ts, t.size ≤ 1000 := by
  unfold ToldP at h
  cases hb : parB g l.length with
  | true => rw [hb] at h; exact h.1
  | false => rw [hb] at h; rw [show ts = [] from h]; intro t ht; cases ht
theorem ToldP.of {g : Nat} {l ts : List ByteArray} (hg : 1 ≤ g) (hg2 : g ≤ 2147483647) (hl : l.length ≤ 128) : ToldP g l ts ↔ Told g 0 l ts := by
  have : parB g l.length = true := by unfold parB; rw [gen_of hg hg2, decide_eq_true hl]; rfl
  unfold ToldP
  rw [this]
  exact Iff.rfl
/-- The first records stand there. -/
def Firsts (g : Nat) (l ts : List ByteArray) : Prop := (∀ t ∈ ts, t.size ≤ 1000) ∧ chainL g 0 ts <+: l
theorem Firsts.len {g : Nat} {l ts : List ByteArray} (h : Firsts g l ts) : needs ts ≤ l.length := by
  have := h.2.length_le
  rwa [chain_len] at this
theorem Firsts.told {g : Nat} {l ts : List ByteArray} (h : Firsts g l ts) (h2 : recF g (needs ts) none (l.drop (needs ts)) = none) : Told g 0 l ts := ⟨h.1, h.2, by rw [Nat.zero_add]; exact h2⟩
theorem Firsts.snoc {g : Nat} {l ts : List ByteArray} {t : ByteArray} (h : Firsts g l ts) (h2 : recF g (needs ts) none (l.drop (needs ts)) = some t.data.toList) : Firsts g l (ts ++ [t]) := by
  obtain ⟨s1, _, m, hm⟩ := rec_sound h2
  obtain ⟨m', hm'⟩ := h.2
  have e : l.drop (needs ts) = m' := by
    rw [← hm', List.drop_append, List.drop_of_length_le (by rw [chain_len]; exact Nat.le_refl _), chain_len, Nat.sub_self]
    rfl
  refine ⟨fun x hx => ?_, ⟨m, ?_⟩⟩
  · rcases List.mem_append.1 hx with hx | hx
    · exact h.1 x hx
    · rw [List.mem_singleton.1 hx, ← ba_len]
      exact s1
  · rw [chain_append, chain_one, Nat.zero_add, List.append_assoc, hm, e]
    exact hm'

set_option maxHeartbeats 4000000 in
set_option maxRecDepth 100000 in
theorem parse_bad (g : Int) (A : Option Addr) (c n : Nat) (w : World) (hn : n ≤ maxLen) (h : parB g n = false) :
    Calls Tryd.prog 13 #[.int .i64 g, .slice A n c] w fun e w' => e = .returned (.tuple #[.slice none 0 0, .int .i64 0]) ∧ Below w.heap.size w w' := by
  unfold maxLen at hn
  unfold parB at h
  have hrg := rgen_any g w
  cases hG : genB g with
  | false =>
    rw [hG] at hrg
    clear h hG
    go_enter Tryd.func13, Tryd.ntmps13
    go_wp2_with fail
    refine hrg.mono ?_
    rintro e w1 ⟨rfl, rfl⟩
    go_wp2
    go_ret2
    exact ⟨rfl, Below.refl _ _⟩
  | true =>
    rw [hG] at hrg h
    have hnn : 128 < n := by simpa using h
    have hd : decide ((128 : Int) < n) = true := decide_eq_true (by omega)
    have hd2 : decide (128 < n) = true := decide_eq_true (by omega)
    clear h hG
    go_enter Tryd.func13, Tryd.ntmps13
    go_wp2_with fail
    refine hrg.mono ?_
    rintro e w1 ⟨rfl, rfl⟩
    go_wp2
    go_ret2
    exact ⟨rfl, Below.refl _ _⟩

set_option maxHeartbeats 4000000 in
set_option maxRecDepth 100000 in
theorem parse_ok (g : Nat) (A : Option Addr) (c : Nat) (l : List ByteArray) (w : World) (hA : Strs w w.heap.size A l) (hs : ∀ x ∈ l, x.size ≤ maxLen) (hg : 1 ≤ g) (hg2 : g ≤ 2147483647) (hn : l.length ≤ 128) :
    Calls Tryd.prog 13 #[.int .i64 g, .slice A l.length c] w fun e w' => ∃ v' ts, e = .returned (.tuple #[v', .int .i64 (needs ts : Nat)]) ∧ RowV w' v' ts ∧ Told g 0 l ts ∧ Below w.heap.size w w' := by
  obtain ⟨i0, hi0, hz0, hz1, hz2⟩ := info_parts str_info
  have hrg := rgen_any g w
  rw [gen_of hg hg2] at hrg
  have HRC := Lib.hid (fun (wx : World) (k : Nat) (hb : Below w.heap.size w wx) (hk : k ≤ l.length) => record_any g k A c l wx ((hA.below hb).more hb.size) (by omega) hs hg2 hk)
  have HFL := Lib.hid (fun ts (h : Firsts g l ts) => h.len)
  have HF0 := Lib.hid (show Firsts g l [] from ⟨by simp, List.nil_prefix⟩)
  have HGO := Lib.hid (fun ts (h : Firsts g l ts) => h.told)
  have HSN := Lib.hid (fun ts (t : ByteArray) (h : Firsts g l ts) => h.snoc (t := t))
  have HSO := Lib.hid (fun ts t (h : recF g (needs ts) none (l.drop (needs ts)) = some t) => (rec_sound h).1)
  generalize l.length = n at *
  have hd : decide ((128 : Int) < n) = false := decide_eq_false (by omega)
  have hd2 : decide (128 < n) = false := decide_eq_false (by omega)
  clear hA hs
  go_enter Tryd.func13, Tryd.ntmps13
  go_wp2_with fail
  refine hrg.mono ?_
  rintro e w1 ⟨rfl, rfl⟩
  clear hrg
  go_wp2
  go_loopw [6, 7] (fun t i wr => ∃ ts : List ByteArray, i = .int .i64 (needs ts : Nat) ∧ wr.ownsRow w.heap.size 9 1 t ts.length (ts.map Value.string) ∧ Firsts g l ts ∧ Below w.heap.size w wr) (fun _ i _ => (n - intOf i).toNat)
  case atStart => exact ⟨[], rfl, World.ownsRow_nil _ _ _ _, HF0.out, Below.refl _ _⟩
  case round =>
    obtain ⟨ts, rfl, hown, hf, hbr⟩ := hrel
    have hle := HFL.out ts hf
    have hge := needs_ge ts
    have HF := Lib.hid hf
    have hrc := HRC.out wr (needs ts) hbr hle
    have HRF := Lib.hid (HGO.out ts hf)
    have HSNF := Lib.hid (fun t => HSN.out ts t hf)
    have HSOF := Lib.hid (HSO.out ts)
    obtain ⟨A2, c2, rfl⟩ := own_shape hown
    have HO := Lib.hid hown
    have HB := Lib.hid hbr
    clear hf hown hbr
    obtain ⟨m, hm⟩ : ∃ m, m = needs ts := ⟨_, rfl⟩
    have HM := Lib.hid hm
    obtain ⟨q, hq⟩ : ∃ q, q = ts.length := ⟨_, rfl⟩
    rw [← hm] at hrc hle hge HRF HSNF HSOF ⊢
    rw [← hq] at HO hge ⊢
    have HQ := Lib.hid hq
    clear hm hq
    cases ho : recF g m none (l.drop m) with
    | none =>
      have HT := Lib.hid (HRF.out ho)
      rw [ho] at hrc
      clear ho HSNF HSOF
      go_wp2_with fail
      refine hrc.mono ?_
      rintro e w2 ⟨rfl, hb2⟩
      have HB2 := Lib.hid (HB.out.trans (hb2.mono HB.out.size))
      have HO2 := Lib.hid (own_below HO.out hb2)
      clear hb2
      go_wp2
      go_ret2
      refine ⟨_, ts, by rw [HM.out]; rfl, ?_, HT.out, HB2.out⟩
      have h := HO2.out
      rw [HQ.out] at h ⊢
      exact RowV.own h
    | some t =>
      obtain ⟨tt, htt⟩ : ∃ tt : ByteArray, tt = ⟨t.toArray⟩ := ⟨_, rfl⟩
      have ett : tt.data.toList = t := by rw [htt]
      have h1 := HSOF.out t ho
      have htz : tt.size = t.length := by rw [← ett]; simp
      have HSN2 := Lib.hid (HSNF.out tt (by rw [ett]; exact ho))
      rw [ho] at hrc
      rw [show recT (some t) = tt from htt.symm, show (some t).isSome = true from rfl] at hrc
      have HND := Lib.hid (fun wx => needj_in tt.size wx (by omega))
      have hp := needJ_pos tt.size
      have hl2 := HFL.out _ HSN2.out
      rw [needs_append, needs_one, ← HM.out] at hl2
      have htt2 : tt.size ≤ 1000 := by omega
      generalize hk : needJ tt.size = k at *
      have HK := Lib.hid hk
      clear ho htt ett hk h1 htz HSNF HSOF HRF
      go_wp2_with fail
      refine hrc.mono ?_
      rintro e w2 ⟨rfl, hb2⟩
      have HB2 := Lib.hid (HB.out.trans (hb2.mono HB.out.size))
      have hown := own_below HO.out hb2
      clear hb2 hrc
      go_wp2_with (at_builtin; refine wpList_append_own _ rfl _ _ 22 rfl w.heap.size 9 i0 (.string ⟨#[]⟩) 1 16 Tryd.underlying22 hi0 hz0 hz1 hz2 rfl (by decide) _ _ _ rfl (hown.alloc _) ⟨w2.heap.size, 0, none⟩ 1 1 [.string tt] rfl rfl ?c1 ?c2 ?c3 ?c4 ?c5 ?_)
      case c1 =>
        intro j u hj
        match j, hj with
        | 0, hj => simp at hj; subst hj; simp [Addr.add]
      case c2 => intro u hu; simp at hu; subst hu; rfl
      case c3 => unfold maxLen; omega
      case c4 => omega
      case c5 => have := HB2.out.size; simp; omega
      intro v' w3 hown3 hg3 _
      have HB3 := Lib.hid (show Below w.heap.size w w3 from (HB2.out.alloc HB2.out.size _).grown hg3 (by have := HB2.out.size; simp; omega) (fun k hk => (hown.lt k hk).1))
      have HO3 := Lib.hid hown3
      clear hown hown3 hg3
      go_wp2_with fail
      refine (HND.out _).mono ?_
      rintro e w4 ⟨rfl, rfl⟩
      go_wp2
      go_roundw
      case rel =>
        refine ⟨ts ++ [tt], by rw [needs_append, needs_one, ← HM.out, HK.out]; go_num, ?_, HSN2.out, HB3.out⟩
        have h := HO3.out
        rw [List.length_append, List.map_append, ← HQ.out]
        exact h
      case measure => simp [intOf]; omega

/-- Parse, whatever comes of it. -/
theorem parse_any {v : Value} (g : Int) (l : List ByteArray) (w : World) (h : SV w v l) (hn : l.length ≤ maxLen) (hs : ∀ x ∈ l, x.size ≤ maxLen) :
    Calls Tryd.prog 13 #[.int .i64 g, v] w fun e w' => ∃ v' ts, e = .returned (.tuple #[v', .int .i64 (needs ts : Nat)]) ∧ RowV w' v' ts ∧ ToldP g l ts ∧ Below w.heap.size w w' := by
  obtain ⟨A, c, rfl, hA⟩ := h
  cases hb : parB g l.length with
  | false =>
    refine (parse_bad g A c l.length w hn hb).mono ?_
    rintro e w' ⟨rfl, h⟩
    exact ⟨_, [], rfl, ⟨none, 0, rfl, Strs.nil _ _ _, fun h => absurd h (by simp)⟩, by unfold ToldP; rw [hb]; rfl, h⟩
  | true =>
    have h1 := hb
    unfold parB at h1
    rw [Bool.and_eq_true, decide_eq_true_eq] at h1
    obtain ⟨p, rfl, h2, h3⟩ := gen_parts h1.1
    refine (parse_ok p A c l w hA hs h2 h3 h1.2).mono ?_
    rintro e w' ⟨v', ts, rfl, hv, ht, h⟩
    exact ⟨v', ts, rfl, hv, (ToldP.of h2 h3 h1.2).2 ht, h⟩

end Go.Proofs.YtdgjnjhmjgdhnaaDoor
