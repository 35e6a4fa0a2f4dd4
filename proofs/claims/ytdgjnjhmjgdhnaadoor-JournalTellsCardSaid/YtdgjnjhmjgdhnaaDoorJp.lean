/- Pieces and records as values: the pieces of a record, the record that stands in pieces; plain facts. -/
import Derived.Test.YtdgjnjhmjgdhnaaDoorBk
namespace Go.Proofs.YtdgjnjhmjgdhnaaDoor

/-- What stands in a piece ahead of its part of the text. -/
def hdL (g a n : Nat) : List UInt8 := be 4 g ++ (be 2 a ++ be 2 n)
theorem hd_len (g a n : Nat) : (hdL g a n).length = 8 := by unfold hdL; simp [be_length]
def rawL (g a : Nat) (r : List UInt8) : List UInt8 := hdL g a r.length ++ r.take 24
def pcL (g a : Nat) (r : List UInt8) : List UInt8 := rawL g a r ++ List.replicate (24 - r.length) 0
def pcS (g a : Nat) (r : List UInt8) : ByteArray := ⟨(pcL g a r).toArray⟩
theorem raw_len (g a : Nat) (r : List UInt8) : (rawL g a r).length = 8 + min 24 r.length := by unfold rawL; rw [List.length_append, hd_len, List.length_take]
theorem pc_len (g a : Nat) (r : List UInt8) : (pcL g a r).length = 32 := by unfold pcL; rw [List.length_append, raw_len, List.length_replicate]; omega
theorem pcS_size (g a : Nat) (r : List UInt8) : (pcS g a r).size = 32 := by
  show (pcL g a r).toArray.size = 32
  rw [List.size_toArray, pc_len]
theorem pcS_list (g a : Nat) (r : List UInt8) : (pcS g a r).data.toList = pcL g a r := rfl

/-- How many pieces so many bytes have. -/
def needJ (n : Nat) : Nat := max 1 ((n + 23) / 24)
theorem needJ_pos (n : Nat) : 1 ≤ needJ n := by unfold needJ; omega
theorem needJ_small {n : Nat} (h : n ≤ 24) : needJ n = 1 := by unfold needJ; omega
theorem needJ_more {n : Nat} (h : 24 < n) : needJ n = needJ (n - 24) + 1 := by unfold needJ; omega
theorem needJ_room {n i : Nat} (h : i < needJ n) : 24 * i ≤ n := by unfold needJ at h; omega
theorem needJ_le {n : Nat} (h : n ≤ 1000) : needJ n ≤ 42 := by unfold needJ; omega
theorem needJ_300 {n : Nat} (h : n ≤ 300) : needJ n ≤ 13 := by unfold needJ; omega

/-- The pieces of a record. -/
def recL (g a : Nat) (t : List UInt8) : List ByteArray := (List.range (needJ t.length)).map fun i => pcS g (a + i) (t.drop (24 * i))
theorem rec_len (g a : Nat) (t : List UInt8) : (recL g a t).length = needJ t.length := by simp [recL]
theorem rec_get (g a : Nat) (t : List UInt8) (i : Nat) (h : i < needJ t.length) : (recL g a t)[i]'(by rw [rec_len]; exact h) = pcS g (a + i) (t.drop (24 * i)) := by simp [recL]
theorem rec_small (g a : Nat) {t : List UInt8} (h : t.length ≤ 24) : recL g a t = [pcS g a t] := by
  unfold recL
  rw [needJ_small h]
  rfl
theorem rec_more (g a : Nat) {t : List UInt8} (h : 24 < t.length) : recL g a t = pcS g a t :: recL g (a + 1) (t.drop 24) := by
  unfold recL
  rw [needJ_more h, List.length_drop, List.range_succ_eq_map, List.map_cons, List.map_map]
  congr 1
  apply List.map_congr_left
  intro i _
  simp only [Function.comp, Nat.succ_eq_add_one, List.drop_drop]
  congr 1
  · omega
  · congr 1; omega
theorem rec_fill (g a : Nat) (t : List UInt8) : fillB (recL g a t) = true := by
  unfold fillB recL
  rw [List.all_eq_true]
  intro x hx
  obtain ⟨i, _, rfl⟩ := List.mem_map.1 hx
  rw [pcS_size]
  rfl

/-! Whole sectors, cut. -/
theorem flatJ_len {l : List ByteArray} (hf : fillB l = true) : ((l.map (·.data.toList)).flatten).length = 32 * l.length := by
  induction l with
  | nil => rfl
  | cons x l ih =>
    unfold fillB at hf
    rw [List.all_cons, Bool.and_eq_true] at hf
    have h := ih hf.2
    have hx : x.size = 32 := by simpa using hf.1
    rw [List.map_cons, List.flatten_cons, List.length_append, h, List.length_cons, Array.length_toList]
    show x.size + _ = _
    omega
theorem flatJ_drop {l : List ByteArray} (hf : fillB l = true) (i : Nat) (h : i < l.length) : (((l.map (·.data.toList)).flatten).drop (32 * i)).take 32 = l[i].data.toList := by
  induction l generalizing i with
  | nil => simp at h
  | cons x l ih =>
    unfold fillB at hf
    rw [List.all_cons, Bool.and_eq_true] at hf
    have hx : x.data.toList.length = 32 := by
      have : x.size = 32 := by simpa using hf.1
      rw [Array.length_toList]
      exact this
    rw [List.map_cons, List.flatten_cons]
    cases i with
    | zero => rw [Nat.mul_zero, List.drop_zero, List.take_append_of_le_length (by omega), List.take_of_length_le (by omega)]; rfl
    | succ i =>
      rw [show 32 * (i + 1) = x.data.toList.length + 32 * i by omega, List.drop_append, List.drop_of_length_le (by omega), Nat.add_sub_cancel_left, List.nil_append]
      exact ih hf.2 i (by simpa using h)
theorem cut_whole {l : List ByteArray} (hf : fillB l = true) : cutL ((l.map (·.data.toList)).flatten) = l := by
  have hl := flatJ_len hf
  unfold cutL
  rw [hl, sec_whole]
  apply List.ext_getElem (by simp)
  intro i h1 h2
  rw [List.getElem_map, List.getElem_range]
  unfold secL
  rw [pad_whole _ _ hl, flatJ_drop hf i h2]
theorem sec_pad (l : List UInt8) : secN (padL l).length = secN l.length := by rw [pad_len, sec_whole]
theorem cut_pad (l : List UInt8) : cutL (padL l) = cutL l := by
  unfold cutL
  rw [sec_pad]
  apply List.map_congr_left
  intro i _
  unfold secL
  rw [pad_whole (padL l) _ (pad_len l)]

/-- What the pieces are cut out of: the first k of them, not filled up. -/
def rawsL (g a : Nat) (t : List UInt8) (k : Nat) : List UInt8 := ((List.range k).map fun i => rawL g (a + i) (t.drop (24 * i))).flatten
theorem raws_succ (g a : Nat) (t : List UInt8) (k : Nat) : rawsL g a t (k + 1) = rawsL g a t k ++ rawL g (a + k) (t.drop (24 * k)) := by
  unfold rawsL
  rw [List.range_succ, List.map_append, List.flatten_append]
  simp
theorem raws_len (g a : Nat) (t : List UInt8) (k : Nat) (h : 24 * k ≤ t.length) : (rawsL g a t k).length = 32 * k := by
  induction k with
  | zero => rfl
  | succ k ih =>
    rw [raws_succ, List.length_append, ih (by omega), raw_len, List.length_drop]
    omega
theorem raws_le (g a : Nat) (t : List UInt8) (k : Nat) : (rawsL g a t k).length ≤ 32 * k := by
  induction k with
  | zero => simp [rawsL]
  | succ k ih =>
    rw [raws_succ, List.length_append, raw_len]
    omega
theorem raws_same (g a : Nat) (t : List UInt8) (k : Nat) (h : 24 * k ≤ t.length) : rawsL g a t k = ((List.range k).map fun i => pcL g (a + i) (t.drop (24 * i))).flatten := by
  unfold rawsL
  congr 1
  apply List.map_congr_left
  intro i hi
  have := List.mem_range.1 hi
  unfold pcL
  rw [List.length_drop, show 24 - (t.length - 24 * i) = 0 by omega]
  simp
/-- THE PIECES ARE WHAT IS CUT. -/
theorem cut_rec (g a : Nat) (t : List UInt8) : cutL (rawsL g a t (needJ t.length)) = recL g a t := by
  have hf : ((recL g a t).map (·.data.toList)).flatten = padL (rawsL g a t (needJ t.length)) := by
    obtain ⟨k, hk⟩ : ∃ k, needJ t.length = k + 1 := ⟨needJ t.length - 1, by have := needJ_pos t.length; omega⟩
    have h24 : 24 * k ≤ t.length := needJ_room (by omega)
    have hlt : t.length ≤ 24 * k + 24 := by unfold needJ at hk; omega
    unfold padL recL
    rw [hk, raws_succ, List.length_append, raws_len g a t k h24, raw_len, raws_same g a t k h24, List.map_map, List.range_succ, List.map_append, List.flatten_append, List.append_assoc]
    congr 1
    simp only [List.map_cons, List.map_nil, List.flatten_cons, List.flatten_nil, List.append_nil, Function.comp, pcS_list]
    unfold pcL
    congr 2
    rw [List.length_drop]
    unfold secN
    omega
  rw [← cut_pad, ← hf]
  exact cut_whole (rec_fill g a t)

/-! What a piece tells. -/
def leftN (s : List UInt8) : Nat := val ((s.drop 6).take 2)
def partL (s : List UInt8) : List UInt8 := (s.drop 8).take (min (leftN s) 24)
def rdB (g a : Nat) (s : List UInt8) : Bool := decide (s.length = 32) && (decide (leftN s ≤ 1000) && decide (s = hdL g a (leftN s) ++ (partL s ++ List.replicate (24 - leftN s) 0)))
theorem left_lt (s : List UInt8) : leftN s < 65536 := by
  refine Nat.lt_of_lt_of_le (val_lt _) ?_
  rw [List.length_take]
  exact Nat.le_trans (Nat.pow_le_pow_right (by decide) (Nat.min_le_left 2 _)) (by decide)
theorem hd_left (g a n : Nat) (h : n < 65536) (m : List UInt8) : leftN (hdL g a n ++ m) = n := by
  unfold leftN hdL
  rw [← List.append_assoc, List.append_assoc, List.drop_append, List.drop_of_length_le (by simp [be_length])]
  simp only [List.length_append, be_length, List.nil_append, Nat.sub_self, List.drop_zero]
  rw [List.take_append_of_le_length (by rw [be_length]; exact Nat.le_refl _), List.take_of_length_le (by rw [be_length]; exact Nat.le_refl _), val_be]
  exact Nat.mod_eq_of_lt h
theorem hd_drop (g a n : Nat) (m : List UInt8) : (hdL g a n ++ m).drop 8 = m := by
  rw [List.drop_append, List.drop_of_length_le (by rw [hd_len]; exact Nat.le_refl _), hd_len]
  simp
theorem pc_left (g a : Nat) (r : List UInt8) (h : r.length ≤ 1000) : leftN (pcL g a r) = r.length := by
  unfold pcL rawL
  rw [List.append_assoc]
  exact hd_left g a r.length (by omega) _
theorem pc_part (g a : Nat) (r : List UInt8) (h : r.length ≤ 1000) : partL (pcL g a r) = r.take 24 := by
  unfold partL
  rw [pc_left g a r h]
  unfold pcL rawL
  rw [List.append_assoc, hd_drop, List.take_append_of_le_length (by rw [List.length_take]; omega), List.take_take, List.take_eq_take_iff]
  omega
theorem rd_pc (g a : Nat) (r : List UInt8) (h : r.length ≤ 1000) : rdB g a (pcL g a r) = true := by
  unfold rdB
  rw [pc_len, pc_left g a r h, pc_part g a r h, decide_eq_true rfl, decide_eq_true h, decide_eq_true (by unfold pcL rawL; rw [List.append_assoc])]
  rfl
theorem rd_parts {g a : Nat} {s : List UInt8} (h : rdB g a s = true) : s.length = 32 ∧ leftN s ≤ 1000 ∧ s = hdL g a (leftN s) ++ (partL s ++ List.replicate (24 - leftN s) 0) := by
  unfold rdB at h
  simpa using h
theorem part_len {s : List UInt8} (h : s.length = 32) : (partL s).length = min (leftN s) 24 := by
  unfold partL
  rw [List.length_take, List.length_drop]
  omega
theorem rd_eq {g a : Nat} {s r : List UInt8} (h : rdB g a s = true) (hn : r.length = leftN s) (hr : r.take 24 = partL s) : s = pcL g a r := by
  obtain ⟨_, _, h3⟩ := rd_parts h
  unfold pcL rawL
  rw [hn, hr, List.append_assoc]
  exact h3
theorem rd_gen {g a : Nat} {s : List UInt8} (h : rdB g a s = true) : s.take 4 = be 4 g := by
  obtain ⟨_, _, h3⟩ := rd_parts h
  rw [h3]
  unfold hdL
  rw [List.append_assoc, List.take_append_of_le_length (by rw [be_length]; exact Nat.le_refl _), List.take_of_length_le (by rw [be_length]; exact Nat.le_refl _)]
theorem pc_gen (g a : Nat) (r : List UInt8) : (pcL g a r).take 4 = be 4 g := by
  unfold pcL rawL hdL
  rw [List.append_assoc, List.append_assoc, List.take_append_of_le_length (by rw [be_length]; exact Nat.le_refl _), List.take_of_length_le (by rw [be_length]; exact Nat.le_refl _)]
/-- A piece of another Gen is none of this. -/
theorem rd_other {g h a b : Nat} {r : List UInt8} (hg : g < 4294967296) (hh : h < 4294967296) (hne : g ≠ h) : rdB g a (pcL h b r) = false := by
  cases e : rdB g a (pcL h b r) with
  | false => rfl
  | true => exact absurd (be_inj 4 h g hh hg ((pc_gen h b r).symm.trans (rd_gen e))).symm hne
theorem rd_zero {g a : Nat} {s : List UInt8} (hg : 1 ≤ g) (hl : g < 4294967296) (hs : s.take 4 = be 4 0) : rdB g a s = false := by
  cases e : rdB g a s with
  | false => rfl
  | true => have := be_inj 4 0 g (by decide) hl (hs.symm.trans (rd_gen e)); omega

/-! The record that stands in pieces. -/
def dueB : Option Nat → Nat → Bool
  | none, _ => true
  | some k, n => decide (k = n)
def recF (g : Nat) : Nat → Option Nat → List ByteArray → Option (List UInt8)
  | _, _, [] => none
  | a, due, s :: l => if rdB g a s.data.toList && dueB due (leftN s.data.toList) then (if leftN s.data.toList ≤ 24 then some (partL s.data.toList) else (recF g (a + 1) (some (leftN s.data.toList - 24)) l).map (partL s.data.toList ++ ·)) else none
theorem recF_nil (g a : Nat) (due : Option Nat) : recF g a due [] = none := rfl
theorem recF_cons (g a : Nat) (due : Option Nat) (s : ByteArray) (l : List ByteArray) : recF g a due (s :: l) = if rdB g a s.data.toList && dueB due (leftN s.data.toList) then (if leftN s.data.toList ≤ 24 then some (partL s.data.toList) else (recF g (a + 1) (some (leftN s.data.toList - 24)) l).map (partL s.data.toList ++ ·)) else none := rfl
theorem recF_bad {g a : Nat} {due : Option Nat} {s : ByteArray} {l : List ByteArray} (h : (rdB g a s.data.toList && dueB due (leftN s.data.toList)) = false) : recF g a due (s :: l) = none := by
  rw [recF_cons, h]
  rfl
theorem recF_end {g a : Nat} {due : Option Nat} {s : ByteArray} {l : List ByteArray} (h : (rdB g a s.data.toList && dueB due (leftN s.data.toList)) = true) (hn : leftN s.data.toList ≤ 24) : recF g a due (s :: l) = some (partL s.data.toList) := by
  rw [recF_cons, h, if_pos rfl, if_pos hn]
theorem recF_on {g a : Nat} {due : Option Nat} {s : ByteArray} {l : List ByteArray} (h : (rdB g a s.data.toList && dueB due (leftN s.data.toList)) = true) (hn : 24 < leftN s.data.toList) : recF g a due (s :: l) = (recF g (a + 1) (some (leftN s.data.toList - 24)) l).map (partL s.data.toList ++ ·) := by
  rw [recF_cons, h, if_pos rfl, if_neg (by omega)]
theorem rec_sound {g a : Nat} {due : Option Nat} {l : List ByteArray} {t : List UInt8} (h : recF g a due l = some t) : t.length ≤ 1000 ∧ dueB due t.length = true ∧ recL g a t <+: l := by
  induction l generalizing a due t with
  | nil => cases h
  | cons s l ih =>
    cases hb : (rdB g a s.data.toList && dueB due (leftN s.data.toList)) with
    | false => rw [recF_bad hb] at h; cases h
    | true =>
      have hb2 := hb
      rw [Bool.and_eq_true] at hb2
      obtain ⟨h1, h2⟩ := hb2
      obtain ⟨p1, p2, _⟩ := rd_parts h1
      have hp := part_len p1
      by_cases hn : leftN s.data.toList ≤ 24
      · rw [recF_end hb hn] at h
        injection h with h
        subst h
        have hpl : (partL s.data.toList).length = leftN s.data.toList := by omega
        refine ⟨by omega, by rw [hpl]; exact h2, ?_⟩
        rw [rec_small g a (by omega)]
        have e := rd_eq h1 hpl (List.take_of_length_le (by omega))
        have e2 : pcS g a (partL s.data.toList) = s := by
          unfold pcS
          rw [← e]
        rw [e2]
        exact ⟨l, rfl⟩
      · rw [recF_on hb (by omega)] at h
        obtain ⟨t', ht', rfl⟩ := Option.map_eq_some_iff.1 h
        obtain ⟨i1, i2, i3⟩ := ih ht'
        have i4 : leftN s.data.toList - 24 = t'.length := by
          unfold dueB at i2
          exact of_decide_eq_true i2
        have hpl : (partL s.data.toList ++ t').length = leftN s.data.toList := by rw [List.length_append]; omega
        refine ⟨by omega, by rw [hpl]; exact h2, ?_⟩
        rw [rec_more g a (by omega)]
        have hd : (partL s.data.toList ++ t').drop 24 = t' := by
          rw [List.drop_append, List.drop_of_length_le (by omega), show 24 - (partL s.data.toList).length = 0 by omega]
          rfl
        have htk : (partL s.data.toList ++ t').take 24 = partL s.data.toList := by
          rw [List.take_append_of_le_length (by omega), List.take_of_length_le (by omega)]
        have e := rd_eq h1 hpl htk
        have e2 : pcS g a (partL s.data.toList ++ t') = s := by
          unfold pcS
          rw [← e]
        rw [e2, hd]
        obtain ⟨m, hm⟩ := i3
        exact ⟨m, by rw [List.cons_append, hm]⟩
theorem rec_full {g a : Nat} {due : Option Nat} {l : List ByteArray} {t : List UInt8} (ht : t.length ≤ 1000) (hd : dueB due t.length = true) (hp : recL g a t <+: l) : recF g a due l = some t := by
  induction l generalizing a due t with
  | nil =>
    have := hp.length_le
    rw [rec_len] at this
    have := needJ_pos t.length
    simp at *
    omega
  | cons s l ih =>
    have key : ∀ (h0 : pcS g a t = s), (rdB g a s.data.toList && dueB due (leftN s.data.toList)) = true ∧ leftN s.data.toList = t.length ∧ partL s.data.toList = t.take 24 := fun h0 => by
      subst h0
      rw [pcS_list, rd_pc g a t ht, pc_left g a t ht, hd, pc_part g a t ht]
      exact ⟨rfl, rfl, rfl⟩
    by_cases hn : t.length ≤ 24
    · rw [rec_small g a hn] at hp
      obtain ⟨k1, k2, k3⟩ := key (List.cons_prefix_cons.1 hp).1
      rw [recF_end k1 (by omega), k3, List.take_of_length_le hn]
    · rw [rec_more g a (by omega)] at hp
      obtain ⟨hp1, hp2⟩ := List.cons_prefix_cons.1 hp
      obtain ⟨k1, k2, k3⟩ := key hp1
      have hi := ih (due := some (leftN s.data.toList - 24)) (by rw [List.length_drop]; omega) (by
        unfold dueB
        rw [List.length_drop, k2]
        exact decide_eq_true rfl) hp2
      rw [recF_on k1 (by omega), hi, k3]
      simp

/-! Records, one behind the other. -/
def needs : List ByteArray → Nat
  | [] => 0
  | t :: ts => needJ t.size + needs ts
def chainL (g : Nat) : Nat → List ByteArray → List ByteArray
  | _, [] => []
  | a, t :: ts => recL g a t.data.toList ++ chainL g (a + needJ t.size) ts
theorem ba_len (t : ByteArray) : t.data.toList.length = t.size := by simp
theorem rec_len' (g a : Nat) (t : ByteArray) : (recL g a t.data.toList).length = needJ t.size := by rw [rec_len, ba_len]
theorem chain_len (g a : Nat) (ts : List ByteArray) : (chainL g a ts).length = needs ts := by
  induction ts generalizing a with
  | nil => rfl
  | cons t ts ih => simp only [chainL, needs, List.length_append, rec_len', ih]
theorem needs_append (ts us : List ByteArray) : needs (ts ++ us) = needs ts + needs us := by
  induction ts with
  | nil => simp [needs]
  | cons t ts ih => simp only [List.cons_append, needs, ih]; omega
theorem chain_append (g a : Nat) (ts us : List ByteArray) : chainL g a (ts ++ us) = chainL g a ts ++ chainL g (a + needs ts) us := by
  induction ts generalizing a with
  | nil => simp [chainL, needs]
  | cons t ts ih => simp only [List.cons_append, chainL, needs, ih, List.append_assoc, Nat.add_assoc]
theorem chain_one (g a : Nat) (t : ByteArray) : chainL g a [t] = recL g a t.data.toList := by simp [chainL]
theorem needs_one (t : ByteArray) : needs [t] = needJ t.size := by simp [needs]
theorem needs_take (ts : List ByteArray) (k : Nat) (h : k < ts.length) : needs (ts.take (k + 1)) = needs (ts.take k) + needJ ts[k].size := by
  rw [List.take_succ_eq_append_getElem h, needs_append, needs_one]
theorem chain_take (g a : Nat) (ts : List ByteArray) (k : Nat) (h : k < ts.length) : chainL g a (ts.take (k + 1)) = chainL g a (ts.take k) ++ recL g (a + needs (ts.take k)) ts[k].data.toList := by
  rw [List.take_succ_eq_append_getElem h, chain_append, chain_one]
theorem needs_mono (ts : List ByteArray) (k : Nat) : needs (ts.take k) ≤ needs ts := by
  have h := congrArg needs (List.take_append_drop k ts)
  rw [needs_append] at h
  omega
theorem needs_ge (ts : List ByteArray) : ts.length ≤ needs ts := by
  induction ts with
  | nil => exact Nat.le_refl _
  | cons t ts ih =>
    have := needJ_pos t.size
    simp only [needs, List.length_cons]
    omega
theorem chain_fill (g a : Nat) (ts : List ByteArray) : fillB (chainL g a ts) = true := by
  induction ts generalizing a with
  | nil => rfl
  | cons t ts ih =>
    have h1 := rec_fill g a t.data.toList
    have h2 := ih (a + needJ t.size)
    unfold fillB at *
    simp only [chainL, List.all_append, h1, h2]
    rfl
/-- Each piece of them is one, of this Gen at its place. -/
theorem rec_rd (g a : Nat) {t : List UInt8} (ht : t.length ≤ 1000) (i : Nat) (h : i < needJ t.length) : rdB g (a + i) ((recL g a t)[i]'(by rw [rec_len]; exact h)).data.toList = true := by
  rw [rec_get g a t i h, pcS_list]
  exact rd_pc g _ _ (by rw [List.length_drop]; omega)
theorem chain_gen {g a : Nat} {ts : List ByteArray} {x : ByteArray} (hx : x ∈ chainL g a ts) : ∃ b r, x = pcS g b r := by
  induction ts generalizing a with
  | nil => cases hx
  | cons t ts ih =>
    rcases List.mem_append.1 hx with hx | hx
    · obtain ⟨i, _, rfl⟩ := List.mem_map.1 hx
      exact ⟨_, _, rfl⟩
    · exact ih hx

/-- What is told of pieces from the place a on. -/
def Told (g a : Nat) (l ts : List ByteArray) : Prop := (∀ t ∈ ts, t.size ≤ 1000) ∧ chainL g a ts <+: l ∧ recF g (a + needs ts) none (l.drop (needs ts)) = none
theorem Told.nil {g a : Nat} {l : List ByteArray} (h : recF g a none l = none) : Told g a l [] := ⟨by simp, List.nil_prefix, h⟩
theorem Told.len {g a : Nat} {l ts : List ByteArray} (h : Told g a l ts) : needs ts ≤ l.length := by
  have := h.2.1.length_le
  rwa [chain_len] at this
theorem Told.tail {g a : Nat} {l ts : List ByteArray} {t : ByteArray} (h : Told g a l (t :: ts)) : t.size ≤ 1000 ∧ recF g a none l = some t.data.toList ∧ Told g (a + needJ t.size) (l.drop (needJ t.size)) ts := by
  obtain ⟨h1, h2, h3⟩ := h
  have ht := h1 t List.mem_cons_self
  obtain ⟨m, hm⟩ := h2
  simp only [chainL, List.append_assoc] at hm
  refine ⟨ht, rec_full (by rw [ba_len]; exact ht) rfl ⟨_, hm⟩, fun x hx => h1 x (List.mem_cons_of_mem _ hx), ⟨m, ?_⟩, ?_⟩
  · rw [← hm, List.drop_append, List.drop_of_length_le (by rw [rec_len']; exact Nat.le_refl _), rec_len', Nat.sub_self]
    rfl
  · rw [List.drop_drop, Nat.add_assoc]
    exact h3
theorem Told.cons {g a : Nat} {l ts : List ByteArray} {t : ByteArray} (h : recF g a none l = some t.data.toList) (h2 : Told g (a + needJ t.size) (l.drop (needJ t.size)) ts) : Told g a l (t :: ts) := by
  obtain ⟨s1, _, m, s3⟩ := rec_sound h
  obtain ⟨h1, ⟨m', h4⟩, h3⟩ := h2
  rw [ba_len] at s1
  have e : l.drop (needJ t.size) = m := by
    rw [← s3, List.drop_append, List.drop_of_length_le (by rw [rec_len']; exact Nat.le_refl _), rec_len', Nat.sub_self]
    rfl
  refine ⟨fun x hx => ?_, ⟨m', ?_⟩, ?_⟩
  · rcases List.mem_cons.1 hx with rfl | hx
    · exact s1
    · exact h1 x hx
  · rw [e] at h4
    simp only [chainL, List.append_assoc]
    rw [h4, s3]
  · simp only [needs]
    rw [← Nat.add_assoc, ← List.drop_drop]
    exact h3
/-- No others are told. -/
theorem Told.only {g a : Nat} {l ts us : List ByteArray} (h : Told g a l ts) (h2 : Told g a l us) : ts = us := by
  induction ts generalizing a l us with
  | nil =>
    cases us with
    | nil => rfl
    | cons u us =>
      have e1 := h.2.2
      have e2 := h2.tail.2.1
      simp only [needs, Nat.add_zero, List.drop_zero] at e1
      rw [e1] at e2
      cases e2
  | cons t ts ih =>
    cases us with
    | nil =>
      have e1 := h2.2.2
      have e2 := h.tail.2.1
      simp only [needs, Nat.add_zero, List.drop_zero] at e1
      rw [e1] at e2
      cases e2
    | cons u us =>
      obtain ⟨_, a2, a3⟩ := h.tail
      obtain ⟨_, b2, b3⟩ := h2.tail
      rw [a2] at b2
      injection b2 with b2
      have e : t = u := ByteArray.ext (Array.toList_inj.1 b2)
      subst e
      rw [ih a3 b3]
/-- The records that stand there, and no piece behind them. -/
theorem told_all {g a : Nat} {l ts : List ByteArray} (ht : ∀ t ∈ ts, t.size ≤ 1000) (hp : chainL g a ts <+: l) (hn : ∀ (h : needs ts < l.length), rdB g (a + needs ts) (l[needs ts]).data.toList = false) : Told g a l ts := by
  refine ⟨ht, hp, ?_⟩
  by_cases h : needs ts < l.length
  · rw [List.drop_eq_getElem_cons h]
    refine recF_bad ?_
    rw [hn h]
    rfl
  · rw [List.drop_of_length_le (by omega)]
    rfl
/-- SOME OF THE FIRST ONES, where each place has their piece, or none. -/
theorem told_torn {g a : Nat} {l ts : List ByteArray} (ht : ∀ t ∈ ts, t.size ≤ 1000) (hl : ∀ i (h : i < l.length), (chainL g a ts)[i]? = some l[i] ∨ rdB g (a + i) (l[i]).data.toList = false) :
    ∃ k, k ≤ ts.length ∧ Told g a l (ts.take k) ∧ ∀ n, n ≤ ts.length → (chainL g a (ts.take n)) <+: l → n ≤ k := by
  induction ts generalizing a l with
  | nil =>
    refine ⟨0, Nat.le_refl _, Told.nil ?_, fun n hn _ => hn⟩
    cases l with
    | nil => rfl
    | cons x l =>
      refine recF_bad ?_
      rcases hl 0 (by simp) with h | h
      · simp [chainL] at h
      · rw [Nat.add_zero] at h
        simp only [List.getElem_cons_zero] at h
        rw [h]
        rfl
  | cons t ts ih =>
    have ht0 := ht t List.mem_cons_self
    by_cases hp : recL g a t.data.toList <+: l
    · obtain ⟨m, rfl⟩ := hp
      have hr := rec_len' g a t
      obtain ⟨k, k1, k2, k3⟩ := ih (a := a + needJ t.size) (l := m) (fun x hx => ht x (List.mem_cons_of_mem _ hx)) (fun i h => by
        have h1 := hl (needJ t.size + i) (by rw [List.length_append, hr]; omega)
        have e1 : (recL g a t.data.toList ++ m)[needJ t.size + i]'(by rw [List.length_append, hr]; omega) = m[i] := by
          rw [List.getElem_append_right (by rw [hr]; omega)]
          simp only [hr, Nat.add_sub_cancel_left]
        have e2 : (chainL g a (t :: ts))[needJ t.size + i]? = (chainL g (a + needJ t.size) ts)[i]? := by
          simp only [chainL]
          rw [List.getElem?_append_right (by rw [hr]; omega), hr, Nat.add_sub_cancel_left]
        rw [e1, e2, ← Nat.add_assoc] at h1
        exact h1)
      have e : (recL g a t.data.toList ++ m).drop (needJ t.size) = m := by
        rw [List.drop_append, List.drop_of_length_le (by rw [hr]; exact Nat.le_refl _), hr, Nat.sub_self]
        rfl
      refine ⟨k + 1, by simpa using k1, ?_, fun n hn hc => ?_⟩
      · rw [List.take_succ_cons]
        refine Told.cons (rec_full (by rw [ba_len]; exact ht0) rfl ⟨m, rfl⟩) ?_
        rw [e]
        exact k2
      · cases n with
        | zero => exact Nat.zero_le _
        | succ n =>
          rw [List.take_succ_cons] at hc
          simp only [chainL] at hc
          have := k3 n (by simpa using hn) ((List.prefix_append_right_inj _).1 hc)
          omega
    · refine ⟨0, Nat.zero_le _, Told.nil ?_, fun n hn hc => ?_⟩
      · cases hf : recF g a none l with
        | none => rfl
        | some t' =>
          exfalso
          obtain ⟨s1, _, s3⟩ := rec_sound hf
          have hle := s3.length_le
          rw [rec_len] at hle
          have at_ : ∀ i (h : i < needJ t'.length), (chainL g a (t :: ts))[i]? = some ((recL g a t')[i]'(by rw [rec_len]; exact h)) := fun i h => by
            have hi : i < l.length := by omega
            have he : (recL g a t')[i]'(by rw [rec_len]; exact h) = l[i] := s3.getElem (by rw [rec_len]; exact h)
            rcases hl i hi with h1 | h1
            · rw [h1, he]
            · rw [← he, rec_rd g a s1 i h] at h1
              cases h1
          have h0 := at_ 0 (needJ_pos _)
          simp only [chainL] at h0
          rw [List.getElem?_append_left (by rw [rec_len']; exact needJ_pos _), List.getElem?_eq_getElem (by rw [rec_len']; exact needJ_pos _)] at h0
          injection h0 with h0
          rw [rec_get g a _ 0 (needJ_pos _), rec_get g a _ 0 (needJ_pos _)] at h0
          have hsz : t.size = t'.length := by
            have h1 := congrArg (fun x => leftN x.data.toList) h0
            simp only [pcS_list, Nat.mul_zero, List.drop_zero] at h1
            rw [pc_left _ _ _ (by rw [ba_len]; exact ht0), pc_left _ _ _ s1, ba_len] at h1
            exact h1
          have heq : recL g a t.data.toList = recL g a t' := by
            apply List.ext_getElem
            · rw [rec_len', rec_len, hsz]
            · intro i h1 h2
              rw [rec_len] at h2
              have h3 := at_ i h2
              simp only [chainL] at h3
              rw [List.getElem?_append_left h1, List.getElem?_eq_getElem h1] at h3
              injection h3 with h3
          rw [heq] at hp
          exact hp s3
      · cases n with
        | zero => exact Nat.le_refl _
        | succ n =>
          exfalso
          apply hp
          rw [List.take_succ_cons] at hc
          simp only [chainL] at hc
          exact (List.prefix_append _ _).trans hc

end Go.Proofs.YtdgjnjhmjgdhnaaDoor
