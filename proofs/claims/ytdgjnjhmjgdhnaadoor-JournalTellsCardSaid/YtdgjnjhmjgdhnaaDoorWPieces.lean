/- The walk of Pieces. -/
import Derived.Test.YtdgjnjhmjgdhnaaDoorWHead
import Derived.Test.YtdgjnjhmjgdhnaaDoorWBuild
import Derived.Test.YtdgjnjhmjgdhnaaDoorWCut
namespace Go.Proofs.YtdgjnjhmjgdhnaaDoor
open Go.RowKit

/-- What the document says of Pieces. -/
def pcB (g a : Int) (n : Nat) : Bool := (genB g && decide (n ≤ 1000)) && plcB a
def pcE (g a : Int) (n : Nat) : Int := if pcB g a n then (if a + needJ n ≤ 128 then 0 else 6) else 1
def pcsL (g a : Int) (t : List UInt8) : List ByteArray := if pcE g a t.length = 0 then recL g.toNat a.toNat t else []

theorem nil_row (w : World) : RowV w (.slice none 0 0) [] := ⟨none, 0, rfl, Strs.nil _ _ _, fun h => absurd h (by simp)⟩
theorem raws_get (g a : Nat) (t : List UInt8) (k : Nat) (h : 24 * k ≤ t.length) : rawL g (a + k) (t.drop (24 * k)) = hdL g (a + k) (t.length - 24 * k) ++ (t.drop (24 * k)).take 24 := by
  unfold rawL
  rw [List.length_drop]

set_option maxHeartbeats 2000000 in
set_option maxRecDepth 100000 in
theorem pieces_bad (g a : Int) (s : ByteArray) (w : World) (hs : s.size ≤ maxLen) (h : pcB g a s.size = false) :
    Calls Tryd.prog 11 #[.int .i64 g, .int .i64 a, .string s] w fun e w' => e = .returned (.tuple #[.slice none 0 0, .int .i64 1]) ∧ Below w.heap.size w w' := by
  unfold maxLen at hs
  unfold pcB at h
  have hrg := rgen_any g w
  cases hG : genB g with
  | false =>
    rw [hG] at hrg
    clear h hG
    go_enter Tryd.func11, Tryd.ntmps11
    go_wp2_with fail
    refine hrg.mono ?_
    rintro e w1 ⟨rfl, rfl⟩
    go_wp2
    go_ret2
    exact ⟨rfl, Below.refl _ _⟩
  | true =>
    rw [hG] at hrg h
    by_cases hn : s.size ≤ 1000
    · have hP : plcB a = false := by
        rw [decide_eq_true hn] at h
        simpa using h
      have hpl := rplc_any a w
      rw [hP] at hpl
      have hd : decide ((1000 : Int) < s.size) = false := decide_eq_false (by omega)
      have hd2 : decide (1000 < s.size) = false := decide_eq_false (by omega)
      clear h hG hP
      go_enter Tryd.func11, Tryd.ntmps11
      go_wp2_with fail
      refine hrg.mono ?_
      rintro e w1 ⟨rfl, rfl⟩
      go_wp2_with fail
      refine hpl.mono ?_
      rintro e w1 ⟨rfl, rfl⟩
      go_wp2
      go_ret2
      exact ⟨rfl, Below.refl _ _⟩
    · have hd : decide ((1000 : Int) < s.size) = true := decide_eq_true (by omega)
      have hd2 : decide (1000 < s.size) = true := decide_eq_true (by omega)
      clear h hG
      go_enter Tryd.func11, Tryd.ntmps11
      go_wp2_with fail
      refine hrg.mono ?_
      rintro e w1 ⟨rfl, rfl⟩
      go_wp2
      go_ret2
      exact ⟨rfl, Below.refl _ _⟩

theorem pc_right {g a : Int} {n : Nat} (h : pcB g a n = true) : ∃ (p q : Nat), g = p ∧ 1 ≤ p ∧ p ≤ 2147483647 ∧ a = q ∧ q ≤ 128 ∧ n ≤ 1000 := by
  unfold pcB at h
  rw [Bool.and_eq_true, Bool.and_eq_true, decide_eq_true_eq] at h
  obtain ⟨p, h1, h2, h3⟩ := gen_parts h.1.1
  obtain ⟨q, h4, h5⟩ := plc_parts h.2
  exact ⟨p, q, h1, h2, h3, h4, h5, h.1.2⟩

set_option maxHeartbeats 2000000 in
set_option maxRecDepth 100000 in
theorem pieces_full (g a : Nat) (s : ByteArray) (w : World) (hg : 1 ≤ g) (hg2 : g ≤ 2147483647) (ha : a ≤ 128) (hs : s.size ≤ 1000) (h : 128 < a + needJ s.size) :
    Calls Tryd.prog 11 #[.int .i64 g, .int .i64 a, .string s] w fun e w' => e = .returned (.tuple #[.slice none 0 0, .int .i64 6]) ∧ Below w.heap.size w w' := by
  have hrg := rgen_any g w
  rw [gen_of hg hg2] at hrg
  have hpl := rplc_any a w
  rw [plc_of ha] at hpl
  have hnd := needj_in s.size w hs
  have hnl := needJ_le hs
  have hd : decide ((1000 : Int) < s.size) = false := decide_eq_false (by omega)
  have hd2 : decide (1000 < s.size) = false := decide_eq_false (by omega)
  generalize needJ s.size = k at *
  have hw : IntKind.i64.wrap (128 - (a : Int)) = 128 - a := IntWalk.i64_in _ (by omega)
  have hk : decide (128 - (a : Int) < k) = true := decide_eq_true (by omega)
  go_enter Tryd.func11, Tryd.ntmps11
  go_wp2_with fail
  refine hrg.mono ?_
  rintro e w1 ⟨rfl, rfl⟩
  go_wp2_with fail
  refine hpl.mono ?_
  rintro e w1 ⟨rfl, rfl⟩
  go_wp2_with fail
  refine hnd.mono ?_
  rintro e w1 ⟨rfl, rfl⟩
  go_wp2
  go_ret2
  exact ⟨rfl, Below.refl _ _⟩

set_option maxHeartbeats 4000000 in
set_option maxRecDepth 100000 in
theorem pieces_ok (g a : Nat) (s : ByteArray) (w : World) (hg : 1 ≤ g) (hg2 : g ≤ 2147483647) (ha : a ≤ 128) (hs : s.size ≤ 1000) (h : a + needJ s.size ≤ 128) :
    Calls Tryd.prog 11 #[.int .i64 g, .int .i64 a, .string s] w fun e w' => ∃ v', e = .returned (.tuple #[v', .int .i64 0]) ∧ RowV w' v' (recL g a s.data.toList) ∧ Below w.heap.size w w' := by
  have hrg := rgen_any g w
  rw [gen_of hg hg2] at hrg
  have hpl := rplc_any a w
  rw [plc_of ha] at hpl
  have hnd := needj_in s.size w hs
  have hd : decide ((1000 : Int) < s.size) = false := decide_eq_false (by omega)
  have hd2 : decide (1000 < s.size) = false := decide_eq_false (by omega)
  obtain ⟨l, hl⟩ : ∃ l, l = s.data.toList := ⟨_, rfl⟩
  have hlen : l.length = s.size := by rw [hl]; simp
  have HCR := Lib.hid (cut_rec g a l)
  have HRM := Lib.hid (fun i (hi : i < needJ s.size) => needJ_room hi)
  have hnl := needJ_le hs
  rw [hlen] at HCR
  rw [← hl]
  have HL := Lib.hid hl
  clear hl
  generalize needJ s.size = k at *
  have hw : IntKind.i64.wrap (128 - (a : Int)) = 128 - a := IntWalk.i64_in _ (by omega)
  have hk : decide (128 - (a : Int) < k) = false := decide_eq_false (by omega)
  go_enter Tryd.func11, Tryd.ntmps11
  go_wp2_with fail
  refine hrg.mono ?_
  rintro e w1 ⟨rfl, rfl⟩
  go_wp2_with fail
  refine hpl.mono ?_
  rintro e w1 ⟨rfl, rfl⟩
  go_wp2_with fail
  refine hnd.mono ?_
  rintro e w1 ⟨rfl, rfl⟩
  clear hrg hpl hnd
  go_wp2
  go_loopw [35] (fun i wr => ∃ (j : Nat), i = .int .i64 j ∧ j ≤ k ∧ Lib.IsBuilder 66 5 w.heap.size w.heap.size (Lib.byteCells (rawsL g a l j)) wr ∧ Below w.heap.size w wr) (fun i _ => (k - intOf i).toNat)
  case atStart => exact ⟨0, rfl, by omega, Lib.fresh_isBuilder _ _ w, (Below.refl _ _).alloc (Nat.le_refl _) _⟩
  case round =>
    obtain ⟨j, rfl, hj, hbd, hbr⟩ := hrel
    have HB := Lib.hid hbd
    have HR := Lib.hid hbr
    clear hbd hbr
    by_cases hjk : j < k
    · have h24 := HRM.out j hjk
      have hm1 : IntKind.i64.wrap ((j : Int) * 24) = ((24 * j : Nat) : Int) := by rw [IntWalk.i64_in _ (by omega)]; omega
      have hm2 : IntKind.i64.wrap ((a : Int) + j) = ((a + j : Nat) : Int) := by rw [IntWalk.i64_in _ (by omega)]; omega
      have hx1 : s.size - 24 * j ≤ 1000 := by omega
      obtain ⟨r, hr⟩ : ∃ r, r = s.extract (24 * j) s.size := ⟨_, rfl⟩
      have hrz : r.size = s.size - 24 * j := by rw [hr, ByteArray.size_extract]; omega
      have hrl : r.data.toList = l.drop (24 * j) := by
        rw [hr, HL.out, ByteArray.data_extract, Array.toList_extract, List.extract_eq_take_drop, List.take_of_length_le (by simp)]
      obtain ⟨q, hq⟩ : ∃ q, q = r.extract 0 (min ((s.size - 24 * j : Nat) : Int) 24).toNat := ⟨_, rfl⟩
      have hq2 : q = r.extract 0 (min r.size 24) := by rw [hq, show (min ((s.size - 24 * j : Nat) : Int) 24).toNat = min r.size 24 by omega]
      have hqz : q.size = min r.size 24 := by rw [hq2, ByteArray.size_extract]; omega
      have hql : q.data.toList = (l.drop (24 * j)).take 24 := by
        rw [hq2, ByteArray.data_extract, Array.toList_extract, List.extract_eq_take_drop, hrl, List.drop_zero, List.take_eq_take_iff, List.length_drop, hrz]
        omega
      have HR0 := Lib.hid hr
      have HQ0 := Lib.hid hq
      have HQL := Lib.hid hql
      have hhd : ∀ wx : World, Calls Tryd.prog 29 #[.int .i64 g, .int .i64 ((a : Int) + j), .int .i64 ((s.size - 24 * j : Nat) : Int)] wx fun e w' => e = .returned (.tuple #[.string (hdS g (a + j) (s.size - 24 * j)), .int .i64 0]) ∧ Below wx.heap.size wx w' := fun wx => head_ok g (a + j) (s.size - 24 * j) wx hg2 (by omega) (by omega)
      rw [← hrz] at hhd
      have HRAW := Lib.hid (show rawsL g a l (j + 1) = rawsL g a l j ++ (hdS g (a + j) r.size).data.toList ++ q.data.toList by
        rw [raws_succ, raws_get g a l j (by omega), hql, hrz, hlen, List.append_assoc]
        rfl)
      have hhz := hdS_size g (a + j) r.size
      have HHD := Lib.hid hhd
      have hle := raws_le g a l j
      have HLE := Lib.hid (show (rawsL g a l j).length ≤ 2000 by omega)
      have hmin : min (r.size : Int) 24 = (q.size : Nat) := by omega
      generalize hdS g (a + j) r.size = hs at *
      clear hr hq hq2 hrl hql hhd hle
      go_wp2_with fail
      rw [← hrz, ← HR0.out]
      refine (HHD.out _).mono ?_
      rintro e w1 ⟨rfl, hb1⟩
      have HB1 := Lib.hid (bld_below HB.out hb1)
      have HR1 := Lib.hid (HR.out.trans (hb1.mono HR.out.size))
      clear hb1
      go_wp2_with fail
      refine (write_any _ _ _ hs _ HB1.out (by rw [Lib.byteCells_length]; have := HLE.out; omega) HR1.out.size).mono ?_
      rintro e w2 ⟨rfl, hb2, hb3⟩
      have HB2 := Lib.hid hb2
      have HR2 := Lib.hid (HR1.out.trans hb3)
      clear hb2 hb3
      go_wp2_with fail
      rw [← HQ0.out]
      refine (write_any _ _ _ q _ (.inr HB2.out) (by rw [List.length_append, Lib.byteCells_length, Lib.strCells_length]; have := HLE.out; omega) HR2.out.size).mono ?_
      rintro e w3 ⟨rfl, hb3, hb4⟩
      have HB3 := Lib.hid hb3
      have HR3 := Lib.hid (HR2.out.trans hb4)
      clear hb3 hb4
      go_wp2
      go_roundw
      case rel =>
        refine ⟨j + 1, by go_num, by omega, ?_, HR3.out⟩
        have e : Lib.byteCells (rawsL g a l (j + 1)) = Lib.byteCells (rawsL g a l j) ++ Lib.strCells hs ++ Lib.strCells q := by
          rw [HRAW.out]; simp [Lib.byteCells, Lib.strCells]
        rw [e]
        exact .inr HB3.out
      case measure => simp [intOf]; omega
    · obtain rfl : j = k := by omega
      have hle := raws_le g a l j
      go_wp2_with fail
      refine (Tryd.Builder_String_any _ _ (rawsL g a l j) _ HB.out HR.out.size).mono ?_
      rintro e w1 ⟨rfl, hb1⟩
      have HR1 := Lib.hid (HR.out.trans hb1)
      clear hb1
      have hct := cut_any (⟨(rawsL g a l j).toArray⟩ : ByteArray) w1 (by show (rawsL g a l j).toArray.size ≤ _; rw [List.size_toArray]; omega)
      rw [show (⟨(rawsL g a l j).toArray⟩ : ByteArray).data.toList = rawsL g a l j from rfl, HCR.out] at hct
      obtain ⟨z, hz⟩ : ∃ z, z = (⟨(rawsL g a l j).toArray⟩ : ByteArray) := ⟨_, rfl⟩
      rw [← hz] at hct ⊢
      clear hz hle
      go_wp2_with fail
      refine hct.mono ?_
      rintro e w2 ⟨v2, rfl, hv2, hb2⟩
      have HV := Lib.hid hv2
      have HR2 := Lib.hid (HR1.out.trans (hb2.mono HR1.out.size))
      clear hv2 hb2 hct
      go_wp2
      go_ret2
      exact ⟨_, rfl, HV.out, HR2.out⟩

/-- Pieces, whatever comes of it. -/
theorem pieces_any (g a : Int) (s : ByteArray) (w : World) (hs : s.size ≤ maxLen) :
    Calls Tryd.prog 11 #[.int .i64 g, .int .i64 a, .string s] w fun e w' => ∃ v', e = .returned (.tuple #[v', .int .i64 (pcE g a s.size)]) ∧ RowV w' v' (pcsL g a s.data.toList) ∧ Below w.heap.size w w' := by
  unfold pcsL
  rw [ba_len]
  cases hb : pcB g a s.size with
  | false =>
    have e : pcE g a s.size = 1 := by unfold pcE; rw [hb]; rfl
    rw [e, if_neg (by decide)]
    refine (pieces_bad g a s w hs hb).mono ?_
    rintro e w' ⟨rfl, h⟩
    exact ⟨_, rfl, nil_row _, h⟩
  | true =>
    obtain ⟨p, q, rfl, h1, h2, rfl, h3, h4⟩ := pc_right hb
    by_cases h5 : q + needJ s.size ≤ 128
    · have e : pcE p q s.size = 0 := by unfold pcE; rw [hb, if_pos rfl, if_pos (by omega)]
      rw [e, if_pos rfl]
      exact pieces_ok p q s w h1 h2 h3 h4 h5
    · have e : pcE p q s.size = 6 := by unfold pcE; rw [hb, if_pos rfl, if_neg (by omega)]
      rw [e, if_neg (by decide)]
      refine (pieces_full p q s w h1 h2 h3 h4 (by omega)).mono ?_
      rintro e w' ⟨rfl, h⟩
      exact ⟨_, rfl, nil_row _, h⟩

end Go.Proofs.YtdgjnjhmjgdhnaaDoor
