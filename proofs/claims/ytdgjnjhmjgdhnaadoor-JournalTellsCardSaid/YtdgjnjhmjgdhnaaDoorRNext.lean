/- The walks of the document's next and Parse of layer 8. -/
import Derived.Test.YtdgjnjhmjgdhnaaDoorRPieces
import Derived.Test.YtdgjnjhmjgdhnaaDoorWParse
namespace Go.Proofs.YtdgjnjhmjgdhnaaDoor
open Go.RowKit

/-! The texts of pieces, one behind the other. -/
def tailsL (m : List ByteArray) : List UInt8 := (m.map fun x => x.data.toList.drop 8).flatten
theorem tails_snoc (m : List ByteArray) (x : ByteArray) : tailsL (m ++ [x]) = tailsL m ++ x.data.toList.drop 8 := by
  unfold tailsL
  rw [List.map_append, List.flatten_append]
  simp
theorem tails_len {m : List ByteArray} (h : fillB m = true) : (tailsL m).length = 24 * m.length := by
  induction m with
  | nil => rfl
  | cons x m ih =>
    unfold fillB at h
    rw [List.all_cons, Bool.and_eq_true] at h
    have hx : x.size = 32 := by simpa using h.1
    have h2 := ih h.2
    unfold tailsL at *
    rw [List.map_cons, List.flatten_cons, List.length_append, h2, List.length_drop, ba_len, hx, List.length_cons]
    omega
theorem pc_tail (g a : Nat) (r : List UInt8) : (pcS g a r).data.toList.drop 8 = r.take 24 ++ List.replicate (24 - r.length) 0 := by
  rw [pcS_list]
  unfold pcL rawL
  rw [List.append_assoc, hd_drop]
/-- The pieces of a record have its text. -/
theorem rec_tails (g a : Nat) (t : List UInt8) : (tailsL (recL g a t)).take t.length = t := by
  have key : ∀ n (t : List UInt8) (a : Nat), t.length ≤ n → ∃ z, tailsL (recL g a t) = t ++ z := by
    intro n
    induction n with
    | zero =>
      intro t a h
      have : t = [] := List.eq_nil_of_length_eq_zero (by omega)
      subst this
      exact ⟨_, rfl⟩
    | succ n ih =>
      intro t a h
      by_cases h24 : t.length ≤ 24
      · rw [rec_small g a h24]
        refine ⟨List.replicate (24 - t.length) 0, ?_⟩
        unfold tailsL
        simp only [List.map_cons, List.map_nil, List.flatten_cons, List.flatten_nil, List.append_nil]
        rw [pc_tail, List.take_of_length_le h24]
      · rw [rec_more g a (by omega)]
        obtain ⟨z, hz⟩ := ih (t.drop 24) (a + 1) (by rw [List.length_drop]; omega)
        refine ⟨z, ?_⟩
        unfold tailsL at *
        rw [List.map_cons, List.flatten_cons, hz, pc_tail, show 24 - t.length = 0 by omega, List.replicate_zero, List.append_nil, ← List.append_assoc, List.take_append_drop]
  obtain ⟨z, hz⟩ := key t.length t a (Nat.le_refl _)
  rw [hz, List.take_left]
/-- The first piece tells how long the text is. -/
theorem rec_left {g a : Nat} {t : List UInt8} {m : List ByteArray} (ht : t.length ≤ 1000) (h : recL g a t <+: m) (h0 : 0 < m.length) : leftN (m[0]).data.toList = t.length := by
  have e := h.getElem (i := 0) (by rw [rec_len]; exact needJ_pos _)
  rw [rec_get g a t 0 (needJ_pos _)] at e
  rw [← e, pcS_list, Nat.mul_zero, List.drop_zero, Nat.add_zero]
  exact pc_left g a t ht

theorem next_bad {g a : Nat} {m : List ByteArray} (h0 : 0 < m.length) (h : rdB g a (m[0]).data.toList = false) : recF g a none m = none := by
  cases m with
  | nil => rfl
  | cons x m =>
    simp only [List.getElem_cons_zero] at h
    refine recF_bad ?_
    rw [h]
    rfl
/-- Why there is no record. -/
theorem next_none {g a : Nat} {m : List ByteArray} {z n : Nat} (h0 : 0 < m.length) (hz : z = leftN (m[0]).data.toList) (hn : n = needJ z) (h : m.length < n ∨ (∃ i, ∃ h1 : i < m.length, i < n ∧ (m[i]).size ≠ 32) ∨ (∃ i, ∃ h1 : i < m.length, i < n ∧ m[i] ≠ pcS g (a + i) (((tailsL (m.take n)).take z).drop (24 * i)))) : recF g a none m = none := by
  cases hf : recF g a none m with
  | none => rfl
  | some t =>
    exfalso
    obtain ⟨s1, _, s3⟩ := rec_sound hf
    have e1 := rec_left s1 s3 h0
    rw [← hz] at e1
    have hle := s3.length_le
    rw [rec_len, ← e1, ← hn] at hle
    have htk : m.take n = recL g a t := by
      obtain ⟨m', rfl⟩ := s3
      rw [List.take_append_of_le_length (by rw [rec_len, ← e1, ← hn]; exact Nat.le_refl _), List.take_of_length_le (by rw [rec_len, ← e1, ← hn]; exact Nat.le_refl _)]
    have hget : ∀ i (h1 : i < m.length), i < n → m[i] = pcS g (a + i) (t.drop (24 * i)) := fun i h1 h2 => by
      have e := s3.getElem (i := i) (by rw [rec_len, ← e1, ← hn]; exact h2)
      rw [rec_get g a t i (by rw [← e1, ← hn]; exact h2)] at e
      exact e.symm
    rcases h with h | ⟨i, h1, h2, h3⟩ | ⟨i, h1, h2, h3⟩
    · omega
    · exact h3 (by rw [hget i h1 h2, pcS_size])
    · apply h3
      rw [hget i h1 h2, htk, e1, rec_tails]
theorem next_some {g a : Nat} {m : List ByteArray} {z n : Nat} {t : List UInt8} (hz : t.length = z) (h1000 : z ≤ 1000) (hn : n = needJ z) (hm : n ≤ m.length) (h : ∀ i (h1 : i < m.length), i < n → m[i] = pcS g (a + i) (t.drop (24 * i))) : recF g a none m = some t := by
  refine rec_full (by omega) rfl ?_
  rw [List.prefix_iff_getElem?]
  intro i hi
  have hi2 := hi
  rw [rec_len, hz, ← hn] at hi2
  rw [List.getElem?_eq_getElem (by omega), h i (by omega) hi2, rec_get g a t i (by rw [hz, ← hn]; exact hi2)]

def nextE (a : Nat) (o : Option (List UInt8)) : Int := match o with
  | none => -1
  | some t => ((a + needJ t.length : Nat) : Int)

set_option maxHeartbeats 8000000 in
set_option maxRecDepth 100000 in
theorem dnext_any (g a : Nat) (A : Option Addr) (c : Nat) (l : List ByteArray) (w : World) (hA : Strs w w.heap.size A l) (hn : l.length ≤ 128) (hs : ∀ x ∈ l, x.size ≤ maxLen) (hg : 1 ≤ g) (hg2 : g ≤ 2147483647) (ha : a ≤ l.length) :
    Calls Tryd.prog 36 #[.int .i64 g, .int .i64 a, .slice A l.length c] w fun e w' => e = .returned (.tuple #[.string (recT (recF g a none (l.drop a))), .int .i64 (nextE a (recF g a none (l.drop a)))]) ∧ Below w.heap.size w w' := by
  by_cases hal : a < l.length
  · obtain ⟨a1, rfl, hab, hca⟩ := hA (by omega)
    have hdl : (l.drop a).length = l.length - a := List.length_drop
    have hdg : ∀ i (h : i < (l.drop a).length), (l.drop a)[i] = l[a + i]'(by rw [hdl] at h; omega) := fun i h => List.getElem_drop
    have HC := Lib.hid (fun (wx : World) (hb : Below w.heap.size w wx) (i : Nat) (h : a + i < l.length) => show wx.cell? (a1.add (a + i)) = some (.string (l[a + i])) from (hb.cell (by rw [block_of_add]; exact hab)).trans (hca (a + i) h))
    have HSZ := Lib.hid (fun (i : Nat) (h : a + i < l.length) => hs _ (List.getElem_mem h))
    obtain ⟨L, hL⟩ : ∃ L : Nat → ByteArray, ∀ i (h : a + i < l.length), L i = l[a + i] := ⟨fun i => (l[a + i]?).getD ⟨#[]⟩, fun i h => by simp [List.getElem?_eq_getElem h]⟩
    have HLC := Lib.hid (fun (wx : World) (hb : Below w.heap.size w wx) (i : Nat) (h : a + i < l.length) => show wx.cell? (a1.add (a + i)) = some (.string (L i)) by rw [hL i h]; exact HC.out wx hb i h)
    have HLS := Lib.hid (fun (i : Nat) (h : a + i < l.length) => show (L i).size ≤ maxLen by rw [hL i h]; exact HSZ.out i h)
    obtain ⟨m, hm⟩ : ∃ m, m = l.drop a := ⟨_, rfl⟩
    have HLM := Lib.hid (show ∀ i (h : i < m.length), m[i] = L i from fun i h => by
      subst hm
      rw [hdg i h, hL i (by rw [hdl] at h; omega)])
    have hml : m.length = l.length - a := by rw [hm, hdl]
    rw [← hm]
    obtain ⟨o, ho⟩ : ∃ o, o = recF g a none m := ⟨_, rfl⟩
    rw [← ho]
    have HO := Lib.hid ho
    clear ho hm hL hs hA hca hdl hdg HC HSZ
    generalize l.length = n at *
    have c0 := HLC.out w (Below.refl _ _) 0 (by omega)
    rw [Nat.add_zero] at c0
    have hs0 := HLS.out 0 (by omega)
    unfold maxLen at hs0
    have HM0 := Lib.hid (HLM.out 0 (by omega))
    have hzd : decide ((n : Int) ≤ a) = false := decide_eq_false (by omega)
    have hzd2 : decide (n ≤ a) = false := decide_eq_false (by omega)
    by_cases h32 : (L 0).size = 32
    · obtain ⟨r, hr⟩ : ∃ r, r = (L 0).extract 6 8 := ⟨_, rfl⟩
      have hrz : r.size = 2 := by rw [hr, ByteArray.size_extract]; omega
      have hrl : r.data.toList = ((L 0).data.toList.drop 6).take 2 := by
        rw [hr, ByteArray.data_extract, Array.toList_extract, List.extract_eq_take_drop]
      have htk := fun wx => dtake_ok r 2 wx (by omega) (by omega) (by omega)
      rw [hrl, List.take_take, show min 2 2 = 2 from rfl, show val (((L 0).data.toList.drop 6).take 2) = leftN (L 0).data.toList from rfl] at htk
      have hlz := left_lt (L 0).data.toList
      obtain ⟨z, hz⟩ : ∃ z, z = leftN (L 0).data.toList := ⟨_, rfl⟩
      rw [← hz] at htk hlz
      have HZ := Lib.hid hz
      have HTK := Lib.hid htk
      have HR := Lib.hid hr
      have hcv : IntKind.i64.wrap (z : Int) = z := IntWalk.i64_in _ (by omega)
      clear hz htk hr hrl
      by_cases h1000 : z ≤ 1000
      · have HND := Lib.hid (fun wx => dneedj_in z wx h1000)
        obtain ⟨q, hq⟩ : ∃ q, q = needJ z := ⟨_, rfl⟩
        have hq1 := needJ_pos z
        have hq2 := needJ_le h1000
        have hq3 : z ≤ 24 * q := by rw [hq]; unfold needJ; omega
        rw [← hq] at HND hq1 hq2
        have HQ := Lib.hid hq
        clear hq
        have hq0 : ((q : Int) == 0) = false := by simp; omega
        have hww : IntKind.i64.wrap ((a : Int) + q) = ((a + q : Nat) : Int) := by rw [IntWalk.i64_in _ (by omega)]; omega
        by_cases hfit : a + q ≤ n
        · have hd1 : decide ((n : Int) < a + q) = false := decide_eq_false (by omega)
          have hd2 : decide (n < a + q) = false := decide_eq_false (by omega)
          go_enter Tryd.func36, Tryd.ntmps36
          go_wp2_with fail
          rw [← HR.out]
          refine (HTK.out _).mono ?_
          rintro e w1 ⟨rfl, hb1⟩
          have HB1 := Lib.hid hb1
          clear hb1
          go_wp2_with fail
          refine (HND.out _).mono ?_
          rintro e w2 ⟨rfl, rfl⟩
          go_wp2
          go_loopw [12, 13] (fun t i wr => ∃ (k : Nat) (x : ByteArray), i = .int .i64 k ∧ k ≤ q ∧ t = .string x ∧ x.data.toList = tailsL (m.take k) ∧ x.size = 24 * k ∧ (∀ j, j < k → (L j).size = 32) ∧ Below w.heap.size w wr) (fun _ i _ => (q - intOf i).toNat)
          case atStart => exact ⟨0, ⟨#[]⟩, rfl, by omega, rfl, rfl, rfl, by omega, HB1.out⟩
          case round =>
            obtain ⟨k, x, rfl, hk, rfl, hxl, hxz, hall, hbr⟩ := hrel
            have HXL := Lib.hid hxl
            have HALL := Lib.hid hall
            have HB := Lib.hid hbr
            clear hxl hall
            by_cases hlt : k < q
            · have c1 := HLC.out wr hbr k (by omega)
              have hsk := HLS.out k (by omega)
              have HMK := Lib.hid (HLM.out k (by omega))
              have hwk : IntKind.i64.wrap ((a : Int) + k) = ((a + k : Nat) : Int) := by rw [IntWalk.i64_in _ (by omega)]; omega
              unfold maxLen at hsk
              clear hbr
              by_cases hk32 : (L k).size = 32
              · have HMT := Lib.hid (show m.take (k + 1) = m.take k ++ [L k] by rw [List.take_succ_eq_append_getElem (by omega), HMK.out])
                have HAL2 := Lib.hid (show ∀ j, j < k + 1 → (L j).size = 32 from fun j hj => by
                  by_cases hjk : j = k
                  · rw [hjk]; exact hk32
                  · exact HALL.out j (by omega))
                have HEX := Lib.hid (show ((L k).extract 8 32).data.toList = (L k).data.toList.drop 8 by
                  rw [ByteArray.data_extract, Array.toList_extract, List.extract_eq_take_drop, List.take_of_length_le (by rw [List.length_drop, ba_len]; omega)])
                have hez : ((L k).extract 8 32).size = 24 := by rw [ByteArray.size_extract]; omega
                generalize L k = y at *
                go_wp2
                go_roundw
                case rel =>
                  refine ⟨k + 1, x ++ y.extract 8 32, by go_num, by omega, rfl, ?_, by rw [ByteArray.size_append]; omega, HAL2.out, HB.out⟩
                  rw [HMT.out, tails_snoc, ← HEX.out, ← HXL.out]
                  simp
                case measure => simp [intOf]; omega
              · have HNO := Lib.hid (show o = none by
                  rw [HO.out]
                  exact next_none (z := z) (n := q) (by omega) (by rw [HZ.out, HM0.out]) HQ.out (.inr (.inl ⟨k, by omega, hlt, by rw [HMK.out]; exact hk32⟩)))
                have hne : (((L k).size : Int) != 32) = true := by simp; omega
                have hne2 : (((L k).size : Int) == 32) = false := by simp; omega
                generalize L k = y at *
                go_wp2
                exact bodyPost_ret (v := .tuple #[.string ⟨#[]⟩, .int .i64 (-1)]) (by simp [results, Tryd.results36, go_sem]) rfl ⟨by rw [HNO.out]; rfl, HB.out⟩
            · obtain rfl : k = q := by omega
              have hyl : (x.extract 0 z).data.toList = (tailsL (m.take k)).take z := by
                rw [ByteArray.data_extract, Array.toList_extract, List.extract_eq_take_drop, List.drop_zero, HXL.out, Nat.sub_zero]
              have hyz : (x.extract 0 z).size = z := by rw [ByteArray.size_extract]; omega
              obtain ⟨y, hy⟩ : ∃ y, y = x.extract 0 z := ⟨_, rfl⟩
              rw [← hy] at hyl hyz
              have HYL := Lib.hid hyl
              have HY := Lib.hid hy
              have hpc := fun wx => dpieces_ok g a y wx hg hg2 (by omega) (by omega) (by rw [hyz, ← HQ.out]; omega)
              have hpl := rec_len' g a y
              rw [hyz, ← HQ.out] at hpl
              have HPG := Lib.hid (fun i (hi : i < k) => rec_get g a y.data.toList i (by rw [ba_len, hyz, ← HQ.out]; exact hi))
              obtain ⟨P, hP⟩ : ∃ P, P = recL g a y.data.toList := ⟨_, rfl⟩
              have HPG2 := Lib.hid (show ∀ i (hi : i < P.length), P[i] = pcS g (a + i) (y.data.toList.drop (24 * i)) from fun i hi => by
                subst hP
                exact HPG.out i (by omega))
              rw [← hP] at hpc hpl
              have HPC := Lib.hid hpc
              have HPL := Lib.hid hpl
              clear hyl hy hpc hpl hP HPG hbr
              go_wp2_with fail
              rw [← HY.out]
              refine (HPC.out _).mono ?_
              rintro e w3 ⟨v3, rfl, ⟨A3, c3, rfl, hs3, _⟩, hb3⟩
              rw [HPL.out]
              have HS3 := Lib.hid hs3
              have HB3 := Lib.hid (HB.out.trans (hb3.mono HB.out.size))
              clear hb3 hs3 HPC
              go_wp2
              go_loopw [16] (fun i wy => ∃ (j : Nat), i = .int .i64 j ∧ j ≤ k ∧ (∀ i, i < j → L i = pcS g (a + i) (y.data.toList.drop (24 * i))) ∧ Below w3.heap.size w3 wy) (fun i _ => (k - intOf i).toNat)
              case atStart => exact ⟨0, rfl, by omega, by omega, Below.refl _ _⟩
              case round =>
                obtain ⟨j, rfl, hj, hall2, hbr2⟩ := hrel
                have HALL2 := Lib.hid hall2
                have HB4 := Lib.hid (HB3.out.trans (hbr2.mono HB3.out.size))
                have HB5 := Lib.hid hbr2
                clear hall2
                by_cases hjk : j < k
                · obtain ⟨ad, rfl, hab3, hca3⟩ := (HS3.out.below hbr2) (by rw [HPL.out]; omega)
                  have c1 := hca3 j (by rw [HPL.out]; omega)
                  have c2 := HLC.out wr HB4.out j (by omega)
                  rw [HPG2.out j (by rw [HPL.out]; omega)] at c1
                  have HMJ := Lib.hid (HLM.out j (by omega))
                  obtain ⟨u, hu⟩ : ∃ u, u = pcS g (a + j) (y.data.toList.drop (24 * j)) := ⟨_, rfl⟩
                  rw [← hu] at c1
                  have HU := Lib.hid hu
                  have hwj : IntKind.i64.wrap ((a : Int) + j) = ((a + j : Nat) : Int) := by rw [IntWalk.i64_in _ (by omega)]; omega
                  clear hu hca3 hbr2
                  by_cases huy : u = L j
                  · have HAL3 := Lib.hid (show ∀ i, i < j + 1 → L i = pcS g (a + i) (y.data.toList.drop (24 * i)) from fun i hi => by
                      by_cases hij : i = j
                      · rw [hij, ← huy]; exact HU.out
                      · exact HALL2.out i (by omega))
                    have ss := str_eq huy
                    generalize L j = x2 at *
                    subst huy
                    go_wp2
                    go_quiet (fail)
                    go_wp2
                    go_roundw
                    case rel => exact ⟨j + 1, by go_num, by omega, HAL3.out, below_drewN HB5.out _⟩
                    case measure => simp [intOf]; omega
                  · have HNO := Lib.hid (show o = none by
                      rw [HO.out]
                      refine next_none (z := z) (n := k) (by omega) (by rw [HZ.out, HM0.out]) HQ.out (.inr (.inr ⟨j, by omega, hjk, ?_⟩))
                      rw [HMJ.out, ← HYL.out, ← HU.out]
                      exact fun e => huy e.symm)
                    have ss := str_ne huy
                    have ss2 : (u.toList != (L j).toList) = true := by simp only [bne, ss]; rfl
                    generalize L j = x2 at *
                    go_wp2
                    go_quiet (fail)
                    go_wp2
                    exact bodyPost_ret (v := .tuple #[.string ⟨#[]⟩, .int .i64 (-1)]) (by simp [results, Tryd.results36, go_sem]) rfl ⟨by rw [HNO.out]; rfl, below_drewN HB4.out _⟩
                · obtain rfl : j = k := by omega
                  have HSO := Lib.hid (show o = some y.data.toList by
                    rw [HO.out]
                    refine next_some (z := z) (n := j) (by rw [ba_len, hyz]) h1000 HQ.out (by omega) (fun i h1 h2 => ?_)
                    rw [HLM.out i h1]
                    exact HALL2.out i h2)
                  have HSE := Lib.hid (show recT (some y.data.toList) = y ∧ nextE a (some y.data.toList) = ((a + j : Nat) : Int) by
                    refine ⟨?_, ?_⟩
                    · apply ByteArray.ext
                      simp [recT]
                    · unfold nextE
                      simp only [ba_len]
                      rw [hyz, ← HQ.out])
                  clear hbr2
                  go_wp2
                  exact bodyPost_ret (v := .tuple #[.string y, .int .i64 (a + j)]) (by simp [results, Tryd.results36, go_sem]) rfl ⟨by rw [HSO.out, HSE.out.1, HSE.out.2]; rfl, HB4.out⟩
        · have hd1 : decide ((n : Int) < a + q) = true := decide_eq_true (by omega)
          have hd2 : decide (n < a + q) = true := decide_eq_true (by omega)
          have HNO := Lib.hid (show o = none by
            rw [HO.out]
            exact next_none (z := z) (n := q) (by omega) (by rw [HZ.out, HM0.out]) HQ.out (.inl (by omega)))
          go_enter Tryd.func36, Tryd.ntmps36
          go_wp2_with fail
          rw [← HR.out]
          refine (HTK.out _).mono ?_
          rintro e w1 ⟨rfl, hb1⟩
          have HB1 := Lib.hid hb1
          clear hb1
          go_wp2_with fail
          refine (HND.out _).mono ?_
          rintro e w2 ⟨rfl, rfl⟩
          go_wp2
          exact bodyPost_ret (v := .tuple #[.string ⟨#[]⟩, .int .i64 (-1)]) (by simp [results, Tryd.results36, go_sem]) rfl ⟨by rw [HNO.out]; rfl, HB1.out⟩
      · have HNO := Lib.hid (show o = none by
          rw [HO.out]
          exact next_bad (by omega) (by rw [HM0.out]; exact rd_great (by rw [← HZ.out]; omega)))
        have HND := Lib.hid (fun wx => dneedj_out (z : Int) wx (.inr (by omega)))
        go_enter Tryd.func36, Tryd.ntmps36
        go_wp2_with fail
        rw [← HR.out]
        refine (HTK.out _).mono ?_
        rintro e w1 ⟨rfl, hb1⟩
        have HB1 := Lib.hid hb1
        clear hb1
        go_wp2_with fail
        refine (HND.out _).mono ?_
        rintro e w2 ⟨rfl, rfl⟩
        go_wp2
        exact bodyPost_ret (v := .tuple #[.string ⟨#[]⟩, .int .i64 (-1)]) (by simp [results, Tryd.results36, go_sem]) rfl ⟨by rw [HNO.out]; rfl, HB1.out⟩
    · have HNO := Lib.hid (show o = none by
        rw [HO.out]
        exact next_bad (by omega) (by rw [HM0.out]; exact rd_len (by rw [ba_len]; exact h32)))
      have hne : (((L 0).size : Int) != 32) = true := by simp; omega
      have hne2 : (((L 0).size : Int) == 32) = false := by simp; omega
      generalize L 0 = y at *
      go_enter Tryd.func36, Tryd.ntmps36
      go_wp2
      exact bodyPost_ret (v := .tuple #[.string ⟨#[]⟩, .int .i64 (-1)]) (by simp [results, Tryd.results36, go_sem]) rfl ⟨by rw [HNO.out]; rfl, Below.refl _ _⟩
  · have HO := Lib.hid (show recF g a none (l.drop a) = none by rw [List.drop_of_length_le (by omega)]; rfl)
    have hzd : decide ((l.length : Int) ≤ a) = true := decide_eq_true (by omega)
    have hzd2 : decide (l.length ≤ a) = true := decide_eq_true (by omega)
    rw [HO.out]
    generalize l.length = n at *
    go_enter Tryd.func36, Tryd.ntmps36
    go_wp2
    exact bodyPost_ret (v := .tuple #[.string ⟨#[]⟩, .int .i64 (-1)]) (by simp [results, Tryd.results36, go_sem]) rfl ⟨rfl, Below.refl _ _⟩

end Go.Proofs.YtdgjnjhmjgdhnaaDoor
