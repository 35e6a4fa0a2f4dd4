/- The walks of the document's Need, May and Pieces of layer 8. -/
import Derived.Test.YtdgjnjhmjgdhnaaDoorWPieces
import Derived.Test.YtdgjnjhmjgdhnaaDoorRNum
import Derived.Test.YtdgjnjhmjgdhnaaDoorWAppend
namespace Go.Proofs.YtdgjnjhmjgdhnaaDoor
open Go.RowKit

set_option maxRecDepth 100000 in
set_option maxHeartbeats 1000000 in
theorem dneedj_in (n : Nat) (w : World) (h : n ≤ 1000) :
    Calls Tryd.prog 17 #[.int .i64 n] w fun e w' => e = .returned (.int .i64 (needJ n)) ∧ w = w' := by
  have hd : decide ((1000 : Int) < n) = false := decide_eq_false (by omega)
  have hd2 : decide (1000 < n) = false := decide_eq_false (by omega)
  have hd3 : decide ((n : Int) < 0) = false := decide_eq_false (by omega)
  have HN := Lib.hid (show ∀ k, k ≤ needJ n → n ≤ 24 * k → 1 ≤ k → needJ n = k from fun k h1 h2 h3 => by unfold needJ at *; omega)
  have HL := Lib.hid (show ∀ k, 24 * k < n → k + 1 ≤ needJ n from fun k h1 => by unfold needJ; omega)
  have hle := needJ_le h
  have hpos := needJ_pos n
  generalize needJ n = m at *
  go_enter Tryd.func17, Tryd.ntmps17
  go_wp2
  go_loopw [3] (fun i wr => ∃ k : Nat, i = .int .i64 k ∧ 1 ≤ k ∧ k ≤ m ∧ wr = w) (fun i _ => (1000 - intOf i).toNat)
  case atStart => exact ⟨1, rfl, by omega, by omega, rfl⟩
  case round =>
    obtain ⟨k, rfl, hk1, hk, rfl⟩ := hrel
    have hw1 : IntKind.i64.wrap (24 * (k : Int)) = ((24 * k : Nat) : Int) := by rw [IntWalk.i64_in _ (by omega)]; omega
    by_cases hlt : 24 * k < n
    · have hm := HL.out k hlt
      have hd4 : decide ((24 : Int) * k < n) = true := decide_eq_true (by omega)
      have hd5 : decide (24 * k < n) = true := decide_eq_true hlt
      go_wp2
      go_roundw
      case rel => exact ⟨k + 1, by go_num, by omega, hm, by trivial⟩
      case measure => simp [intOf]; omega
    · have hm := HN.out k hk (by omega) hk1
      have HM := Lib.hid hm
      clear hm
      have hd4 : decide ((24 : Int) * k < n) = false := decide_eq_false (by omega)
      have hd5 : decide (24 * k < n) = false := decide_eq_false hlt
      go_wp2
      go_ret
      exact ⟨by rw [HM.out]; rfl, rfl⟩

set_option maxRecDepth 100000 in
set_option maxHeartbeats 400000 in
theorem dneedj_out (n : Int) (w : World) (h : n < 0 ∨ 1000 < n) :
    Calls Tryd.prog 17 #[.int .i64 n] w fun e w' => e = .returned (.int .i64 0) ∧ w = w' := by
  rcases h with h | h
  · go_enter Tryd.func17, Tryd.ntmps17
    go_wp2
    go_ret
    exact ⟨rfl, rfl⟩
  · have hd : decide (n < 0) = false := decide_eq_false (by omega)
    have hd2 : decide (1000 < n) = true := decide_eq_true h
    go_enter Tryd.func17, Tryd.ntmps17
    go_wp2
    go_ret
    exact ⟨rfl, rfl⟩

set_option maxRecDepth 100000 in
set_option maxHeartbeats 1000000 in
theorem dmay_any (g a : Int) (w : World) :
    Calls Tryd.prog 33 #[.int .i64 g, .int .i64 a] w fun e w' => e = .returned (.bool (gpB g a)) ∧ w = w' := by
  unfold gpB genB plcB
  by_cases h1 : 1 ≤ g
  · by_cases h2 : g ≤ 2147483647
    · by_cases h3 : 0 ≤ a
      · by_cases h4 : a ≤ 128
        · rw [decide_eq_true h1, decide_eq_true h2, decide_eq_true h3, decide_eq_true h4]
          go_enter Tryd.func33, Tryd.ntmps33
          go_wp2
          go_ret
          exact ⟨rfl, rfl⟩
        · rw [decide_eq_true h1, decide_eq_true h2, decide_eq_true h3, decide_eq_false h4]
          go_enter Tryd.func33, Tryd.ntmps33
          go_wp2
          go_ret
          exact ⟨rfl, rfl⟩
      · rw [decide_eq_true h1, decide_eq_true h2, decide_eq_false h3]
        go_enter Tryd.func33, Tryd.ntmps33
        go_wp2
        go_ret
        exact ⟨rfl, rfl⟩
    · rw [decide_eq_true h1, decide_eq_false h2]
      go_enter Tryd.func33, Tryd.ntmps33
      go_wp2
      go_ret
      exact ⟨rfl, rfl⟩
  · rw [decide_eq_false h1]
    go_enter Tryd.func33, Tryd.ntmps33
    go_wp2
    go_ret
    exact ⟨rfl, rfl⟩

theorem dnum_ok (n k : Nat) (w : World) (h1 : 1 ≤ k) (h8 : k ≤ 8) (hn : n < 2 ^ 64) (h : n < 256 ^ k) :
    Calls Tryd.prog 34 #[.int .u64 n, .int .i64 k] w fun e w' => e = .returned (.tuple #[.string ⟨(be k n).toArray⟩, .int .i64 0]) ∧ Below w.heap.size w w' := by
  have h2 := dnum_in n k w h1 h8 hn
  have hf : fits n (k : Int) = true := by
    unfold fits
    simp only [Int.toNat_natCast]
    rw [decide_eq_true (by omega), decide_eq_true (by omega), decide_eq_true (by first | exact h | (rw [pow256]; exact h))]
    rfl
  unfold numS numE at h2
  rw [hf] at h2
  simp only [if_true, Int.toNat_natCast] at h2
  exact h2

/-- Bytes, filled up with k bytes 0. -/
def padS (l : List UInt8) (k : Nat) : ByteArray := ⟨(l ++ List.replicate k 0).toArray⟩
theorem padS_next (l : List UInt8) (k : Nat) : padS l k ++ ⟨#[0]⟩ = padS l (k + 1) := by
  unfold padS
  apply ByteArray.ext
  apply Array.toList_inj.1
  rw [ByteArray.data_append, Array.toList_append, List.replicate_succ', ← List.append_assoc]
theorem padS_size (l : List UInt8) (k : Nat) : (padS l k).size = l.length + k := by
  show (l ++ List.replicate k 0).toArray.size = _
  rw [List.size_toArray, List.length_append, List.length_replicate]

set_option maxHeartbeats 2000000 in
set_option maxRecDepth 100000 in
theorem dpieces_bad (g a : Int) (s : ByteArray) (w : World) (hs : s.size ≤ maxLen) (h : pcB g a s.size = false) :
    Calls Tryd.prog 12 #[.int .i64 g, .int .i64 a, .string s] w fun e w' => e = .returned (.tuple #[.slice none 0 0, .int .i64 1]) ∧ Below w.heap.size w w' := by
  unfold maxLen at hs
  have hm := dmay_any g a w
  have e : pcB g a s.size = (gpB g a && decide (s.size ≤ 1000)) := by unfold pcB gpB; cases genB g <;> cases plcB a <;> simp
  rw [e] at h
  cases hG : gpB g a with
  | false =>
    rw [hG] at hm
    clear h hG e
    go_enter Tryd.func12, Tryd.ntmps12
    go_wp2_with fail
    refine hm.mono ?_
    rintro e w1 ⟨rfl, rfl⟩
    go_wp2
    go_ret2
    exact ⟨rfl, Below.refl _ _⟩
  | true =>
    rw [hG] at hm h
    have hn : 1000 < s.size := by simpa using h
    have hd : decide ((1000 : Int) < s.size) = true := decide_eq_true (by omega)
    have hd2 : decide (1000 < s.size) = true := decide_eq_true (by omega)
    clear h hG e
    go_enter Tryd.func12, Tryd.ntmps12
    go_wp2_with fail
    refine hm.mono ?_
    rintro e w1 ⟨rfl, rfl⟩
    go_wp2
    go_ret2
    exact ⟨rfl, Below.refl _ _⟩

set_option maxHeartbeats 2000000 in
set_option maxRecDepth 100000 in
theorem dpieces_full (g a : Nat) (s : ByteArray) (w : World) (hg : 1 ≤ g) (hg2 : g ≤ 2147483647) (ha : a ≤ 128) (hs : s.size ≤ 1000) (h : 128 < a + needJ s.size) :
    Calls Tryd.prog 12 #[.int .i64 g, .int .i64 a, .string s] w fun e w' => e = .returned (.tuple #[.slice none 0 0, .int .i64 6]) ∧ Below w.heap.size w w' := by
  have hm := dmay_any g a w
  rw [gp_of hg hg2 ha] at hm
  have hnd := dneedj_in s.size w hs
  have hnl := needJ_le hs
  have hd : decide ((1000 : Int) < s.size) = false := decide_eq_false (by omega)
  have hd2 : decide (1000 < s.size) = false := decide_eq_false (by omega)
  generalize needJ s.size = k at *
  have hw : IntKind.i64.wrap ((a : Int) + k) = ((a + k : Nat) : Int) := by rw [IntWalk.i64_in _ (by omega)]; omega
  have hk : decide ((128 : Int) < a + k) = true := decide_eq_true (by omega)
  have hk2 : decide (128 < a + k) = true := decide_eq_true (by omega)
  go_enter Tryd.func12, Tryd.ntmps12
  go_wp2_with fail
  refine hm.mono ?_
  rintro e w1 ⟨rfl, rfl⟩
  go_wp2_with fail
  refine hnd.mono ?_
  rintro e w1 ⟨rfl, rfl⟩
  go_wp2
  go_ret2
  exact ⟨rfl, Below.refl _ _⟩

set_option maxHeartbeats 8000000 in
set_option maxRecDepth 100000 in
theorem dpieces_ok (g a : Nat) (s : ByteArray) (w : World) (hg : 1 ≤ g) (hg2 : g ≤ 2147483647) (ha : a ≤ 128) (hs : s.size ≤ 1000) (h : a + needJ s.size ≤ 128) :
    Calls Tryd.prog 12 #[.int .i64 g, .int .i64 a, .string s] w fun e w' => ∃ v', e = .returned (.tuple #[v', .int .i64 0]) ∧ RowV w' v' (recL g a s.data.toList) ∧ Below w.heap.size w w' := by
  obtain ⟨i0, hi0, hz0, hz1, hz2⟩ := info_parts str_info
  have hm := dmay_any g a w
  rw [gp_of hg hg2 ha] at hm
  have hnd := dneedj_in s.size w hs
  have hd : decide ((1000 : Int) < s.size) = false := decide_eq_false (by omega)
  have hd2 : decide (1000 < s.size) = false := decide_eq_false (by omega)
  obtain ⟨l, hl⟩ : ∃ l, l = s.data.toList := ⟨_, rfl⟩
  have hlen : l.length = s.size := by rw [hl]; simp
  have HRM := Lib.hid (fun i (hi : i < needJ s.size) => needJ_room hi)
  have hnl := needJ_le hs
  rw [← hl]
  obtain ⟨P, hP⟩ : ∃ P, P = recL g a l := ⟨_, rfl⟩
  have HPL := Lib.hid (show P.length = needJ s.size by rw [hP, rec_len, hlen])
  have HPG := Lib.hid (fun i (hi : i < needJ s.size) => show P.take (i + 1) = P.take i ++ [pcS g (a + i) (l.drop (24 * i))] by
    have h1 : i < (recL g a l).length := by rw [rec_len, hlen]; exact hi
    rw [hP, List.take_succ_eq_append_getElem h1, rec_get g a l i (by rw [hlen]; exact hi)])
  rw [← hP]
  have HL := Lib.hid hl
  clear hl hP
  generalize needJ s.size = k at *
  have hw : IntKind.i64.wrap ((a : Int) + k) = ((a + k : Nat) : Int) := by rw [IntWalk.i64_in _ (by omega)]; omega
  have hk : decide ((128 : Int) < a + k) = false := decide_eq_false (by omega)
  have hk2 : decide (128 < a + k) = false := decide_eq_false (by omega)
  go_enter Tryd.func12, Tryd.ntmps12
  go_wp2_with fail
  refine hm.mono ?_
  rintro e w1 ⟨rfl, rfl⟩
  go_wp2_with fail
  refine hnd.mono ?_
  rintro e w1 ⟨rfl, rfl⟩
  clear hm hnd
  go_wp2
  go_loopw [10, 11] (fun t i wr => ∃ (j : Nat), i = .int .i64 j ∧ j ≤ k ∧ wr.ownsRow w.heap.size 9 1 t j ((P.take j).map Value.string) ∧ Below w.heap.size w wr) (fun _ i _ => (k - intOf i).toNat)
  case atStart => exact ⟨0, rfl, by omega, World.ownsRow_nil _ _ _ _, Below.refl _ _⟩
  case round =>
    obtain ⟨j, rfl, hj, hown, hbr⟩ := hrel
    have HO := Lib.hid hown
    have HR := Lib.hid hbr
    obtain ⟨A2, c2, rfl⟩ := own_shape hown
    clear hown hbr
    by_cases hjk : j < k
    · have h24 := HRM.out j hjk
      have hm1 : IntKind.i64.wrap (24 * (j : Int)) = ((24 * j : Nat) : Int) := by rw [IntWalk.i64_in _ (by omega)]; omega
      have hm2 : IntKind.i64.wrap ((a : Int) + j) = ((a + j : Nat) : Int) := by rw [IntWalk.i64_in _ (by omega)]; omega
      have hx1 : s.size - 24 * j ≤ 1000 := by omega
      obtain ⟨r, hr⟩ : ∃ r, r = s.extract (24 * j) s.size := ⟨_, rfl⟩
      have hrz : r.size = s.size - 24 * j := by rw [hr, ByteArray.size_extract]; omega
      have hrl : r.data.toList = l.drop (24 * j) := by
        rw [hr, HL.out, ByteArray.data_extract, Array.toList_extract, List.extract_eq_take_drop, List.take_of_length_le (by simp)]
      have HPN := Lib.hid (HPG.out j hjk)
      have cg : IntKind.u64.wrap (g : Int) = g := IntWalk.u64_in _ (by omega)
      have ca : IntKind.u64.wrap ((a : Int) + j) = ((a + j : Nat) : Int) := by rw [IntWalk.u64_in _ (by omega)]; omega
      have cn : IntKind.u64.wrap ((s.size - 24 * j : Nat) : Int) = ((s.size - 24 * j : Nat) : Int) := IntWalk.u64_in _ (by omega)
      have HX := Lib.hid (fun wx => dnum_ok g 4 wx (by omega) (by omega) (by omega) (by omega))
      have HY := Lib.hid (fun wx => dnum_ok (a + j) 2 wx (by omega) (by omega) (by omega) (by omega))
      have HZ := Lib.hid (fun wx => dnum_ok (s.size - 24 * j) 2 wx (by omega) (by omega) (by omega) (by omega))
      have sz : ∀ k v : Nat, (⟨(be k v).toArray⟩ : ByteArray).size = k := fun k v => by
        show (be k v).toArray.size = k
        rw [List.size_toArray, be_length]
      have zx := sz 4 g
      have zy := sz 2 (a + j)
      have zz := sz 2 (s.size - 24 * j)
      have HEX := Lib.hid (show ∀ q : ByteArray, q.data.toList = r.data.toList.take 24 → (⟨(be 4 g).toArray⟩ : ByteArray) ++ ⟨(be 2 (a + j)).toArray⟩ ++ ⟨(be 2 (s.size - 24 * j)).toArray⟩ ++ q = padS (rawL g (a + j) (l.drop (24 * j))) 0 from fun q hq => by
        apply ByteArray.ext
        apply Array.toList_inj.1
        unfold padS
        rw [ByteArray.data_append, ByteArray.data_append, ByteArray.data_append, Array.toList_append, Array.toList_append, Array.toList_append, hq, hrl, raws_get g a l j (by omega), hlen]
        unfold hdL
        simp)
      have HPC := Lib.hid (show padS (rawL g (a + j) (l.drop (24 * j))) (24 - r.size) = pcS g (a + j) (l.drop (24 * j)) by
        unfold padS pcS pcL
        rw [List.length_drop, hrz, hlen])
      have hrw : (rawL g (a + j) (l.drop (24 * j))).length = 8 + min 24 r.size := by rw [raw_len, List.length_drop, hrz, hlen]
      generalize rawL g (a + j) (l.drop (24 * j)) = rw0 at *
      generalize pcS g (a + j) (l.drop (24 * j)) = pc at *
      generalize (⟨(be 4 g).toArray⟩ : ByteArray) = sx at *
      generalize (⟨(be 2 (a + j)).toArray⟩ : ByteArray) = sy at *
      generalize (⟨(be 2 (s.size - 24 * j)).toArray⟩ : ByteArray) = sv at *
      have HR0 := Lib.hid hr
      clear hr hrl sz
      go_wp2_with fail
      rw [← HR0.out]
      refine (HX.out _).mono ?_
      rintro e w1 ⟨rfl, hb1⟩
      have HR1 := Lib.hid (HR.out.trans (hb1.mono HR.out.size))
      have HO1 := Lib.hid (own_below HO.out hb1)
      clear hb1
      go_wp2_with fail
      refine (HY.out _).mono ?_
      rintro e w2 ⟨rfl, hb2⟩
      have HR2 := Lib.hid (HR1.out.trans (hb2.mono HR1.out.size))
      have HO2 := Lib.hid (own_below HO1.out hb2)
      clear hb2
      go_wp2_with fail
      refine (HZ.out _).mono ?_
      rintro e w3 ⟨rfl, hb3⟩
      have HR3 := Lib.hid (HR2.out.trans (hb3.mono HR2.out.size))
      have HO3 := Lib.hid (own_below HO2.out hb3)
      clear hb3 HX HY HZ
      by_cases h24r : 24 < r.size
      · have hd1 : decide ((24 : Int) < r.size) = true := decide_eq_true (by omega)
        have hd2 : decide (24 < r.size) = true := decide_eq_true h24r
        have hql : (r.extract 0 24).data.toList = r.data.toList.take 24 := by
          rw [ByteArray.data_extract, Array.toList_extract, List.extract_eq_take_drop, List.drop_zero]
        have hqs : (r.extract 0 24).size ≤ 24 := by rw [ByteArray.size_extract]; omega
        obtain ⟨s0, hs0⟩ : ∃ s0, s0 = sx ++ sy ++ sv ++ r.extract 0 24 := ⟨_, rfl⟩
        have HS0 := Lib.hid (show s0 = padS rw0 0 by rw [hs0]; exact HEX.out _ hql)
        have hsz : s0.size = 8 + min 24 r.size := by rw [HS0.out, padS_size, hrw]; omega
        have HS1 := Lib.hid hs0
        have hl1 : sx.size + sy.size ≤ 100 := by omega
        clear hs0 hql HEX
        go_wp2
        rw [← HS1.out]
        go_loopw [19] (fun t wy => ∃ i : Nat, t = .string (padS rw0 i) ∧ i ≤ 24 - r.size ∧ Below w.heap.size w wy ∧ wy = w3) (fun t _ => 32 - strLen t)
        case atStart => exact ⟨0, by rw [HS0.out], by omega, HR3.out, rfl⟩
        case round =>
          obtain ⟨i, rfl, hi, _, rfl⟩ := hrel
          have hpz := padS_size rw0 i
          rw [hrw] at hpz
          by_cases hlt : i < 24 - r.size
          · exfalso; omega
          · have hi2 : i = 24 - r.size := by omega
            have HPC2 := Lib.hid (show padS rw0 i = pc by rw [hi2]; exact HPC.out)
            have hd3 : decide ((padS rw0 i).size < 32) = false := decide_eq_false (by omega)
            rw [HPC2.out] at hpz hd3
            rw [HPC2.out]
            have hpz9 : pc.size = 32 := by omega
            clear hpz
            have hd4 : decide ((pc.size : Int) < 32) = false := decide_eq_false (by omega)
            clear hi2 hlt
            have hown := HO3.out
            go_wp2_with (at_builtin; refine wpList_append_own _ rfl _ _ 22 rfl w.heap.size 9 i0 (.string ⟨#[]⟩) 1 16 Tryd.underlying22 hi0 hz0 hz1 hz2 rfl (by decide) _ _ _ rfl (hown.alloc _) ⟨wr.heap.size, 0, none⟩ 1 1 [.string pc] rfl rfl ?c1 ?c2 ?c3 ?c4 ?c5 ?_)
            case c1 =>
              intro jj u hj
              match jj, hj with
              | 0, hj => simp at hj; subst hj; simp [Addr.add]
            case c2 => intro u hu; simp at hu; subst hu; rfl
            case c3 => unfold maxLen; omega
            case c4 => omega
            case c5 => have := HR3.out.size; simp; omega
            intro v' w5 hown5 hg5 _
            have HR5 := Lib.hid (show Below w.heap.size w w5 from (HR3.out.alloc HR3.out.size _).grown hg5 (by have := HR3.out.size; simp; omega) (fun k hk => (hown.lt k hk).1))
            have HO5 := Lib.hid hown5
            clear hown hown5 hg5
            go_wp2
            go_roundw
            case rel =>
              refine ⟨j + 1, by go_num, by omega, ?_, HR5.out⟩
              have h := HO5.out
              rw [HPN.out, List.map_append]
              first | exact h | (rw [List.map_take]; exact h)
            case measure => simp [intOf]; omega
      · have hd1 : decide ((24 : Int) < r.size) = false := decide_eq_false (by omega)
        have hd2 : decide (24 < r.size) = false := decide_eq_false h24r
        have hql : r.data.toList = r.data.toList.take 24 := (List.take_of_length_le (by rw [ba_len]; omega)).symm
        obtain ⟨s0, hs0⟩ : ∃ s0, s0 = sx ++ sy ++ sv ++ r := ⟨_, rfl⟩
        have HS0 := Lib.hid (show s0 = padS rw0 0 by rw [hs0]; exact HEX.out _ hql)
        have hsz : s0.size = 8 + min 24 r.size := by rw [HS0.out, padS_size, hrw]; omega
        have HS1 := Lib.hid hs0
        have hl1 : sx.size + sy.size ≤ 100 := by omega
        clear hs0 hql HEX
        go_wp2
        rw [← HS1.out]
        go_loopw [19] (fun t wy => ∃ i : Nat, t = .string (padS rw0 i) ∧ i ≤ 24 - r.size ∧ Below w.heap.size w wy ∧ wy = w3) (fun t _ => 32 - strLen t)
        case atStart => exact ⟨0, by rw [HS0.out], by omega, HR3.out, rfl⟩
        case round =>
          obtain ⟨i, rfl, hi, _, rfl⟩ := hrel
          have hpz := padS_size rw0 i
          rw [hrw] at hpz
          by_cases hlt : i < 24 - r.size
          · have HPN2 := Lib.hid (padS_next rw0 i)
            have hd3 : decide ((padS rw0 i).size < 32) = true := decide_eq_true (by omega)
            have hpz2 := padS_size rw0 (i + 1)
            rw [hrw] at hpz2
            generalize padS rw0 i = y at *
            go_wp2
            go_roundw
            case rel => exact ⟨i + 1, by rw [HPN2.out], by omega, HR3.out, by trivial⟩
            case measure => simp only [strLen, ByteArray.size_append, hpz] <;> (show 32 - (_ + 1) < _; omega)
          · have hi2 : i = 24 - r.size := by omega
            have HPC2 := Lib.hid (show padS rw0 i = pc by rw [hi2]; exact HPC.out)
            have hd3 : decide ((padS rw0 i).size < 32) = false := decide_eq_false (by omega)
            rw [HPC2.out] at hpz hd3
            rw [HPC2.out]
            have hpz9 : pc.size = 32 := by omega
            clear hpz
            have hd4 : decide ((pc.size : Int) < 32) = false := decide_eq_false (by omega)
            clear hi2 hlt
            have hown := HO3.out
            go_wp2_with (at_builtin; refine wpList_append_own _ rfl _ _ 22 rfl w.heap.size 9 i0 (.string ⟨#[]⟩) 1 16 Tryd.underlying22 hi0 hz0 hz1 hz2 rfl (by decide) _ _ _ rfl (hown.alloc _) ⟨wr.heap.size, 0, none⟩ 1 1 [.string pc] rfl rfl ?c1 ?c2 ?c3 ?c4 ?c5 ?_)
            case c1 =>
              intro jj u hj
              match jj, hj with
              | 0, hj => simp at hj; subst hj; simp [Addr.add]
            case c2 => intro u hu; simp at hu; subst hu; rfl
            case c3 => unfold maxLen; omega
            case c4 => omega
            case c5 => have := HR3.out.size; simp; omega
            intro v' w5 hown5 hg5 _
            have HR5 := Lib.hid (show Below w.heap.size w w5 from (HR3.out.alloc HR3.out.size _).grown hg5 (by have := HR3.out.size; simp; omega) (fun k hk => (hown.lt k hk).1))
            have HO5 := Lib.hid hown5
            clear hown hown5 hg5
            go_wp2
            go_roundw
            case rel =>
              refine ⟨j + 1, by go_num, by omega, ?_, HR5.out⟩
              have h := HO5.out
              rw [HPN.out, List.map_append]
              first | exact h | (rw [List.map_take]; exact h)
            case measure => simp [intOf]; omega
    · obtain rfl : j = k := by omega
      have HV := Lib.hid (show RowV wr (.slice A2 j c2) P by
        have h1 := HO.out
        rw [List.take_of_length_le (by rw [HPL.out]; exact Nat.le_refl _), ← HPL.out] at h1
        rw [← HPL.out]
        exact RowV.own h1)
      go_wp2
      go_ret2
      exact ⟨_, rfl, HV.out, HR.out⟩

/-- The document's Pieces, whatever comes of it. -/
theorem dpieces_any (g a : Int) (s : ByteArray) (w : World) (hs : s.size ≤ maxLen) :
    Calls Tryd.prog 12 #[.int .i64 g, .int .i64 a, .string s] w fun e w' => ∃ v', e = .returned (.tuple #[v', .int .i64 (pcE g a s.size)]) ∧ RowV w' v' (pcsL g a s.data.toList) ∧ Below w.heap.size w w' := by
  unfold pcsL
  rw [ba_len]
  cases hb : pcB g a s.size with
  | false =>
    have e : pcE g a s.size = 1 := by unfold pcE; rw [hb]; rfl
    rw [e, if_neg (by decide)]
    refine (dpieces_bad g a s w hs hb).mono ?_
    rintro e w' ⟨rfl, h⟩
    exact ⟨_, rfl, nil_row _, h⟩
  | true =>
    obtain ⟨p, q, rfl, h1, h2, rfl, h3, h4⟩ := pc_right hb
    by_cases h5 : q + needJ s.size ≤ 128
    · have e : pcE p q s.size = 0 := by unfold pcE; rw [hb, if_pos rfl, if_pos (by omega)]
      rw [e, if_pos rfl]
      exact dpieces_ok p q s w h1 h2 h3 h4 h5
    · have e : pcE p q s.size = 6 := by unfold pcE; rw [hb, if_pos rfl, if_neg (by omega)]
      rw [e, if_neg (by decide)]
      refine (dpieces_full p q s w h1 h2 h3 h4 (by omega)).mono ?_
      rintro e w' ⟨rfl, h⟩
      exact ⟨_, rfl, nil_row _, h⟩

end Go.Proofs.YtdgjnjhmjgdhnaaDoor
