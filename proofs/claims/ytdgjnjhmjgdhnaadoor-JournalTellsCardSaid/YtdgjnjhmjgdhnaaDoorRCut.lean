/- The walk of the document's Cut of layer 6, of any text. -/
import Derived.Test.YtdgjnjhmjgdhnaaDoorRNum
import Derived.Test.YtdgjnjhmjgdhnaaDoorWCut
import Derived.Test.YtdgjnjhmjgdhnaaDoorRDisk
import Derived.BigQuiet
namespace Go.Proofs.YtdgjnjhmjgdhnaaDoor
open Go.RowKit

theorem str_info7 : (Tryd.prog.info? 9).map (fun i => (i.zero, i.size, i.bytes)) = some (some (.string ⟨#[]⟩), 1, 16) := by kernel_rfl

theorem conv_drew (w : World) (c : Int) (h0 : 0 ≤ c) (h1 : c < 256) : (convert 64 9 (.slice (some ⟨w.heap.size, 0, none⟩) 1 1)).run Tryd.prog (w.alloc (.cells #[.int .u8 c] 5)).drew = .ok (.string ⟨#[UInt8.ofNat c.toNat]⟩) (w.alloc (.cells #[.int .u8 c] 5)).drew := by
  have h := own_below (World.ownsRow_lit (base := w.heap.size) (e := 5) (size := 1) w #[.int .u8 c] 1 (Nat.le_refl _) (by unfold maxLen; omega) rfl) (Below.refl _ _).drew
  have hc : Lib.byteCells [UInt8.ofNat c.toNat] = [.int .u8 c] := by
    simp [Lib.byteCells]; omega
  have := conv_own (w := (w.alloc (.cells #[.int .u8 c] 5)).drew) (base := w.heap.size) (g := w.heap.size) (cap := 1) (l := [UInt8.ofNat c.toNat]) (by rw [hc]; exact h)
  simpa using this
theorem pad_next (s : ByteArray) (j : Nat) : (s ++ ⟨(List.replicate j 0).toArray⟩ : ByteArray) ++ ⟨#[0]⟩ = s ++ ⟨(List.replicate (j + 1) 0).toArray⟩ := by
  apply ByteArray.ext
  apply Array.toList_inj.1
  rw [List.replicate_succ']
  simp


/-- The first j sectors' strings; those when k bytes came. -/
def preB (s : ByteArray) (j : Nat) : List ByteArray := (List.range j).map fun i => s.extract (32 * i) (32 * i + 32)
theorem preB_len (s : ByteArray) (j : Nat) : (preB s j).length = j := by simp [preB]
theorem preB_next (s : ByteArray) (j : Nat) : preB s (j + 1) = preB s j ++ [s.extract (32 * j) (32 * j + 32)] := by
  unfold preB
  rw [List.range_succ, List.map_append]
  rfl
def curB (s : ByteArray) (k : Nat) : ByteArray := s.extract (32 * (k / 32)) k
def stB (s : ByteArray) (k : Nat) : List ByteArray := if k % 32 = 0 then preB s (k / 32) else preB s (k / 32) ++ [curB s k]
theorem stB_zero (s : ByteArray) : stB s 0 = [] := rfl
theorem stB_full {s : ByteArray} {k : Nat} (h : k % 32 = 0) : stB s k = preB s (k / 32) := if_pos h
theorem stB_part {s : ByteArray} {k : Nat} (h : ¬ k % 32 = 0) : stB s k = preB s (k / 32) ++ [curB s k] := if_neg h
/-- Behind one more byte. -/
theorem stB_next {s : ByteArray} {k : Nat} (h : k < s.size) : stB s (k + 1) = preB s (k / 32) ++ [curB s k ++ ⟨#[s[k]]⟩] := by
  have e : curB s k ++ ⟨#[s[k]]⟩ = s.extract (32 * (k / 32)) (k + 1) := by
    unfold curB
    apply ByteArray.ext
    apply Array.toList_inj.1
    rw [ByteArray.data_append, Array.toList_append, Lib.extract_data, Lib.extract_data]
    have h1 : k + 1 - 32 * (k / 32) = (k - 32 * (k / 32)) + 1 := by omega
    rw [h1, List.take_succ_eq_append_getElem (by rw [List.length_drop]; simp; omega), List.getElem_drop]
    congr 1
    show [s[k]] = _
    congr 1
    have h2 : 32 * (k / 32) + (k - 32 * (k / 32)) = k := by omega
    simp only [h2]
    rfl
  rw [e]
  by_cases hk : (k + 1) % 32 = 0
  · rw [stB_full hk, show (k + 1) / 32 = k / 32 + 1 by omega, preB_next]
    congr 3
    omega
  · rw [stB_part hk]
    unfold curB
    rw [show (k + 1) / 32 = k / 32 by omega]
theorem curB_size {s : ByteArray} {k : Nat} (h : k ≤ s.size) : (curB s k).size = k % 32 := by
  unfold curB
  rw [ByteArray.size_extract]
  omega
theorem curB_start {s : ByteArray} {k : Nat} (h : k % 32 = 0) : curB s k = ⟨#[]⟩ := by
  unfold curB
  rw [show 32 * (k / 32) = k by omega]
  apply ByteArray.ext
  simp

/-- The rows' end: all sectors but the last one, and that filled up. -/
theorem cut_rows (s : ByteArray) (h : s.size % 32 ≠ 0) : cutL s.data.toList = preB s (s.size / 32) ++ [curB s s.size ++ ⟨(List.replicate (32 - s.size % 32) 0).toArray⟩] := by
  have hl : s.data.toList.length = s.size := by simp
  have e : secN s.data.toList.length = s.size / 32 + 1 := by unfold secN; omega
  unfold cutL
  rw [e, List.range_succ, List.map_append]
  congr 1
  · unfold preB
    apply List.map_congr_left
    intro i hi
    have hi2 := List.mem_range.1 hi
    rw [sec_full _ _ (by omega)]
    apply ByteArray.ext
    apply Array.toList_inj.1
    rw [Lib.extract_data, show 32 * i + 32 - 32 * i = 32 by omega]
  · show [secL _ _] = _
    rw [sec_last _ _ (by omega) (by omega)]
    congr 1
    apply ByteArray.ext
    apply Array.toList_inj.1
    rw [ByteArray.data_append, Array.toList_append]
    unfold curB
    rw [Lib.extract_data, List.take_of_length_le (by rw [List.length_drop, hl]; exact Nat.le_refl _)]
    show _ ++ _ = _ ++ _
    congr 2
    omega
theorem cut_rows_full (s : ByteArray) (h : s.size % 32 = 0) : cutL s.data.toList = preB s (s.size / 32) := by
  have hl : s.data.toList.length = s.size := by simp
  have e : secN s.data.toList.length = s.size / 32 := by unfold secN; omega
  unfold cutL
  rw [e]
  unfold preB
  apply List.map_congr_left
  intro i hi
  have hi2 := List.mem_range.1 hi
  rw [sec_full _ _ (by omega)]
  apply ByteArray.ext
  apply Array.toList_inj.1
  rw [Lib.extract_data, show 32 * i + 32 - 32 * i = 32 by omega]

/-- The last cell of a row of the call's own. -/
theorem own_last {w : World} {base e j : Nat} {v x : Value} {xs : List Value} (h : w.ownsRow base e 1 v (j + 1) (xs ++ [x])) (hl : xs.length = j) : ∃ g c, v = .slice (some ⟨g, 0, none⟩) (j + 1) c ∧ base ≤ g ∧ g < w.heap.size ∧ w.cell? ⟨g, j, none⟩ = some x ∧ w.frozen? ⟨g, j, none⟩ = false := by
  rcases h.2 with ⟨_, h0⟩ | ⟨g, cap, cur, hv, _⟩
  · cases h0
  · subst hv
    refine ⟨g, cap, rfl, (h.lt g rfl).1, (h.lt g rfl).2, ?_, h.frozenAt j⟩
    rw [h.cellAt j (by omega), List.getElem?_append_right (by omega), hl]
    simp
theorem own_store {w : World} {base e j g c : Nat} {x : Value} {xs : List Value} (h : w.ownsRow base e 1 (.slice (some ⟨g, 0, none⟩) (j + 1) c) (j + 1) (xs ++ [x])) (hl : xs.length = j) (y : Value) (hy : y.oneCell' = true) : (w.setCell ⟨g, j, none⟩ y).ownsRow base e 1 (.slice (some ⟨g, 0, none⟩) (j + 1) c) (j + 1) (xs ++ [y]) := by
  have h1 := (h.stored j y).1
  rwa [List.set_append_right (h := by omega), hl, Nat.sub_self] at h1

def lenAt2 (w : World) (g j : Nat) : Nat := match w.cell? ⟨g, j, none⟩ with
  | some (.string x) => 32 - x.size
  | _ => 0

set_option maxHeartbeats 8000000 in
set_option maxRecDepth 100000 in
theorem dcut_any (s : ByteArray) (w : World) (h : s.size ≤ 1000000) :
    Calls Tryd.prog 39 #[.string s] w fun e w' => ∃ v', e = .returned v' ∧ SV w' v' (cutL s.data.toList) ∧ Below w.heap.size w w' := by
  obtain ⟨i0, hi0, hz0, hz1, hz2⟩ := info_parts str_info7
  obtain ⟨L, hL⟩ : ∃ L, L = cutL s.data.toList := ⟨_, rfl⟩
  rw [← hL]
  have HL := Lib.hid hL
  clear hL
  go_enter Tryd.func39, Tryd.ntmps39
  go_wp2
  go_loopw [3, 4] (fun v i wr => ∃ (k : Nat) (v0 : Value), v0 = v ∧ i = .int .i64 k ∧ k ≤ s.size ∧ wr.ownsRow w.heap.size 9 1 v (stB s k).length ((stB s k).map Value.string) ∧ Below w.heap.size w wr) (fun _ i _ => (s.size - intOf i).toNat)
  case atStart => exact ⟨0, _, rfl, rfl, by omega, World.ownsRow_nil _ _ _ _, Below.refl _ _⟩
  case round =>
    obtain ⟨k, v0, rfl, rfl, hk, hown, hbr⟩ := hrel
    by_cases hlt : k < s.size
    · obtain ⟨j, hj⟩ : ∃ j, j = k / 32 := ⟨_, rfl⟩
      have hq : (k : Int) / 32 = (j : Int) := by omega
      have hpl : ((preB s j).map Value.string).length = j := by rw [List.length_map, preB_len]
      have HJ := Lib.hid hj
      have HNX := Lib.hid (stB_next hlt)
      rw [← hj] at HNX
      clear hj
      by_cases hk0 : k % 32 = 0
      · have hm : ((k : Int) % 32 == 0) = true := by rw [beq_iff_eq]; omega
        rw [stB_full hk0, ← HJ.out, preB_len] at hown
        rw [curB_start hk0] at HNX
        obtain ⟨A1, c1, rfl⟩ := own_shape hown
        go_wp2_with (at_builtin; refine wpList_append_own _ rfl _ _ 22 rfl w.heap.size 9 i0 (.string ⟨#[]⟩) 1 16 Tryd.underlying22 hi0 hz0 hz1 hz2 rfl (by decide) _ _ _ rfl (hown.alloc _) ⟨wr.heap.size, 0, none⟩ 1 1 [.string ⟨#[]⟩] rfl rfl ?c1 ?c2 ?c3 ?c4 ?c5 ?_)
        case c1 =>
          intro j u hj
          match j, hj with
          | 0, hj => simp at hj; subst hj; simp [Addr.add]
        case c2 => intro u hu; simp at hu; subst hu; rfl
        case c3 => unfold maxLen; omega
        case c4 => omega
        case c5 => have := hbr.size; simp; omega
        intro v3 w3 hown3 hg3 _
        have hbr3 : Below w.heap.size w w3 := (hbr.alloc hbr.size _).grown hg3 (by have := hbr.size; simp; omega) (fun k hk => (hown.lt k hk).1)
        obtain ⟨g, c, rfl, hgb, hgl, hc, hfz⟩ := own_last hown3 hpl
        have hcv := conv_drew w3 (s[k].toNat : Int) (by omega) (by have := s[k].toNat_lt; omega)
        have hji : (j : Int) < (j : Int) + 1 := by omega
        clear hown hg3
        go_wp2
        go_region
        have hst := own_store hown3 hpl (.string ((⟨#[]⟩ : ByteArray) ++ ⟨#[s[k]]⟩)) rfl
        have HST := Lib.hid (own_below (hst.alloc (.cells #[.int .u8 (s[k].toNat : Int)] 5)) (Below.refl _ _).drew)
        have HB9 := Lib.hid ((hbr3.setCell (p := ⟨g, j, none⟩) hgb (.string ((⟨#[]⟩ : ByteArray) ++ ⟨#[s[k]]⟩))).alloc (by have := hbr3.size; simp; omega) (.cells #[.int .u8 (s[k].toNat : Int)] 5)).drew
        clear hst hcv hc hfz hown3
        go_wp2
        go_roundw
        case rel =>
          refine ⟨k + 1, _, rfl, by go_num, by omega, ?_, HB9.out⟩
          rw [HNX.out, List.length_append, preB_len, List.map_append]
          exact HST.out
        case measure => simp [intOf]; omega
      · have hm : ((k : Int) % 32 == 0) = false := by rw [beq_eq_false_iff_ne]; omega
        rw [stB_part hk0, ← HJ.out, List.length_append, preB_len, List.map_append] at hown
        have hcs := curB_size (s := s) (k := k) hk
        generalize curB s k = cur at *
        obtain ⟨g, c, rfl, hgb, hgl, hc, hfz⟩ := own_last (x := .string cur) hown hpl
        have hcv := conv_drew wr (s[k].toNat : Int) (by omega) (by have := s[k].toNat_lt; omega)
        have hji : (j : Int) < (j : Int) + 1 := by omega
        have hc32 : cur.size < 32 := by omega
        go_wp2
        go_region
        have hst := own_store (x := .string cur) hown hpl (.string (cur ++ ⟨#[s[k]]⟩)) rfl
        have HST := Lib.hid (own_below (hst.alloc (.cells #[.int .u8 (s[k].toNat : Int)] 5)) (Below.refl _ _).drew)
        have HB9 := Lib.hid ((hbr.setCell (p := ⟨g, j, none⟩) hgb (.string (cur ++ ⟨#[s[k]]⟩))).alloc (by have := hbr.size; simp; omega) (.cells #[.int .u8 (s[k].toNat : Int)] 5)).drew
        clear hst hcv hc hfz hown
        go_wp2
        go_roundw
        case rel =>
          refine ⟨k + 1, _, rfl, by go_num, by omega, ?_, HB9.out⟩
          rw [HNX.out, List.length_append, preB_len, List.map_append]
          exact HST.out
        case measure => simp [intOf]; omega
    · obtain rfl : k = s.size := by omega
      have HO := Lib.hid hown
      clear hown
      by_cases h0 : s.size % 32 = 0
      · rw [stB_full h0, ← cut_rows_full s h0, ← HL.out] at HO
        have hlen : L.length = s.size / 32 := by rw [HL.out, cut_rows_full s h0, preB_len]
        by_cases hs0 : s.size = 0
        · obtain rfl : L = [] := List.length_eq_zero_iff.1 (by omega)
          obtain ⟨A9, c9, rfl⟩ := own_shape HO.out
          clear hlen HL
          go_wp2
          go_loopw [] (fun wq => wq.ownsRow w.heap.size 9 1 (.slice A9 0 c9) 0 [] ∧ Below w.heap.size w wq) (fun _ => 0)
          case atStart => exact ⟨HO.out, hbr⟩
          case round =>
            obtain ⟨hown, hbq⟩ := hrel
            go_wp2
            go_ret
            exact ⟨_, rfl, ⟨A9, c9, rfl, Strs.nil _ _ _⟩, hbq⟩
        · obtain ⟨j, hj⟩ : ∃ j, s.size / 32 = j + 1 := ⟨s.size / 32 - 1, by omega⟩
          have hj6 : j ≤ 1000000 := by omega
          have hLL : L = preB s j ++ [s.extract (32 * j) (32 * j + 32)] := by rw [HL.out, cut_rows_full s h0, hj, preB_next]
          have hx32 : (s.extract (32 * j) (32 * j + 32)).size = 32 := by rw [ByteArray.size_extract]; omega
          generalize s.extract (32 * j) (32 * j + 32) = x at *
          have hpl : ((preB s j).map Value.string).length = j := by rw [List.length_map, preB_len]
          have HLL := Lib.hid hLL
          rw [hlen, hj, hLL, List.map_append] at HO
          obtain ⟨g, c, rfl, hgb, hgl, hc, hfz⟩ := own_last (x := .string x) HO.out hpl
          clear hlen hLL hj hgl hc hfz hs0 h0
          have g2 : decide (x.size < 32) = false := decide_eq_false (by omega)
          have g3 : decide ((x.size : Int) < 32) = false := decide_eq_false (by omega)
          have hw1 : IntKind.i64.wrap ((j : Int) + 1 - 1) = (j : Int) := by rw [IntWalk.i64_in _ (by omega)]; omega
          have hw2 : (j : Int) + 1 - 1 = (j : Int) := by omega
          have hji : (j : Int) < (j : Int) + 1 := by omega
          go_wp2
          go_loopw [] (fun wq => wq.ownsRow w.heap.size 9 1 (.slice (some ⟨g, 0, none⟩) (j + 1) c) (j + 1) ((preB s j).map Value.string ++ [.string x]) ∧ Below w.heap.size w wq) (fun _ => 0)
          case atStart => exact ⟨HO.out, hbr⟩
          case round =>
            obtain ⟨hown, hbq⟩ := hrel
            obtain ⟨g', c', hgc, _, hgl, hc, hfz⟩ := own_last (x := .string x) hown hpl
            obtain ⟨rfl, rfl⟩ : g = g' ∧ c = c' := by
              injection hgc with e1 _ e3
              injection e1 with e1
              injection e1 with e1
              exact ⟨e1, e3⟩
            have HO9 := Lib.hid (show wr.ownsRow w.heap.size 9 1 (.slice (some ⟨g, 0, none⟩) L.length c) L.length (L.map Value.string) from by
              rw [HLL.out, List.length_append, preB_len, List.map_append]
              exact hown)
            have HLN := Lib.hid (show j + 1 = L.length by rw [HLL.out, List.length_append, preB_len]; rfl)
            clear hown
            go_wp2
            go_ret
            exact ⟨_, rfl, ⟨some ⟨g, 0, none⟩, c, by rw [← HLN.out]; rfl, Strs.own HO9.out⟩, hbq⟩
      · rw [stB_part h0, List.length_append, preB_len, List.map_append] at HO
        have hcz := curB_size (s := s) (k := s.size) (Nat.le_refl _)
        have HLL := Lib.hid (show L = preB s (s.size / 32) ++ [curB s s.size ++ ⟨(List.replicate (32 - s.size % 32) 0).toArray⟩] by rw [HL.out, cut_rows s h0])
        have hj6 : s.size / 32 ≤ 1000000 := by omega
        have hb32 : s.size % 32 < 32 := Nat.mod_lt _ (by omega)
        obtain ⟨j, hj⟩ : ∃ j, j = s.size / 32 := ⟨_, rfl⟩
        obtain ⟨b, hb⟩ : ∃ b, b = s.size % 32 := ⟨_, rfl⟩
        rw [← hj] at HO HLL hj6
        rw [← hb] at HLL hb32 hcz
        have hpl : ((preB s j).map Value.string).length = j := by rw [List.length_map, preB_len]
        generalize curB s s.size = cur at *
        clear h0 hj hb
        have e0 : cur = cur ++ ⟨(List.replicate 0 0).toArray⟩ := by
          apply ByteArray.ext
          simp
        obtain ⟨g, c, rfl, hgb, hgl, hc, hfz⟩ := own_last (x := .string cur) HO.out hpl
        have HO0 := Lib.hid (show wr.ownsRow w.heap.size 9 1 (.slice (some ⟨g, 0, none⟩) (j + 1) c) (j + 1) ((preB s j).map Value.string ++ [.string (cur ++ ⟨(List.replicate 0 0).toArray⟩)]) by rw [← e0]; exact HO.out)
        clear hgl hc hfz e0 HO
        have hw1 : IntKind.i64.wrap ((j : Int) + 1 - 1) = (j : Int) := by rw [IntWalk.i64_in _ (by omega)]; omega
        have hw2 : (j : Int) + 1 - 1 = (j : Int) := by omega
        have hji : (j : Int) < (j : Int) + 1 := by omega
        go_wp2
        go_loopw [] (fun wq => ∃ (i : Nat), b + i ≤ 32 ∧ wq.ownsRow w.heap.size 9 1 (.slice (some ⟨g, 0, none⟩) (j + 1) c) (j + 1) ((preB s j).map Value.string ++ [.string (cur ++ ⟨(List.replicate i 0).toArray⟩)]) ∧ Below w.heap.size w wq) (fun wq => lenAt2 wq g j)
        case atStart => exact ⟨0, by omega, HO0.out, hbr⟩
        case round =>
          obtain ⟨i, hi, hown, hbq⟩ := hrel
          obtain ⟨g', c', hgc, _, hgl, hc, hfz⟩ := own_last hown hpl
          obtain ⟨rfl, rfl⟩ : g = g' ∧ c = c' := by
            injection hgc with e1 _ e3
            injection e1 with e1
            injection e1 with e1
            exact ⟨e1, e3⟩
          have hsz : (cur ++ ⟨(List.replicate i 0).toArray⟩ : ByteArray).size = b + i := by
            rw [ByteArray.size_append, hcz]
            show _ + (List.replicate i 0).toArray.size = _
            rw [List.size_toArray, List.length_replicate]
          have hlen : lenAt2 wr g j = 32 - (b + i) := by unfold lenAt2; rw [hc]; simp only [hsz]
          have HN := Lib.hid (pad_next cur i)
          by_cases hlt2 : b + i < 32
          · generalize hsj : (cur ++ ⟨(List.replicate i 0).toArray⟩ : ByteArray) = sj at *
            have g2 : decide (sj.size < 32) = true := decide_eq_true (by omega)
            have g3 : decide ((sj.size : Int) < 32) = true := decide_eq_true (by omega)
            have hst := own_store hown hpl (.string (sj ++ ⟨#[0]⟩)) rfl
            have HST := Lib.hid hst
            have HB9 := Lib.hid (hbq.setCell (p := ⟨g, j, none⟩) hgb (.string (sj ++ ⟨#[0]⟩)))
            have HLN := Lib.hid (show lenAt2 (wr.setCell ⟨g, j, none⟩ (.string (sj ++ ⟨#[0]⟩))) g j = 32 - (b + (i + 1)) by
              obtain ⟨g2, c2, e, _, _, hc2, _⟩ := own_last hst hpl
              injection e with e1
              injection e1 with e1
              injection e1 with e1
              subst e1
              unfold lenAt2
              rw [hc2]
              simp only [ByteArray.size_append, hsz]
              show 32 - (b + i + 1) = _
              omega)
            have HLE := Lib.hid hlen
            clear hst hlen hsj hown
            go_wp2
            go_roundw
            case rel => exact ⟨i + 1, by omega, by rw [← HN.out]; exact HST.out, HB9.out⟩
            case measure => rw [HLN.out, HLE.out]; omega
          · have hi2 : 32 - b = i := by omega
            rw [hi2] at HLL
            generalize hsj : (cur ++ ⟨(List.replicate i 0).toArray⟩ : ByteArray) = sj at *
            have g2 : decide (sj.size < 32) = false := decide_eq_false (by omega)
            have g3 : decide ((sj.size : Int) < 32) = false := decide_eq_false (by omega)
            have HO9 := Lib.hid (show wr.ownsRow w.heap.size 9 1 (.slice (some ⟨g, 0, none⟩) L.length c) L.length (L.map Value.string) from by
              rw [HLL.out, List.length_append, preB_len, List.map_append]
              exact hown)
            have HLN := Lib.hid (show j + 1 = L.length by rw [HLL.out, List.length_append, preB_len]; rfl)
            clear hown hsj
            go_wp2
            go_ret
            exact ⟨_, rfl, ⟨some ⟨g, 0, none⟩, c, by rw [← HLN.out]; rfl, Strs.own HO9.out⟩, hbq⟩

end Go.Proofs.YtdgjnjhmjgdhnaaDoor
