/- The walks of the document's Need, Bytes and Cut of layer 6. -/
import Derived.Test.YthcolmdfpciolaaRNum
import Derived.Test.YthcolmdfpciolaaRSum
import Derived.Test.YthcolmdfpciolaaRDisk
import Derived.Test.YthcolmdfpciolaaWTell
namespace Go.Proofs.Ythcolmdfpciolaa
open Go.RowKit

set_option maxHeartbeats 1000000 in
set_option maxRecDepth 100000 in
theorem dneed_in (z : Nat) (w : World) (h : z ≤ 65535) :
    Calls Try.prog 50 #[.int .i64 z] w fun e w' => e = .returned (.int .i64 (needN z)) ∧ Below w.heap.size w w' := by
  have g1 : decide ((z : Int) < 0) = false := decide_eq_false (by omega)
  have g2 : decide ((65535 : Int) < z) = false := decide_eq_false (by omega)
  have hr := need_room z
  obtain ⟨N, hN⟩ : ∃ N, N = needN z := ⟨_, rfl⟩
  rw [← hN] at hr ⊢
  clear hN
  go_enter Try.func50, Try.ntmps50
  go_wp2
  go_loopw [3] (fun i wr => ∃ (j : Nat), i = .int .i64 j ∧ j ≤ N ∧ Below w.heap.size w wr) (fun i _ => (N - intOf i).toNat)
  case atStart => exact ⟨0, rfl, by omega, Below.refl _ _⟩
  case round =>
    obtain ⟨j, rfl, hj, hbr⟩ := hrel
    have hw1 : IntKind.i64.wrap (32 * (j : Int)) = 32 * j := IntWalk.i64_in _ (by omega)
    have hw2 : IntKind.i64.wrap ((z : Int) + 7) = z + 7 := IntWalk.i64_in _ (by omega)
    by_cases hlt : 32 * j < z + 7
    · have g3 : decide (32 * (j : Int) < z + 7) = true := decide_eq_true (by omega)
      go_wp2
      go_roundw
      case rel => exact ⟨j + 1, by go_num, by omega, hbr⟩
      case measure => simp [intOf]; omega
    · have g3 : decide (32 * (j : Int) < z + 7) = false := decide_eq_false (by omega)
      obtain rfl : j = N := by omega
      go_wp2
      go_ret
      exact ⟨rfl, hbr⟩

set_option maxHeartbeats 1000000 in
set_option maxRecDepth 100000 in
theorem dbytes_any (t : ByteArray) (w : World) (h : t.size ≤ 65535) :
    Calls Try.prog 43 #[.string t] w fun e w' => e = .returned (.string ⟨(bytesL t.data.toList).toArray⟩) ∧ Below w.heap.size w w' := by
  have hl : t.data.toList.length = t.size := by simp
  have hn1 : numS t.size 4 = be 4 t.size ∧ numE t.size 4 = 0 := by
    have e : fits t.size 4 = true := by simp [fits]; omega
    unfold numS numE
    rw [e]
    exact ⟨rfl, rfl⟩
  have H1 := Lib.hid (fun wx => dnum_any t.size 4 wx (by omega))
  rw [hn1.1, hn1.2] at H1
  obtain ⟨b4, hb4⟩ : ∃ b4 : ByteArray, b4 = ⟨(be 4 t.size).toArray⟩ := ⟨_, rfl⟩
  have hz4 : b4.size = 4 := by rw [hb4]; show (be 4 t.size).toArray.size = 4; rw [List.size_toArray, be_length]
  rw [← hb4] at H1
  have H2 := Lib.hid (fun wx => rsum_any (b4 ++ t) wx (by rw [ByteArray.size_append]; unfold maxLen; omega))
  have hsum : moreN 11994318 (b4 ++ t) = sumT t.data.toList := by
    unfold moreN sumT
    rw [hl, hb4]
    simp
  rw [hsum] at H2
  have hlt := sumT_lt t.data.toList
  have hn2 : numS (sumT t.data.toList) 3 = be 3 (sumT t.data.toList) ∧ numE (sumT t.data.toList) 3 = 0 := by
    have e : fits (sumT t.data.toList) 3 = true := by simp [fits]; omega
    unfold numS numE
    rw [e]
    exact ⟨rfl, rfl⟩
  have H3 := Lib.hid (fun wx => dnum_any (sumT t.data.toList) 3 wx (by omega))
  rw [hn2.1, hn2.2] at H3
  obtain ⟨b3, hb3⟩ : ∃ b3 : ByteArray, b3 = ⟨(be 3 (sumT t.data.toList)).toArray⟩ := ⟨_, rfl⟩
  have hz3 : b3.size = 3 := by rw [hb3]; show (be 3 _).toArray.size = 3; rw [List.size_toArray, be_length]
  rw [← hb3] at H3
  have HE := Lib.hid (show b4 ++ b3 ++ t = ⟨(bytesL t.data.toList).toArray⟩ by
    apply ByteArray.ext
    apply Array.toList_inj.1
    rw [hb4, hb3]
    unfold bytesL
    rw [hl]
    simp)
  generalize sumT t.data.toList = sm at *
  clear hn1 hn2 hsum hb4 hb3 hl
  go_enter Try.func43, Try.ntmps43
  go_wp2_with fail
  refine (H1.out _).mono ?_
  rintro e w1 ⟨rfl, hb1⟩
  go_wp2_with fail
  refine (H2.out _).mono ?_
  rintro e w2 ⟨rfl, rfl⟩
  go_wp2_with fail
  refine (H3.out _).mono ?_
  rintro e w3 ⟨rfl, hb3⟩
  have HB := Lib.hid (hb1.trans (hb3.mono hb1.size))
  have hz43 : (b4 ++ b3).size = 7 := by rw [ByteArray.size_append, hz4, hz3]
  go_wp2
  go_ret
  exact ⟨by rw [HE.out]; rfl, HB.out⟩

/-- A text of at most a sector: the sector. -/
theorem cut_one {l : List UInt8} (h0 : 1 ≤ l.length) (h : l.length ≤ 32) : cutL l = [⟨(l ++ List.replicate (32 - l.length) 0).toArray⟩] := by
  have e : secN l.length = 1 := by unfold secN; omega
  unfold cutL
  rw [e]
  show [secL l 0] = _
  unfold secL padL
  rw [e, Nat.mul_zero, List.drop_zero, List.take_of_length_le (by rw [List.length_append, List.length_replicate]; omega), Nat.mul_one]

/-- The only string of the row, when k bytes came. -/
def oneC (s : ByteArray) (k : Nat) : List Value := if k = 0 then [] else [.string (s.extract 0 k)]
def oneN (k : Nat) : Nat := if k = 0 then 0 else 1
theorem ext_next (s : ByteArray) (k : Nat) (h : k < s.size) : s.extract 0 k ++ ⟨#[s[k]]⟩ = s.extract 0 (k + 1) := by
  apply ByteArray.ext
  apply Array.toList_inj.1
  rw [ByteArray.data_append, Array.toList_append, Lib.extract_data, Lib.extract_data]
  simp only [List.drop_zero, Nat.sub_zero]
  rw [take_snoc s k h]
theorem pad_next (s : ByteArray) (j : Nat) : (s ++ ⟨(List.replicate j 0).toArray⟩ : ByteArray) ++ ⟨#[0]⟩ = s ++ ⟨(List.replicate (j + 1) 0).toArray⟩ := by
  apply ByteArray.ext
  apply Array.toList_inj.1
  rw [List.replicate_succ']
  simp

theorem str_info7 : (Try.prog.info? 9).map (fun i => (i.zero, i.size, i.bytes)) = some (some (.string ⟨#[]⟩), 1, 16) := by kernel_rfl

theorem conv_drew (w : World) (c : Int) (h0 : 0 ≤ c) (h1 : c < 256) : (convert 102 9 (.slice (some ⟨w.heap.size, 0, none⟩) 1 1)).run Try.prog (w.alloc (.cells #[.int .u8 c] 5)).drew = .ok (.string ⟨#[UInt8.ofNat c.toNat]⟩) (w.alloc (.cells #[.int .u8 c] 5)).drew := by
  have h := own_below (World.ownsRow_lit (base := w.heap.size) (e := 5) (size := 1) w #[.int .u8 c] 1 (Nat.le_refl _) (by unfold maxLen; omega) rfl) (Below.refl _ _).drew
  have hc : Lib.byteCells [UInt8.ofNat c.toNat] = [.int .u8 c] := by
    simp [Lib.byteCells]; omega
  have := conv_own (w := (w.alloc (.cells #[.int .u8 c] 5)).drew) (base := w.heap.size) (g := w.heap.size) (cap := 1) (l := [UInt8.ofNat c.toNat]) (by rw [hc]; exact h)
  simpa using this
theorem own_one {w : World} {base e : Nat} {v x : Value} (h : w.ownsRow base e 1 v 1 [x]) : ∃ g c, v = .slice (some ⟨g, 0, none⟩) 1 c ∧ base ≤ g ∧ g < w.heap.size ∧ w.cell? ⟨g, 0, none⟩ = some x ∧ w.frozen? ⟨g, 0, none⟩ = false := by
  rcases h.2 with ⟨_, h0⟩ | ⟨g, cap, cur, hv, _⟩
  · cases h0
  · subst hv
    exact ⟨g, cap, rfl, (h.lt g rfl).1, (h.lt g rfl).2, h.cellAt 0 (by omega), h.frozenAt 0⟩

def lenAt (w : World) (g : Nat) : Nat := match w.cell? ⟨g, 0, none⟩ with
  | some (.string x) => 32 - x.size
  | _ => 0
theorem pad_all (s : ByteArray) (h0 : 1 ≤ s.size) (h : s.size ≤ 32) : cutL s.data.toList = [s ++ ⟨(List.replicate (32 - s.size) 0).toArray⟩] := by
  rw [cut_one (by simpa using h0) (by simpa using h)]
  rfl

set_option maxHeartbeats 4000000 in
set_option maxRecDepth 100000 in
theorem dcut_one (s : ByteArray) (w : World) (h0 : 1 ≤ s.size) (h : s.size ≤ 32) :
    Calls Try.prog 42 #[.string s] w fun e w' => ∃ v', e = .returned v' ∧ SV w' v' (cutL s.data.toList) ∧ Below w.heap.size w w' := by
  obtain ⟨i0, hi0, hz0, hz1, hz2⟩ := info_parts str_info7
  go_enter Try.func42, Try.ntmps42
  go_wp2
  go_loopw [3, 4] (fun v i wr => ∃ (k : Nat) (v0 : Value), v0 = v ∧ i = .int .i64 k ∧ k ≤ s.size ∧ wr.ownsRow w.heap.size 9 1 v (oneN k) (oneC s k) ∧ Below w.heap.size w wr) (fun _ i _ => (s.size - intOf i).toNat)
  case atStart => exact ⟨0, _, rfl, rfl, by omega, World.ownsRow_nil _ _ _ _, Below.refl _ _⟩
  case round =>
    obtain ⟨k, v0, rfl, rfl, hk, hown, hbr⟩ := hrel
    by_cases hlt : k < s.size
    · by_cases hk0 : k = 0
      · subst hk0
        have hown0 : wr.ownsRow w.heap.size 9 1 v0 0 [] := hown
        obtain ⟨A1, c1, rfl⟩ := own_shape hown0
        go_wp2_with (at_builtin; refine wpList_append_own _ rfl _ _ 22 rfl w.heap.size 9 i0 (.string ⟨#[]⟩) 1 16 Try.underlying22 hi0 hz0 hz1 hz2 rfl (by decide) _ _ _ rfl (hown0.alloc _) ⟨wr.heap.size, 0, none⟩ 1 1 [.string ⟨#[]⟩] rfl rfl ?c1 ?c2 ?c3 ?c4 ?c5 ?_)
        case c1 =>
          intro j u hj
          match j, hj with
          | 0, hj => simp at hj; subst hj; simp [Addr.add]
        case c2 => intro u hu; simp at hu; subst hu; rfl
        case c3 => unfold maxLen; omega
        case c4 => omega
        case c5 => have := hbr.size; simp; omega
        intro v3 w3 hown3 hg3 _
        have hbr3 : Below w.heap.size w w3 := (hbr.alloc hbr.size _).grown hg3 (by have := hbr.size; simp; omega) (fun k hk => (hown0.lt k hk).1)
        have hown4 : w3.ownsRow w.heap.size 9 1 v3 1 [.string ⟨#[]⟩] := hown3
        obtain ⟨g, c, rfl, hgb, hgl, hc, hfz⟩ := own_one hown4
        have hcv := conv_drew w3 (s[0].toNat : Int) (by omega) (by have := s[0].toNat_lt; omega)
        clear hown hown0 hown3 hg3
        go_wp2
        go_region
        have hst := (hown4.stored 0 (.string ((⟨#[]⟩ : ByteArray) ++ ⟨#[s[0]]⟩))).1
        have hst2 := own_below (hst.alloc (.cells #[.int .u8 (s[0].toNat : Int)] 5)) (Below.refl _ _).drew
        have hb9 := ((hbr3.setCell (p := ⟨g, 0, none⟩) hgb (.string ((⟨#[]⟩ : ByteArray) ++ ⟨#[s[0]]⟩))).alloc (by have := hbr3.size; simp; omega) (.cells #[.int .u8 (s[0].toNat : Int)] 5)).drew
        have HST := Lib.hid hst2
        have HB9 := Lib.hid hb9
        clear hst hst2 hb9 hcv hc hfz hown4
        go_wp2
        go_roundw
        case rel => exact ⟨1, _, rfl, by rfl, by omega, (by have e : (⟨#[]⟩ : ByteArray) ++ ⟨#[s[0]]⟩ = s.extract 0 1 := (by have e0 := ext_next s 0 hlt; rw [show s.extract 0 0 = ⟨#[]⟩ from (by apply ByteArray.ext; simp)] at e0; exact e0); show World.ownsRow _ _ _ _ _ 1 [.string (s.extract 0 1)]; rw [← e]; exact HST.out), HB9.out⟩
        case measure => simp [intOf]; omega
      · have hm : ((k : Int) % 32 == 0) = false := by rw [beq_eq_false_iff_ne]; omega
        have e1 : oneN k = 1 := if_neg hk0
        have e2 : oneC s k = [.string (s.extract 0 k)] := if_neg hk0
        rw [e1, e2] at hown
        obtain ⟨g, c, rfl, hgb, hgl, hc, hfz⟩ := own_one hown
        have hq : (k : Int) / 32 = 0 := by omega
        have hxs : (s.extract 0 k).size = k := by rw [ByteArray.size_extract]; omega
        have hcv := conv_drew wr (s[k].toNat : Int) (by omega) (by have := s[k].toNat_lt; omega)
        go_wp2
        go_region
        have hst := (hown.stored 0 (.string (s.extract 0 k ++ ⟨#[s[k]]⟩))).1
        have hst2 := own_below (hst.alloc (.cells #[.int .u8 (s[k].toNat : Int)] 5)) (Below.refl _ _).drew
        have hb9 := ((hbr.setCell (p := ⟨g, 0, none⟩) hgb (.string (s.extract 0 k ++ ⟨#[s[k]]⟩))).alloc (by have := hbr.size; simp; omega) (.cells #[.int .u8 (s[k].toNat : Int)] 5)).drew
        have HST := Lib.hid hst2
        have HB9 := Lib.hid hb9
        clear hst hst2 hb9 hcv hc hfz hown
        go_wp2
        go_roundw
        case rel => exact ⟨k + 1, _, rfl, by go_num, by omega, (by have e := ext_next s k hlt; show World.ownsRow _ _ _ _ _ 1 [.string (s.extract 0 (k + 1))]; rw [← e]; exact HST.out), HB9.out⟩
        case measure => simp [intOf]; omega
    · obtain rfl : k = s.size := by omega
      have hk0 : s.size ≠ 0 := by omega
      have e1 : oneN s.size = 1 := if_neg hk0
      have e2 : oneC s s.size = [.string (s ++ ⟨(List.replicate 0 0).toArray⟩)] := by
        unfold oneC
        rw [if_neg hk0]
        congr 2
        apply ByteArray.ext
        simp
      rw [e1, e2] at hown
      obtain ⟨g, c, rfl, hgb, hgl, hc, hfz⟩ := own_one hown
      have HO := Lib.hid hown
      clear hc hfz hown hgl
      go_wp2
      go_loopw [] (fun wq => ∃ (j : Nat), s.size + j ≤ 32 ∧ wq.ownsRow w.heap.size 9 1 (.slice (some ⟨g, 0, none⟩) 1 c) 1 [.string (s ++ ⟨(List.replicate j 0).toArray⟩)] ∧ Below w.heap.size w wq) (fun wq => lenAt wq g)
      case atStart => exact ⟨0, by omega, HO.out, hbr⟩
      case round =>
        obtain ⟨j, hj, hown, hbq⟩ := hrel
        obtain ⟨g', c', hgc, _, hgl, hc, hfz⟩ := own_one hown
        obtain ⟨rfl, rfl⟩ : g = g' ∧ c = c' := by
          injection hgc with e1 _ e3
          injection e1 with e1
          injection e1 with e1
          exact ⟨e1, e3⟩
        have hsz : (s ++ ⟨(List.replicate j 0).toArray⟩ : ByteArray).size = s.size + j := by
          rw [ByteArray.size_append]
          show _ + (List.replicate j 0).toArray.size = _
          rw [List.size_toArray, List.length_replicate]
        have hlen : lenAt wr g = 32 - (s.size + j) := by unfold lenAt; rw [hc]; simp only [hsz]
        have HN := Lib.hid (pad_next s j)
        have HP := Lib.hid (pad_all s h0 h)
        generalize hsj : (s ++ ⟨(List.replicate j 0).toArray⟩ : ByteArray) = sj at *
        by_cases hlt2 : s.size + j < 32
        · have g2 : decide (sj.size < 32) = true := decide_eq_true (by omega)
          have g3 : decide ((sj.size : Int) < 32) = true := decide_eq_true (by omega)
          have hst := (hown.stored 0 (.string (sj ++ ⟨#[0]⟩))).1
          have HST := Lib.hid hst
          have HB9 := Lib.hid (hbq.setCell (p := ⟨g, 0, none⟩) hgb (.string (sj ++ ⟨#[0]⟩)))
          have HLN := Lib.hid (show lenAt (wr.setCell ⟨g, 0, none⟩ (.string (sj ++ ⟨#[0]⟩))) g = 32 - (s.size + (j + 1)) by
            obtain ⟨g2, c2, e, _, _, hc2, _⟩ := own_one hst
            injection e with e1
            injection e1 with e1
            injection e1 with e1
            subst e1
            unfold lenAt
            rw [hc2]
            simp only [ByteArray.size_append, hsz]
            show 32 - (s.size + j + 1) = _
            omega)
          have HLE := Lib.hid hlen
          clear hst hlen hsj hown
          go_wp2
          go_roundw
          case rel => exact ⟨j + 1, by omega, by rw [← HN.out]; exact HST.out, HB9.out⟩
          case measure => rw [HLN.out, HLE.out]; omega
        · have g2 : decide (sj.size < 32) = false := decide_eq_false (by omega)
          have g3 : decide ((sj.size : Int) < 32) = false := decide_eq_false (by omega)
          have hj2 : 32 - s.size = j := by omega
          rw [hj2, hsj] at HP
          have HO9 := Lib.hid (show wr.ownsRow w.heap.size 9 1 (.slice (some ⟨g, 0, none⟩) 1 c) 1 ([sj].map Value.string) from hown)
          clear hsj hown
          go_wp2
          go_ret
          exact ⟨_, rfl, ⟨some ⟨g, 0, none⟩, c, by rw [HP.out]; rfl, by rw [HP.out]; exact Strs.own HO9.out⟩, hbq⟩

end Go.Proofs.Ythcolmdfpciolaa
