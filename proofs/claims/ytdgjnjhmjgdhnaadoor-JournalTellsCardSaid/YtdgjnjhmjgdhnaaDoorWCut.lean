/- The walk of Cut (layer 6's, at a seat that has no Need). -/
import Derived.Test.YtdgjnjhmjgdhnaaDoorBk
import Derived.Test.YtdgjnjhmjgdhnaaDoorDv
import Derived.Test.YtdgjnjhmjgdhnaaDoorWNew
namespace Go.Proofs.YtdgjnjhmjgdhnaaDoor
open Go.RowKit

set_option maxRecDepth 100000 in
theorem ret_i64 {a b : Int} (h : a = b) : Ending.returned (.int .i64 a) = .returned (.int .i64 b) := by rw [h]

/-- A value that is a row of the call's own with these strings. -/
def RowV (w : World) (v : Value) (l : List ByteArray) : Prop := ∃ A c, v = .slice A l.length c ∧ Strs w w.heap.size A l ∧ (0 < l.length → l.length ≤ c ∧ ∃ g, A = some ⟨g, 0, none⟩)
set_option maxRecDepth 100000 in
theorem RowV.sv {w : World} {v : Value} {l : List ByteArray} (h : RowV w v l) : SV w v l := by
  obtain ⟨A, c, e, hs, _⟩ := h
  exact ⟨A, c, e, hs⟩
set_option maxRecDepth 100000 in
theorem RowV.on {w w' : World} {v : Value} {l : List ByteArray} (h : RowV w v l) (hb : Below w.heap.size w w') : RowV w' v l := by
  obtain ⟨A, c, e, hs, hc⟩ := h
  exact ⟨A, c, e, hs.on hb, hc⟩
set_option maxRecDepth 100000 in
theorem RowV.own {w : World} {base c : Nat} {A : Option Addr} {l : List ByteArray} (h : w.ownsRow base 9 1 (.slice A l.length c) l.length (l.map Value.string)) : RowV w (.slice A l.length c) l := by
  refine ⟨A, c, rfl, Strs.own h, fun hl => ?_⟩
  rcases h.2 with ⟨_, h0⟩ | ⟨g, cap, cur, hv, _⟩
  · omega
  · have hv2 := hv
    injection hv with hA hn hc
    subst hA
    exact ⟨(own_cap h).1, g, rfl⟩

set_option maxRecDepth 100000 in
theorem rep_zeros (n : Nat) : Lib.repeatL [0] n = List.replicate n 0 := by
  induction n with
  | zero => rfl
  | succ n ih => simp [Lib.repeatL, ih, List.replicate_succ]
def zerosS (n : Nat) : ByteArray := ⟨(List.replicate n 0).toArray⟩
set_option maxRecDepth 100000 in
theorem zeros_size (n : Nat) : (zerosS n).size = n := by show (List.replicate n 0).toArray.size = n; simp
set_option maxRecDepth 100000 in
theorem rep_any (n : Nat) (w : World) (h : n ≤ 32) : Calls Tryd.prog 44 #[.string ⟨#[0]⟩, .int .i64 n] w fun e w' => e = .returned (.string (zerosS n)) ∧ Below w.heap.size w w' := by
  have h := Tryd.strings_Repeat ⟨#[0]⟩ n w (by omega) (by show 1 * n ≤ _; omega)
  rw [show (⟨#[0]⟩ : ByteArray).data.toList = [0] from rfl, rep_zeros] at h
  exact h

def strLen : Value → Nat
  | .string s => s.size
  | _ => 0
set_option maxRecDepth 100000 in
theorem nonempty_str {r : ByteArray} (h : r.size ≠ 0) : (r.toList == []) = false := by
  rw [beq_eq_false_iff_ne, ByteArray.toList_eq]
  intro e
  exact h (by have := congrArg List.length e; simpa using this)
set_option maxRecDepth 100000 in
theorem empty_str {r : ByteArray} (h : r.size = 0) : r = ⟨#[]⟩ := by
  apply ByteArray.ext
  exact Array.eq_empty_of_size_eq_zero h

/-- What is left of l, when k sectors were cut off: r. -/
def Left (l : List UInt8) (k : Nat) (r : ByteArray) : Prop := 32 * k ≤ l.length ∧ r.data.toList = l.drop (32 * k)
set_option maxRecDepth 100000 in
theorem Left.size {l : List UInt8} {k : Nat} {r : ByteArray} (h : Left l k r) : r.size = l.length - 32 * k := by
  have := congrArg List.length h.2
  simpa using this
set_option maxRecDepth 100000 in
theorem Left.sec {l : List UInt8} {k : Nat} {r : ByteArray} (h : Left l k r) (hr : 32 ≤ r.size) : r.extract 0 32 = secL l k ∧ Left l (k + 1) (r.extract 32 r.size) := by
  have hz := h.size
  have h1 := h.1
  refine ⟨?_, by omega, ?_⟩
  · rw [sec_full l k (by omega)]
    apply ba_ext
    rw [ByteArray.data_extract, Array.toList_extract, h.2]
    simp
  · rw [ByteArray.data_extract, Array.toList_extract, h.2]
    simp only [List.drop_drop, Nat.mul_succ, hz, List.extract_eq_take_drop]
    rw [List.take_of_length_le (by rw [List.length_drop]; omega)]
set_option maxRecDepth 100000 in
theorem Left.last {l : List UInt8} {k : Nat} {r : ByteArray} (h : Left l k r) (hr : r.size < 32) (h0 : r.size ≠ 0) : r ++ zerosS (32 - r.size) = secL l k ∧ secN l.length = k + 1 := by
  have hz := h.size
  have h1 := h.1
  refine ⟨?_, by unfold secN; omega⟩
  rw [sec_last l k (by omega) (by omega)]
  apply ba_ext
  rw [ByteArray.data_append, Array.toList_append, h.2, hz]
  rfl
set_option maxRecDepth 100000 in
theorem Left.none {l : List UInt8} {k : Nat} {r : ByteArray} (h : Left l k r) (h0 : r.size = 0) : secN l.length = k := by
  have hz := h.size
  have h1 := h.1
  unfold secN
  omega

set_option maxRecDepth 100000 in
theorem cut_app {l : List UInt8} {k : Nat} (hk : k < secN l.length) : ((cutL l).map Value.string).take k ++ [.string (secL l k)] = ((cutL l).take (k + 1)).map Value.string := by
  rw [cut_take l k hk, List.map_append, ← List.map_take]
  rfl

set_option maxRecDepth 100000 in
set_option maxHeartbeats 1000000 in
theorem cut_any (s : ByteArray) (w : World) (hs : s.size ≤ 1000000) :
    Calls Tryd.prog 31 #[.string s] w fun e w' => ∃ v', e = .returned v' ∧ RowV w' v' (cutL s.data.toList) ∧ Below w.heap.size w w' := by
  obtain ⟨i0, hi0, hz0, hz1, hz2⟩ := info_parts str_info
  have HLN := Lib.hid (show s.data.toList.length = s.size by simp)
  obtain ⟨l, hl⟩ : ∃ l, l = s.data.toList := ⟨_, rfl⟩
  rw [← hl] at HLN ⊢
  have H0 := Lib.hid (show Left l 0 s from ⟨by simp, by rw [hl]; simp⟩)
  clear hl
  go_enter Tryd.func31, Tryd.ntmps31
  go_wp2
  go_loopw [0, 3] (fun q v wr => ∃ (r : ByteArray) (k : Nat), q = .string r ∧ Left l k r ∧ wr.ownsRow w.heap.size 9 1 v k (((cutL l).take k).map Value.string) ∧ Below w.heap.size w wr) (fun q _ _ => strLen q)
  case atStart => exact ⟨s, 0, rfl, H0.out, World.ownsRow_nil _ _ _ _, Below.refl _ _⟩
  case round =>
    obtain ⟨r, k, rfl, hL, hown, hbr⟩ := hrel
    have HL := Lib.hid hL
    have hrs : r.size ≤ 1000000 := by have h1 := hL.size; have h2 := HLN.out; omega
    have hks : 32 * k ≤ 1000000 := by have h1 := hL.1; have h2 := HLN.out; omega
    clear hL
    obtain ⟨A, c, rfl⟩ := own_shape hown
    by_cases h32 : 32 ≤ r.size
    · obtain ⟨he, hN⟩ := HL.out.sec h32
      have HN := Lib.hid hN
      have HE := Lib.hid he
      have hkS : k < secN l.length := by have h1 := HL.out.size; unfold secN; omega
      have HKS := Lib.hid hkS
      clear hN he hkS
      go_wp2_with (at_builtin; refine wpList_append_own _ rfl _ _ 22 rfl w.heap.size 9 i0 (.string ⟨#[]⟩) 1 16 Tryd.underlying22 hi0 hz0 hz1 hz2 rfl (by decide) _ _ _ rfl (hown.alloc _) ⟨wr.heap.size, 0, none⟩ 1 1 [.string (r.extract 0 32)] rfl rfl ?c1 ?c2 ?c3 ?c4 ?c5 ?_)
      case c1 =>
        intro j u hj
        match j, hj with
        | 0, hj => simp at hj; subst hj; simp [Addr.add]
      case c2 => intro u hu; simp at hu; subst hu; rfl
      case c3 => unfold maxLen; omega
      case c4 => omega
      case c5 => have := hbr.size; simp; omega
      intro v' w2 hown2 hg2 _
      have hbr2 : Below w.heap.size w w2 := (hbr.alloc hbr.size _).grown hg2 (by have := hbr.size; simp; omega) (fun k hk => (hown.lt k hk).1)
      have HO2 := Lib.hid hown2
      clear hown hown2 hg2
      go_wp2
      go_roundw
      case rel =>
        refine ⟨_, k + 1, rfl, HN.out, ?_, hbr2⟩
        have h := HO2.out
        rw [HE.out, cut_app HKS.out] at h
        exact h
      case measure => simp only [strLen, ByteArray.size_extract]; omega
    · by_cases h0 : r.size = 0
      · have HE := Lib.hid (HL.out.none h0)
        have HA := Lib.hid (show RowV wr (.slice A k c) (cutL l) by
          have h := hown
          rw [cut_all l k (by rw [HE.out]; exact Nat.le_refl _), ← HE.out, ← cut_len] at h
          have h2 := RowV.own h
          rwa [cut_len, HE.out] at h2)
        obtain rfl := empty_str h0
        clear hown h0 h32
        go_wp2
        go_ret
        exact ⟨_, rfl, HA.out, hbr⟩
      · have hne := nonempty_str h0
        obtain ⟨he, hN⟩ := HL.out.last (by omega) h0
        have HN := Lib.hid hN
        have HE := Lib.hid he
        have HO := Lib.hid hown
        obtain ⟨m, hm⟩ : ∃ m, m = 32 - r.size := ⟨_, rfl⟩
        rw [← hm] at HE
        have hwr : IntKind.i64.wrap (32 - (r.size : Int)) = (m : Int) := by rw [IntWalk.i64_in _ (by omega)]; omega
        have hm32 : m ≤ 32 := by omega
        have hmz : m + r.size ≤ 64 := by omega
        clear hN he hown hm
        go_wp2_with fail
        refine (rep_any m _ hm32).mono ?_
        rintro e w1 ⟨rfl, hb1⟩
        have hbr1 : Below w.heap.size w w1 := hbr.trans (hb1.mono hbr.size)
        have hown1 : w1.ownsRow w.heap.size 9 1 (.slice A k c) k (((cutL l).take k).map Value.string) := own_below HO.out hb1
        have hzs := zeros_size m
        generalize zerosS m = zz at *
        have hl2 : ¬ 9223372036854775807 < r.size + zz.size := by omega
        clear hb1
        go_wp2_with (at_builtin; refine wpList_append_own _ rfl _ _ 22 rfl w.heap.size 9 i0 (.string ⟨#[]⟩) 1 16 Tryd.underlying22 hi0 hz0 hz1 hz2 rfl (by decide) _ _ _ rfl (hown1.alloc _) ⟨w1.heap.size, 0, none⟩ 1 1 [.string (r ++ zz)] rfl rfl ?c1 ?c2 ?c3 ?c4 ?c5 ?_)
        case c1 =>
          intro j u hj
          match j, hj with
          | 0, hj => simp at hj; subst hj; simp [Addr.add]
        case c2 => intro u hu; simp at hu; subst hu; rfl
        case c3 => unfold maxLen; omega
        case c4 => omega
        case c5 => have := hbr1.size; simp; omega
        intro v' w2 hown2 hg2 _
        have hbr2 : Below w.heap.size w w2 := (hbr1.alloc hbr1.size _).grown hg2 (by have := hbr1.size; simp; omega) (fun k hk => (hown1.lt k hk).1)
        have HR := Lib.hid (show RowV w2 v' (cutL l) by
          have h := hown2
          rw [HE.out, cut_app (by rw [HN.out]; omega), cut_all l _ (by rw [HN.out]; exact Nat.le_refl _), ← HN.out, ← cut_len] at h
          obtain ⟨A', c', rfl⟩ := own_shape h
          exact RowV.own h)
        clear hown1 hown2 hg2
        go_wp2
        go_ret
        exact ⟨_, rfl, HR.out, hbr2⟩

end Go.Proofs.YtdgjnjhmjgdhnaaDoor
