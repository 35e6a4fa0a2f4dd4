/- The walk of the law CheckThree. -/
import Derived.Test.YteobphighbdjaaaLZeros
import Derived.RegionTactic
import Derived.Test.YteobphighbdjaaaInv
namespace Go.Proofs.Yteobphighbdjaaa
open Go.RowKit

/-- Three texts of one length, changed by one another. -/
def xor3 (a b c : List UInt8) : List UInt8 := List.zipWith (· ^^^ ·) (List.zipWith (· ^^^ ·) a b) c

theorem xor3_sum (a b c : List UInt8) (h1 : a.length = b.length) (h2 : b.length = c.length) (x : BitVec 24) : moreB x (xor3 a b c) = moreB x a ^^^ moreB x b ^^^ moreB x c := by
  unfold xor3
  have e : x = (x ^^^ x) ^^^ x := by rw [BitVec.xor_self, BitVec.zero_xor]
  have h := moreB_xor (List.zipWith (· ^^^ ·) a b) c (x ^^^ x) x (by rw [List.length_zipWith]; omega)
  rw [moreB_xor a b x x h1, ← e] at h
  exact h

/-- The first n bytes. -/
def cutB (s : ByteArray) (n : Nat) : List UInt8 := s.data.toList.take n

theorem cutB_length (s : ByteArray) (n : Nat) (h : n ≤ s.size) : (cutB s n).length = n := by
  unfold cutB; rw [List.length_take]; simp; omega

def threeB (a b c : ByteArray) (n : Nat) : List UInt8 := xor3 (cutB a n) (cutB b n) (cutB c n)

theorem threeB_length (a b c : ByteArray) (n : Nat) (ha : n ≤ a.size) (hb : n ≤ b.size) (hc : n ≤ c.size) : (threeB a b c n).length = n := by
  unfold threeB xor3; rw [List.length_zipWith, List.length_zipWith, cutB_length a n ha, cutB_length b n hb, cutB_length c n hc]; omega

theorem threeB_at (a b c : ByteArray) (n k : Nat) (hk : k < n) (ha : n ≤ a.size) (hb : n ≤ b.size) (hc : n ≤ c.size) :
    (threeB a b c n)[k]? = some (a[k] ^^^ b[k] ^^^ c[k]) := by
  unfold threeB xor3 cutB
  rw [List.getElem?_zipWith, List.getElem?_zipWith]
  have e : ∀ s : ByteArray, (h : n ≤ s.size) → (s.data.toList.take n)[k]? = some (s[k]'(by omega)) := fun s h => by
    rw [List.getElem?_take, if_pos hk]
    have : k < s.data.toList.length := by simp; omega
    rw [List.getElem?_eq_getElem this]; rfl
  rw [e a ha, e b hb, e c hc]

/-- The cells while the bytes are laid: k of them are there. -/
def layC (l : List UInt8) (k : Nat) : List Value := Lib.byteCells (l.take k) ++ List.replicate (l.length - k) (.int .u8 0)

theorem layC_zero (l : List UInt8) : layC l 0 = List.replicate l.length (.int .u8 0) := by simp [layC, Lib.byteCells]
theorem layC_all (l : List UInt8) : layC l l.length = Lib.byteCells l := by simp [layC]
theorem layC_set (l : List UInt8) (k : Nat) (c : UInt8) (h : l[k]? = some c) : (layC l k).set k (.int .u8 (c.toNat : Int)) = layC l (k + 1) := by
  obtain ⟨hk, hc⟩ := List.getElem?_eq_some_iff.1 h
  unfold layC
  rw [List.set_append_right _ _ (by simp [Lib.byteCells]; omega)]
  have e : (Lib.byteCells (l.take k)).length = k := by simp [Lib.byteCells]; omega
  rw [e, Nat.sub_self, show l.length - k = (l.length - (k + 1)) + 1 by omega, List.replicate_succ, List.set_cons_zero, List.take_succ_eq_append_getElem hk, hc]
  simp [Lib.byteCells]
theorem layC_length (l : List UInt8) (k : Nat) (h : k ≤ l.length) : (layC l k).length = l.length := by
  simp [layC, Lib.byteCells]; omega

theorem xor3_val (x y z : UInt8) : bits .xor .u8 (bits .xor .u8 (x.toNat : Int) (y.toNat : Int)) (z.toNat : Int) = ((x ^^^ y ^^^ z).toNat : Int) := by
  rw [u8_xor_nat _ _ x.toNat_lt y.toNat_lt, u8_xor_nat _ _ (Nat.xor_lt_two_pow (n := 8) x.toNat_lt y.toNat_lt) z.toNat_lt, UInt8.toNat_xor, UInt8.toNat_xor]

theorem min3 (a b c : Nat) : ∃ n : Nat, (if (c : Int) < (if b < a then (b : Int) else (a : Int)) then (c : Int) else if b < a then (b : Int) else (a : Int)) = (n : Int) ∧ n ≤ a ∧ n ≤ b ∧ n ≤ c := by
  by_cases h1 : b < a
  · by_cases h2 : (c : Int) < b
    · exact ⟨c, by rw [if_pos h1, if_pos h2], by omega, by omega, by omega⟩
    · exact ⟨b, by rw [if_pos h1, if_neg h2], by omega, by omega, by omega⟩
  · by_cases h2 : (c : Int) < a
    · exact ⟨c, by rw [if_neg h1, if_pos h2], by omega, by omega, by omega⟩
    · exact ⟨a, by rw [if_neg h1, if_neg h2], by omega, by omega, by omega⟩

theorem made_lay {w1 : World} {base g n : Nat} {l : List UInt8} (hl : l.length = n) (h : w1.ownsRow base 5 1 (.slice (some ⟨g, 0, none⟩) n n) n (madeCells (Value.int .u8 0).cells (n * 1)).toList) :
    w1.ownsRow base 5 1 (.slice (some ⟨g, 0, none⟩) n n) n (layC l 0) := by
  rw [Nat.mul_one, show (Value.int .u8 0).cells = #[.int .u8 0] from rfl, toList_madeCells_one] at h
  rw [layC_zero, hl]; exact h

/-- The first n bytes, as a text. -/
def cutS (s : ByteArray) (n : Nat) : ByteArray := s.extract 0 n

theorem cutS_bytes (s : ByteArray) (n : Nat) : (cutS s n).data.toList = cutB s n := by
  unfold cutS cutB
  rw [ByteArray.data_extract]
  simp [List.take_eq_take_iff]

theorem cutS_size (s : ByteArray) (n : Nat) (h : n ≤ s.size) : (cutS s n).size = n := by
  unfold cutS; simp; omega

theorem three_sum (a b c : ByteArray) (n : Nat) (ha : n ≤ a.size) (hb : n ≤ b.size) (hc : n ≤ c.size) :
    bits .xor .u32 (bits .xor .u32 (moreN 11994318 (cutS a n) : Nat) (moreN 11994318 (cutS b n) : Nat)) (moreN 11994318 (cutS c n) : Nat) = ((moreN 11994318 ⟨(threeB a b c n).toArray⟩ : Nat) : Int) := by
  have l1 := moreN_lt 11994318 (cutS a n)
  have l2 := moreN_lt 11994318 (cutS b n)
  have l3 := moreN_lt 11994318 (cutS c n)
  have l4 : moreN 11994318 (cutS a n) ^^^ moreN 11994318 (cutS b n) < 2 ^ 24 := Nat.xor_lt_two_pow l1 l2
  rw [u32_xor_nat _ _ (by omega) (by omega), u32_xor_nat _ _ (by omega) (by omega)]
  congr 1
  unfold moreN
  rw [cutS_bytes, cutS_bytes, cutS_bytes, ← BitVec.toNat_xor, ← BitVec.toNat_xor]
  congr 1
  exact (xor3_sum _ _ _ (by rw [cutB_length a n ha, cutB_length b n hb]) (by rw [cutB_length b n hb, cutB_length c n hc]) _).symm

/-- The sum of one text that lies in a row of its own. -/
theorem sum_cell (x : ByteArray) (B : Nat) (w : World) (hc : w.cell? ⟨B, 0, none⟩ = some (.string x)) (hx : x.size ≤ maxLen) :
    Calls Try.prog 12 #[.slice (some ⟨B, 0, none⟩) 1 1] w fun e w' => e = .returned (.int .u32 (moreN 11994318 x : Nat)) ∧ w = w' := by
  rw [← sumN_one]
  refine sum_any (some ⟨B, 0, none⟩) 1 [x] w ?_ (by simp [maxLen]) (by simpa using hx)
  intro _
  refine ⟨_, rfl, lt_of_cell hc, fun i hi => ?_⟩
  match i, hi with
  | 0, _ => simpa [Addr.add] using hc

theorem layC_at (l : List UInt8) (k i : Nat) (h : l.length = k) (hi : i < k) : (layC l k)[i]? = some (.int .u8 ((l.getD i 0).toNat : Int)) := by
  subst h
  rw [layC_all]
  simp [Lib.byteCells, hi]

theorem conv_laid {l : List UInt8} {k g : Nat} {w w' : World} {base : Nat} (hl : l.length = k) (h : w.ownsRow base 5 1 (.slice (some ⟨g, 0, none⟩) k k) k (layC l k)) (hb : Below w.heap.size w w') :
    (convert 31 9 (.slice (some ⟨g, 0, none⟩) k k)).run Try.prog w' = .ok (.string ⟨l.toArray⟩) w' :=
  conv_cells Try.underlying31 Try.underlying5 Try.underlying9 hl fun i hi => by
    have h1 := h.cellAt i (by omega)
    rw [layC_at l k i hl hi] at h1
    exact (hb.cell (lt_of_cell h1)).trans h1

/-- A row of one string. -/
def Cell1 (x : ByteArray) (v : Value) (w : World) : Prop := ∃ b, v = .slice (some ⟨b, 0, none⟩) 1 1 ∧ w.cell? ⟨b, 0, none⟩ = some (.string x)
theorem Cell1.below {x : ByteArray} {v : Value} {w w' : World} (h : Cell1 x v w) (hb : Below w.heap.size w w') : Cell1 x v w' := by
  obtain ⟨b, e, hc⟩ := h
  exact ⟨b, e, (hb.cell (lt_of_cell hc)).trans hc⟩
theorem Cell1.made (x : ByteArray) (w : World) (t : TypeId) : Cell1 x (.slice (some ⟨w.heap.size, 0, none⟩) 1 1) (w.alloc (.cells #[.string x] t)) := ⟨w.heap.size, rfl, by simp⟩
theorem Cell1.sum {x : ByteArray} {v : Value} {w : World} (h : Cell1 x v w) (hx : x.size ≤ maxLen) :
    Calls Try.prog 12 #[v] w fun e w' => e = .returned (.int .u32 (moreN 11994318 x : Nat)) ∧ w = w' := by
  obtain ⟨b, rfl, hc⟩ := h
  exact sum_cell x b w hc hx

/-- What each slot of the law's last line holds. -/
def ThreeV (B k : Nat) (a b c xx xa xb xc : ByteArray) (t : Nat) (v : Value) (w : World) : Prop :=
  match t with
  | 42 => v = .slice (some ⟨B, 0, none⟩) k k
  | 43 => v = .string xx
  | 44 => Cell1 xx v w
  | 45 => v = .int .u32 (moreN 11994318 xx : Nat)
  | 46 => v = .string a
  | 47 => v = .int .i64 k
  | 48 => v = .string xa
  | 49 => Cell1 xa v w
  | 50 => v = .int .u32 (moreN 11994318 xa : Nat)
  | 51 => v = .string b
  | 52 => v = .int .i64 k
  | 53 => v = .string xb
  | 54 => Cell1 xb v w
  | 55 => v = .int .u32 (moreN 11994318 xb : Nat)
  | 56 => v = .int .u32 (bits .xor .u32 (moreN 11994318 xa : Nat) (moreN 11994318 xb : Nat))
  | 57 => v = .string c
  | 58 => v = .int .i64 k
  | 59 => v = .string xc
  | 60 => Cell1 xc v w
  | 61 => v = .int .u32 (moreN 11994318 xc : Nat)
  | 62 => v = .int .u32 (moreN 11994318 xx : Nat)
  | 63 => v = .bool true
  | 64 => v = .bool true
  | 65 => v = .bool true
  | 66 => v = .bool true
  | 6 => v = .bool true
  | _ => True

theorem ThreeV.below {B k : Nat} {a b c xx xa xb xc : ByteArray} {t : Nat} {v : Value} {w w' : World} (h : ThreeV B k a b c xx xa xb xc t v w) (hb : Below w.heap.size w w') : ThreeV B k a b c xx xa xb xc t v w' := by
  unfold ThreeV at *
  split at h <;> first | exact h | exact Cell1.below h hb

set_option maxHeartbeats 10000000 in
set_option maxRecDepth 100000 in
theorem three_walk (a b c : ByteArray) (w : World) (ha : a.size ≤ maxLen) (hb : b.size ≤ maxLen) (hc : c.size ≤ maxLen) :
    Calls Try.prog 6 #[.string a, .string b, .string c] w fun e w' => e = .returned (.bool true) ∧ Below w.heap.size w w' := by
  obtain ⟨i0, hi0, hz0, hz1, hz2⟩ := info_parts u8_info
  unfold maxLen at ha hb hc
  obtain ⟨n, hmin, hna, hnb, hnc⟩ := min3 a.size b.size c.size
  by_cases h3 : 300 < n
  · go_enter Try.func6, Try.ntmps6
    go_wp2_with fail
    refine (awake_true _).mono ?_
    rintro e w1 ⟨rfl, hb1⟩
    go_wp2
    go_ret
    exact ⟨rfl, hb1⟩
  have HLen := Lib.hid (threeB_length a b c n hna hnb hnc)
  go_enter Try.func6, Try.ntmps6
  go_wp2_with (first | (at_make; go_loud (refine wpList_make_full _ rfl (.tmp 20) (.tmp 20) 31 rfl w.heap.size 5 i0 (.int .u8 0) 1 Try.underlying31 hi0 hz0 hz1 .i64 .i64 _ _ n rfl rfl rfl rfl (by rw [hz2]; omega) (by unfold maxLen; omega) (Nat.le_refl _) ?_); intro w1 hown1 hg1; clear hmin))
  have hown := made_lay (l := threeB a b c n) HLen.out hown1
  have hbel : Below w.heap.size w w1 := (Below.refl _ _).grown hg1 (Nat.le_refl _) (by simp)
  clear hown1 hg1 hi0 hz0 hz1 hz2
  go_loopw [24] (fun i wr => ∃ k : Nat, i = .int .i64 k ∧ k ≤ n ∧ wr.ownsRow w.heap.size 5 1 (.slice (some ⟨w.heap.size, 0, none⟩) n n) n (layC (threeB a b c n) k) ∧ Below w.heap.size w wr) (fun i _ => (n - intOf i).toNat)
  case atStart => exact ⟨0, rfl, by omega, hown, hbel⟩
  case round =>
    obtain ⟨k, rfl, hk, hor, hbr⟩ := hrel
    clear hown hbel
    by_cases hlt : k < n
    · have hcell := hor.cellAt k (by omega)
      obtain ⟨u, hu⟩ : ∃ u, (layC (threeB a b c n) k)[k]? = some u := ⟨_, List.getElem?_eq_getElem (by rw [layC_length _ _ (by rw [HLen.out]; omega), HLen.out]; omega)⟩
      rw [hu] at hcell
      have hf := hor.frozenAt k
      have HX := Lib.hid (layC_set _ k _ (threeB_at a b c n k hlt hna hnb hnc))
      have HV := Lib.hid (xor3_val a[k] b[k] c[k])
      have HO := Lib.hid hor
      clear hor hu
      have i1 : (k : Int) < a.size := by omega
      have i2 : (k : Int) < b.size := by omega
      have i3 : (k : Int) < c.size := by omega
      have i4 : (k : Int) < n := by omega
      go_wp2
      go_region
      go_wp2
      go_roundw
      case rel =>
        have hst := HO.out.stored k (.int .u8 ((a[k] ^^^ b[k] ^^^ c[k]).toNat : Int))
        rw [HX.out] at hst
        refine ⟨k + 1, by go_num, by omega, ?_, ?_⟩
        · rw [HV.out]; exact hst.1.drew
        · exact (hbr.setCell (Nat.le_refl _) _).drew
      case measure => simp [intOf]; omega
    · have hkn : k = n := by omega
      subst hkn
      have HT := three_sum a b c k hna hnb hnc
      have HA := (show (cutS a k).size ≤ maxLen by rw [cutS_size _ _ hna]; unfold maxLen; omega)
      have HB := (show (cutS b k).size ≤ maxLen by rw [cutS_size _ _ hnb]; unfold maxLen; omega)
      have HC := (show (cutS c k).size ≤ maxLen by rw [cutS_size _ _ hnc]; unfold maxLen; omega)
      have HX := (show (ByteArray.mk (threeB a b c k).toArray).size ≤ maxLen by show (threeB a b c k).toArray.size ≤ _; rw [List.size_toArray, HLen.out]; unfold maxLen; omega)
      have hcv : ∀ w', Below wr.heap.size wr w' → (convert 31 9 (.slice (some ⟨w.heap.size, 0, none⟩) k k)).run Try.prog w' = .ok (.string ⟨(threeB a b c k).toArray⟩) w' := fun w' hb' => conv_laid HLen.out hor hb'
      have e1 : a.extract 0 k = cutS a k := rfl
      have e2 : b.extract 0 k = cutS b k := rfl
      have e3 : c.extract 0 k = cutS c k := rfl
      generalize cutS a k = xa at *
      generalize cutS b k = xb at *
      generalize cutS c k = xc at *
      generalize (ByteArray.mk (threeB a b c k).toArray) = xx at *
      have H1 := Lib.hid HA
      have H2 := Lib.hid HB
      have H3 := Lib.hid HC
      have H4 := Lib.hid HX
      clear HA HB HC HX
      have i1 : (k : Int) ≤ a.size := by omega
      have i2 : (k : Int) ≤ b.size := by omega
      have i3 : (k : Int) ≤ c.size := by omega
      have i4 : (0 : Int) ≤ k := by omega
      clear hor ha hb hc hna hnb hnc hlt hk HLen h3
      have HCV := Lib.hid hcv
      clear hcv
      go_wp2
      refine wp_region_inv [42, 43, 44, 45, 46, 47, 48, 49, 50, 51, 52, 53, 54, 55, 56, 57, 58, 59, 60, 61, 62, 63, 64, 65, 66, 6] (by kernel_rfl) (by kernel_rfl) (fun w' => Below wr.heap.size wr w') (fun w1 w2 => Below w1.heap.size w1 w2) (ThreeV w.heap.size k a b c xx xa xb xc) (by kernel_rfl) (fun w1 w2 h1 h2 => h2.trans (h1.mono h2.size)) (fun t v w1 w2 h1 h2 => h2.below h1) (Below.refl _ _).drew (steps_of ?_) ?_
      · refine Steps1.cons (fun ax wx hS hG => ?_) (Steps1.cons (fun ax wx hS hG => ?_) (Steps1.cons (fun ax wx hS hG => ?_) (Steps1.cons (fun ax wx hS hG => ?_) (Steps1.cons (fun ax wx hS hG => ?_) (Steps1.cons (fun ax wx hS hG => ?_) (Steps1.cons (fun ax wx hS hG => ?_) (Steps1.cons (fun ax wx hS hG => ?_) (Steps1.cons (fun ax wx hS hG => ?_) (Steps1.cons (fun ax wx hS hG => ?_) (Steps1.cons (fun ax wx hS hG => ?_) (Steps1.cons (fun ax wx hS hG => ?_) (Steps1.cons (fun ax wx hS hG => ?_) (Steps1.cons (fun ax wx hS hG => ?_) (Steps1.cons (fun ax wx hS hG => ?_) (Steps1.cons (fun ax wx hS hG => ?_) (Steps1.cons (fun ax wx hS hG => ?_) (Steps1.cons (fun ax wx hS hG => ?_) (Steps1.cons (fun ax wx hS hG => ?_) (Steps1.cons (fun ax wx hS hG => ?_) (Steps1.cons (fun ax wx hS hG => ?_) (Steps1.cons (fun ax wx hS hG => ?_) (Steps1.cons (fun ax wx hS hG => ?_) (Steps1.cons (fun ax wx hS hG => ?_) (Steps1.cons (fun ax wx hS hG => ?_) (Steps1.cons (fun ax wx hS hG => ?_) Steps1.nil)))))))))))))))))))))))))
        · have q8 := hG.old 8 (by kernel_rfl) (by kernel_rfl)
          refine step_value (v := .slice (some ⟨w.heap.size, 0, none⟩) k k) (w' := wx) rfl rfl ?_ (Below.refl _ _) (fun d hd => by cases hd; exact rfl)
          go_simp
        · obtain ⟨_, q42, rfl⟩ := hG.new 42 (by kernel_rfl) (by kernel_rfl)
          have hcv := HCV.out wx hS
          refine step_value (v := .string xx) (w' := wx) rfl rfl ?_ (Below.refl _ _) (fun d hd => by cases hd; exact rfl)
          go_simp
        · obtain ⟨_, q43, rfl⟩ := hG.new 43 (by kernel_rfl) (by kernel_rfl)
          refine step_value (v := .slice (some ⟨wx.heap.size, 0, none⟩) 1 1) (w' := wx.alloc (.cells #[.string xx] 9)) rfl rfl ?_ ((Below.refl _ _).alloc (Nat.le_refl _) _) (fun d hd => by cases hd; exact Cell1.made xx wx _)
          go_simp
        · obtain ⟨v1, q44, h1⟩ := hG.new 44 (by kernel_rfl) (by kernel_rfl)
          have h2 : Cell1 xx v1 wx := h1
          refine step_call (w1 := wx) (f := 12) (args := #[v1]) rfl rfl ?_ ((h2.sum H4.out).mono ?_)
          · clear h1 h2
            go_simp
          · rintro e w' ⟨rfl, rfl⟩
            exact ⟨_, rfl, Below.refl _ _, fun d hd => by cases hd; exact rfl⟩
        · have q0 := hG.old 0 (by kernel_rfl) (by kernel_rfl)
          refine step_value (v := .string a) (w' := wx) rfl rfl ?_ (Below.refl _ _) (fun d hd => by cases hd; exact rfl)
          go_simp
        · have q7 := hG.old 7 (by kernel_rfl) (by kernel_rfl)
          refine step_value (v := .int .i64 k) (w' := wx) rfl rfl ?_ (Below.refl _ _) (fun d hd => by cases hd; exact rfl)
          go_simp
        · obtain ⟨_, q46, rfl⟩ := hG.new 46 (by kernel_rfl) (by kernel_rfl)
          obtain ⟨_, q47, rfl⟩ := hG.new 47 (by kernel_rfl) (by kernel_rfl)
          refine step_value (v := .string xa) (w' := wx) rfl rfl ?_ (Below.refl _ _) (fun d hd => by cases hd; exact rfl)
          go_simp
        · obtain ⟨_, q48, rfl⟩ := hG.new 48 (by kernel_rfl) (by kernel_rfl)
          refine step_value (v := .slice (some ⟨wx.heap.size, 0, none⟩) 1 1) (w' := wx.alloc (.cells #[.string xa] 9)) rfl rfl ?_ ((Below.refl _ _).alloc (Nat.le_refl _) _) (fun d hd => by cases hd; exact Cell1.made xa wx _)
          go_simp
        · obtain ⟨v1, q49, h1⟩ := hG.new 49 (by kernel_rfl) (by kernel_rfl)
          have h2 : Cell1 xa v1 wx := h1
          refine step_call (w1 := wx) (f := 12) (args := #[v1]) rfl rfl ?_ ((h2.sum H1.out).mono ?_)
          · clear h1 h2
            go_simp
          · rintro e w' ⟨rfl, rfl⟩
            exact ⟨_, rfl, Below.refl _ _, fun d hd => by cases hd; exact rfl⟩
        · have q1 := hG.old 1 (by kernel_rfl) (by kernel_rfl)
          refine step_value (v := .string b) (w' := wx) rfl rfl ?_ (Below.refl _ _) (fun d hd => by cases hd; exact rfl)
          go_simp
        · have q7 := hG.old 7 (by kernel_rfl) (by kernel_rfl)
          refine step_value (v := .int .i64 k) (w' := wx) rfl rfl ?_ (Below.refl _ _) (fun d hd => by cases hd; exact rfl)
          go_simp
        · obtain ⟨_, q51, rfl⟩ := hG.new 51 (by kernel_rfl) (by kernel_rfl)
          obtain ⟨_, q52, rfl⟩ := hG.new 52 (by kernel_rfl) (by kernel_rfl)
          refine step_value (v := .string xb) (w' := wx) rfl rfl ?_ (Below.refl _ _) (fun d hd => by cases hd; exact rfl)
          go_simp
        · obtain ⟨_, q53, rfl⟩ := hG.new 53 (by kernel_rfl) (by kernel_rfl)
          refine step_value (v := .slice (some ⟨wx.heap.size, 0, none⟩) 1 1) (w' := wx.alloc (.cells #[.string xb] 9)) rfl rfl ?_ ((Below.refl _ _).alloc (Nat.le_refl _) _) (fun d hd => by cases hd; exact Cell1.made xb wx _)
          go_simp
        · obtain ⟨v1, q54, h1⟩ := hG.new 54 (by kernel_rfl) (by kernel_rfl)
          have h2 : Cell1 xb v1 wx := h1
          refine step_call (w1 := wx) (f := 12) (args := #[v1]) rfl rfl ?_ ((h2.sum H2.out).mono ?_)
          · clear h1 h2
            go_simp
          · rintro e w' ⟨rfl, rfl⟩
            exact ⟨_, rfl, Below.refl _ _, fun d hd => by cases hd; exact rfl⟩
        · obtain ⟨_, q50, rfl⟩ := hG.new 50 (by kernel_rfl) (by kernel_rfl)
          obtain ⟨_, q55, rfl⟩ := hG.new 55 (by kernel_rfl) (by kernel_rfl)
          refine step_value (v := .int .u32 (bits .xor .u32 (moreN 11994318 xa : Nat) (moreN 11994318 xb : Nat))) (w' := wx) rfl rfl ?_ (Below.refl _ _) (fun d hd => by cases hd; exact rfl)
          go_simp
        · have q2 := hG.old 2 (by kernel_rfl) (by kernel_rfl)
          refine step_value (v := .string c) (w' := wx) rfl rfl ?_ (Below.refl _ _) (fun d hd => by cases hd; exact rfl)
          go_simp
        · have q7 := hG.old 7 (by kernel_rfl) (by kernel_rfl)
          refine step_value (v := .int .i64 k) (w' := wx) rfl rfl ?_ (Below.refl _ _) (fun d hd => by cases hd; exact rfl)
          go_simp
        · obtain ⟨_, q57, rfl⟩ := hG.new 57 (by kernel_rfl) (by kernel_rfl)
          obtain ⟨_, q58, rfl⟩ := hG.new 58 (by kernel_rfl) (by kernel_rfl)
          refine step_value (v := .string xc) (w' := wx) rfl rfl ?_ (Below.refl _ _) (fun d hd => by cases hd; exact rfl)
          go_simp
        · obtain ⟨_, q59, rfl⟩ := hG.new 59 (by kernel_rfl) (by kernel_rfl)
          refine step_value (v := .slice (some ⟨wx.heap.size, 0, none⟩) 1 1) (w' := wx.alloc (.cells #[.string xc] 9)) rfl rfl ?_ ((Below.refl _ _).alloc (Nat.le_refl _) _) (fun d hd => by cases hd; exact Cell1.made xc wx _)
          go_simp
        · obtain ⟨v1, q60, h1⟩ := hG.new 60 (by kernel_rfl) (by kernel_rfl)
          have h2 : Cell1 xc v1 wx := h1
          refine step_call (w1 := wx) (f := 12) (args := #[v1]) rfl rfl ?_ ((h2.sum H3.out).mono ?_)
          · clear h1 h2
            go_simp
          · rintro e w' ⟨rfl, rfl⟩
            exact ⟨_, rfl, Below.refl _ _, fun d hd => by cases hd; exact rfl⟩
        · obtain ⟨_, q56, rfl⟩ := hG.new 56 (by kernel_rfl) (by kernel_rfl)
          obtain ⟨_, q61, rfl⟩ := hG.new 61 (by kernel_rfl) (by kernel_rfl)
          refine step_value (v := .int .u32 (moreN 11994318 xx : Nat)) (w' := wx) rfl rfl ?_ (Below.refl _ _) (fun d hd => by cases hd; exact rfl)
          go_simp
        · obtain ⟨_, q45, rfl⟩ := hG.new 45 (by kernel_rfl) (by kernel_rfl)
          obtain ⟨_, q62, rfl⟩ := hG.new 62 (by kernel_rfl) (by kernel_rfl)
          refine step_value (v := .bool true) (w' := wx) rfl rfl ?_ (Below.refl _ _) (fun d hd => by cases hd; exact rfl)
          go_simp
        · obtain ⟨_, q63, rfl⟩ := hG.new 63 (by kernel_rfl) (by kernel_rfl)
          refine step_value (v := .bool true) (w' := wx) rfl rfl ?_ (Below.refl _ _) (fun d hd => by cases hd; exact rfl)
          go_simp
        · obtain ⟨_, q64, rfl⟩ := hG.new 64 (by kernel_rfl) (by kernel_rfl)
          refine step_call (w1 := wx) (f := 11) (args := #[]) rfl ?_ ?_ ((awake_true wx).mono ?_)
          · simp [Region.wanted, yielded, q64]
          · go_simp
          · rintro e w' ⟨rfl, hq⟩
            exact ⟨_, rfl, hq, fun d hd => by cases hd; exact rfl⟩
        · obtain ⟨_, q64, rfl⟩ := hG.new 64 (by kernel_rfl) (by kernel_rfl)
          obtain ⟨_, q65, rfl⟩ := hG.new 65 (by kernel_rfl) (by kernel_rfl)
          refine step_value (v := .bool true) (w' := wx) rfl rfl ?_ (Below.refl _ _) (fun d hd => by cases hd; exact rfl)
          go_simp
        · obtain ⟨_, q66, rfl⟩ := hG.new 66 (by kernel_rfl) (by kernel_rfl)
          refine step_value (v := .bool true) (w' := wx) rfl rfl ?_ (Below.refl _ _) (fun d hd => by cases hd; exact rfl)
          go_simp
      · intro f w' hS hV
        have h6 : f 6 = .bool true := hV 6 (by decide)
        simp only [puts, Act.put, List.setIfInBounds_toArray, List.set_cons_succ, List.set_cons_zero]
        go_wp2
        go_ret
        rw [h6]
        exact ⟨rfl, hbr.trans (hS.mono hbr.size)⟩

end Go.Proofs.Yteobphighbdjaaa
