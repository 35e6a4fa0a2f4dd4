/- The library's stable sort at notes, whole; notes by their keys. -/
import Derived.Test.YtgpjbajfkagdbaaSy
import Derived.Test.YtgpjbajfkagdbaaLay
import Derived.Test.YtgpjbajfkagdbaaShelf
import Derived.Test.YtgpjbajfkagdbaaNts
import Derived.Test.YtgpjbajfkagdbaaPrs
import Derived.Lib.BitFns
import Derived.Lib.SmallJoins
set_option linter.unusedVariables false
set_option linter.unusedSimpArgs false
namespace Go.Proofs.Ytgpjbajfkagdbaa
open Go.Shelf Go.RowKit Go.Lib Go.Sort

/-! Comparing texts. -/
def cmpS (a b : ByteArray) : Int := Lib.compareBytes a.data.toList b.data.toList
theorem compare_lists : ∀ x y : List UInt8, Lib.compareBytes x y = if Op.bytesLess x y then -1 else if Op.bytesLess y x then 1 else 0
  | [], [] => rfl
  | [], _ :: _ => rfl
  | _ :: _, [] => rfl
  | a :: x, b :: y => by
    simp only [Lib.compareBytes, Op.bytesLess, compare_lists x y]
    by_cases h1 : a < b
    · simp [h1]
    · by_cases h2 : b < a
      · have h3 : (a == b) = false := by
          rw [beq_eq_false_iff_ne]
          rintro rfl
          exact h1 h2
        simp [h1, h2, h3]
      · have h3 : a = b := UInt8.le_antisymm (UInt8.not_lt.1 h2) (UInt8.not_lt.1 h1)
        subst h3
        simp [h1]
theorem cmpS_eq' (a b : ByteArray) : cmpS a b = if a < b then -1 else if b < a then 1 else 0 := by
  unfold cmpS
  rw [compare_lists, ← Lib.toList_data, ← Lib.toList_data]
  show (if ltS a b = true then (-1 : Int) else if ltS b a = true then 1 else 0) = _
  rfl
theorem cmpS_lt (a b : ByteArray) : cmpS a b < 0 ↔ a < b := by
  rw [cmpS_eq']
  by_cases h : a < b
  · simp [h]
  · by_cases h2 : b < a <;> simp [h, h2]
theorem cmpS_zero (a b : ByteArray) : cmpS a b = 0 ↔ a = b := by
  rw [cmpS_eq']
  by_cases h : a < b
  · simp [h]; intro e; subst e; grind
  · by_cases h2 : b < a
    · simp [h, h2]; intro e; subst e; grind
    · simp [h, h2]; grind

/-! The sort's own comparison. -/
abbrev cmpN (x y : Nt) : Int := cmpS x.key y.key
theorem ltN : ltOf cmpN = lessN := by
  funext x y
  unfold ltOf
  exact decide_eq_decide.2 (cmpS_lt _ _)

set_option maxHeartbeats 1000000 in
theorem closureN (x y : Nt) (W : World) : Calls Try.prog 76 #[.agg #[.int .i64 x.kind, .string x.key, .string x.value, .int .u64 (x.n.toNat : Int)], .agg #[.int .i64 y.kind, .string y.key, .string y.value, .int .u64 (y.n.toNat : Int)]] W fun e w' => e = .returned (.int .i64 (cmpN x y)) ∧ ∃ q os', w' = grow (W.drewN q) os' := by
  have hcon := fun W' => Try.strings_Compare x.key y.key W'
  change ∀ W', Calls Try.prog 54 _ _ (fun e w' => e = .returned (.int .i64 (cmpN x y)) ∧ w' = W') at hcon
  generalize cmpN x y = r at hcon ⊢
  go_enter Try.func76, Try.ntmps76
  go_wp2_with (go_at_call 54; refine (hcon _).mono ?_; rintro e w' ⟨rfl, rfl⟩)
  go_ret
  exact ⟨rfl, 0, _, by rw [alloc_eq_grow, alloc_eq_grow, grow_grow]; rfl⟩
theorem cmpLaysN (blk off size : Nat) (w : World) : CmpLays Try.prog 76 #[] Nt.cells 4 cmpN blk off size w := fun _ _ _ _ x y => closureN x y _

theorem lk : Lk Try.prog 4 where
  mixed := by kernel_rfl
  f57 := Try.func88
  f56 := Try.func87
  f50 := Try.func83
  t0 := Try.underlying0
  a0 := Try.isAgg0
  z0 := Try.sizeOf0
  v0 := Try.zeroValue0
  t3 := Try.underlying3
  a3 := Try.isAgg3
  z3 := Try.sizeOf3
  v3 := Try.zeroValue3
  t4 := Try.underlying4
  a4 := Try.isAgg4
  z4 := Try.sizeOf4
  v4 := Try.zeroValue4
  t23 := Try.underlying45
  a23 := Try.isAgg45
  z23 := Try.sizeOf45
  v23 := Try.zeroValue45
  a46 := Try.isAgg48
  z46 := Try.sizeOf48
  t62 := Try.underlying120
  a62 := Try.isAgg120
  z62 := Try.sizeOf120
  v62 := Try.zeroValue120
  t71 := Try.underlying114
  a71 := Try.isAgg114
  z71 := Try.sizeOf114
  v71 := Try.zeroValue114

theorem egN : ∀ args w, (callFunc 76 args).run Try.prog w = .ok (.enter 76 args) w := enters_of Try.func76 (by kernel_rfl) rfl
theorem cells_one (x : Nt) : ∀ v ∈ x.cells, v.oneCell' = true := by
  intro v hv
  unfold Nt.cells at hv
  simp at hv
  rcases hv with rfl | rfl | rfl | rfl <;> rfl
abbrev NCtx (w0 : World) (blk off : Nat) (d0 : Array Nt) : Prop := SCtx Try.prog 4 Nt.cells w0 blk off d0 76 #[] cmpN
theorem nctx {w0 : World} {blk off : Nat} {d0 : Array Nt} (hH : HoldsK Nt.cells 4 w0 blk off d0) (hb : blk < w0.heap.size) (hN : d0.size ≤ 1000000) : NCtx w0 blk off d0 where
  L := lk
  R := ⟨fun _ => rfl, fun x => cells_one x, hH, hb⟩
  hN := by omega
  eg := egN
  hcmp := cmpLaysN _ _ _ _
  hcf := fun x y => cmpS_lt _ _

theorem insertion_any {w0 : World} {blk off : Nat} {d0 : Array Nt} (C : NCtx w0 blk off d0) (cap a b : Nat) (x s y : List Nt) (dk : Array Nt) (W : World) (h : SWK Nt.cells 4 w0 blk off dk W) (hd : dk.toList = x ++ s ++ y)
    (ha : x.length = a) (hb : x.length + s.length = b) (hs : dk.size = d0.size) :
    Calls Try.prog 82 #[.slice (some ⟨blk, off, none⟩) d0.size cap, .int .i64 a, .int .i64 b, .func (.func 76) #[] #[]] W fun e w' =>
      e = .returned (.tuple #[]) ∧ ∃ (dk' : Array Nt) (s' : List Nt), dk'.toList = x ++ s' ++ y ∧ s'.length = s.length ∧ Rising s' ∧ StEq s' s ∧ dk'.size = d0.size ∧ SWK Nt.cells 4 w0 blk off dk' w' := by
  have hsz : d0.size = x.length + s.length + y.length := by have h1 := congrArg List.length hd; simp at h1; omega
  have hcon := AnyQ.insertionSortCmpFunc Try.insX 4 Try.isAgg48 Try.sizeOf48 Nt.cells (fun _ => rfl) (fun x => cells_one x) cmpN 76 #[] blk off cap a b dk W egN (cmpLaysN _ _ _ _) (h.holds C.R.hblk C.R.hH hs) (h.lt C.R.hblk) (by omega) (by omega) (by have := C.hN; omega)
  change Calls Try.prog 82 _ _ _ at hcon
  rw [hs] at hcon
  refine hcon.mono ?_
  rintro e w' ⟨rfl, n, os, rfl⟩
  rw [ltN]
  obtain ⟨s', h1, h2, h3, h4⟩ := insertion_list hd ha hb
  have h5 : (insertionSort lessN dk a b).size = dk.size := by
    have e1 := congrArg List.length h1
    have e2 := congrArg List.length hd
    simp at e1 e2
    omega
  exact ⟨rfl, _, s', h1, h2, h3, h4, h5.trans hs, h.on C.R.hblk n _ os h5⟩

end Go.Proofs.Ytgpjbajfkagdbaa

namespace Go.Proofs.Ytgpjbajfkagdbaa
open Go.Shelf Go.RowKit Go.Lib Go.Sort

theorem merge_any {w0 : World} {blk off : Nat} {d0 : Array Nt} (C : NCtx w0 blk off d0) (cap a m b : Nat) (x u v y : List Nt) (dk : Array Nt) (W : World) (h : SWK Nt.cells 4 w0 blk off dk W) (hd : dk.toList = x ++ u ++ v ++ y)
    (ha : x.length = a) (hm : a + u.length = m) (hb : m + v.length = b) (hu0 : 0 < u.length) (hv0 : 0 < v.length) (hu : Rising u) (hv : Rising v) (hs : dk.size = d0.size) :
    Calls Try.prog 83 #[.slice (some ⟨blk, off, none⟩) d0.size cap, .int .i64 a, .int .i64 m, .int .i64 b, .func (.func 76) #[] #[]] W fun e w' =>
      e = .returned (.tuple #[]) ∧ ∃ (dk' : Array Nt) (s : List Nt), dk'.toList = x ++ s ++ y ∧ Merged s u v ∧ dk'.size = d0.size ∧ SWK Nt.cells 4 w0 blk off dk' w' :=
  sym_any C cap _ a m b x u v y dk W (Nat.le_refl _) h hd ha hm hb hu0 hv0 hu hv hs

set_option maxHeartbeats 4000000 in
set_option maxRecDepth 1000000 in
/-- What a call of the library's stable sort comes to. -/
theorem stable_any {w0 : World} {blk off : Nat} {d0 : Array Nt} (C : NCtx w0 blk off d0) (hmax : d0.size ≤ 1000000) (cap : Nat) :
    Calls Try.prog 79 #[.slice (some ⟨blk, off, none⟩) d0.size cap, .int .i64 d0.size, .func (.func 76) #[] #[]] w0 fun e w' =>
      e = .returned (.tuple #[]) ∧ ∃ dk' : Array Nt, dk'.size = d0.size ∧ Rising dk'.toList ∧ StEq dk'.toList d0.toList ∧ SWK Nt.cells 4 w0 blk off dk' w' := by
  have hIN := fun (a b : Nat) (x s y : List Nt) (dk : Array Nt) (W : World) h hd ha hb hs => insertion_any C cap a b x s y dk W h hd ha hb hs
  have hMG := fun (a m b : Nat) (x u v y : List Nt) (dk : Array Nt) (W : World) h hd ha hm hb hu0 hv0 hu hv hs => merge_any C cap a m b x u v y dk W h hd ha hm hb hu0 hv0 hu hv hs
  have H0 := Lib.hid (SWK.start C.R.hH)
  have HIN := Lib.hid hIN
  have HMG := Lib.hid hMG
  have HL0 := Lib.hid (show d0.toList.length = d0.size by simp)
  clear C hIN hMG
  generalize hNe : d0.size = N at *
  have HNE := Lib.hid hNe
  clear hNe
  go_enter Try.func79, Try.ntmps79
  go_wp2
  go_loopw [7, 8] (fun av bv wr => ∃ (A B : Nat) (dj : Array Nt) (x y : List Nt), av = .int .i64 A ∧ bv = .int .i64 B ∧ Hid (B = A + 20) ∧ A ≤ N ∧ Hid (dj.toList = x ++ y) ∧ Hid (x.length = A) ∧ Hid (Pre 20 x) ∧ Hid (StEq (x ++ y) d0.toList) ∧ Hid (dj.size = N) ∧ Hid (SWK Nt.cells 4 w0 blk off dj wr)) (fun av _ _ => (N - intOf av).toNat)
  case atStart => exact ⟨0, 20, d0, [], d0.toList, rfl, rfl, rfl, by omega, rfl, rfl, Pre.nil _, StEq.rfl' _, HNE.out, H0⟩
  case round =>
    obtain ⟨A, B, dj, x, y, rfl, rfl, hB, hA, HD, HX, HP, HE, HZ, HW⟩ := hrel
    have hB1 := hB.out
    have hyl : y.length = N - A := by have h1 := congrArg List.length HD.out; simp at h1; have h2 := HZ.out; have h3 := HX.out; omega
    have HYL := Lib.hid hyl
    by_cases hlt : B ≤ N
    · have hc := HIN.out A B x (y.take 20) (y.drop 20) dj _ HW.out (by rw [HD.out, List.append_assoc, List.take_append_drop]) HX.out (by have h3 := HX.out; simp; omega) (by rw [HZ.out])
      have wB : IntKind.i64.wrap ((B : Int) + 20) = ((B + 20 : Nat) : Int) := by rw [IntKind.wrap_i64]; omega
      obtain ⟨B2, hB2⟩ : ∃ B2, B2 = B + 20 := ⟨_, rfl⟩
      rw [← hB2] at wB
      have hBn : B2 < 2000000 := by omega
      have HB2 := Lib.hid hB2
      clear hB2 hB1 hyl
      go_wp2_with fail
      refine hc.mono ?_
      clear hc
      rintro e w1 ⟨rfl, dn, s', hl, hn, hr, hst, hz, hS⟩
      have HD1 := Lib.hid (show dn.toList = (x ++ s') ++ y.drop 20 from hl)
      have HX1 := Lib.hid (show (x ++ s').length = B by rw [List.length_append, hn]; have h3 := HX.out; have h4 := hB.out; have h5 := HYL.out; simp; omega)
      have HP1 := Lib.hid (HP.out.snoc hr (by rw [hn]; have h4 := hB.out; have h5 := HYL.out; simp; omega))
      have HE1 := Lib.hid (show StEq ((x ++ s') ++ y.drop 20) d0.toList from by
        have h1 := ((StEq.rfl' x).app hst).app (StEq.rfl' (y.drop 20))
        rw [List.append_assoc x (y.take 20), List.take_append_drop] at h1
        exact h1.trans HE.out)
      have HZ1 := Lib.hid hz
      have HS1 := Lib.hid hS
      clear hl hn hr hst hz hS
      go_wp2
      go_roundw
      case rel => exact ⟨B, B2, dn, x ++ s', y.drop 20, rfl, by first | rfl | go_num | (congr 1; omega), HB2.out, hlt, HD1, HX1, HP1, HE1, HZ1, HS1⟩
      case measure => have := hB.out; simp [intOf]; omega
    · have hc := HIN.out A N x y [] dj _ HW.out (by rw [HD.out]; simp) HX.out (by have h3 := HX.out; omega) (by rw [HZ.out])
      have hyl20 : y.length ≤ 20 := by omega
      have HY20 := Lib.hid hyl20
      clear hyl hB1 hyl20
      go_wp2_with fail
      refine hc.mono ?_
      clear hc
      rintro e w1 ⟨rfl, dn, s', hl, hn, hr, hst, hz, hS⟩
      have HB0 := Lib.hid (show Bs 20 dn.toList by rw [hl, List.append_nil]; exact HP.out _ (Bs.one hr (by have := HY20.out; omega)))
      have HE0 := Lib.hid (show StEq dn.toList d0.toList by rw [hl, List.append_nil]; exact ((StEq.rfl' x).app hst).trans HE.out)
      have HZ0 := Lib.hid hz
      have HS0 := Lib.hid hS
      clear hl hn hr hst hz hS HD HX HP HE HZ HW
      go_wp2
      go_loopw [6, 7, 8] (fun sv av bv wr => ∃ (S : Nat) (dj : Array Nt), sv = .int .i64 S ∧ 0 < S ∧ S ≤ 2 * N + 20 ∧ Hid (Bs S dj.toList) ∧ Hid (StEq dj.toList d0.toList) ∧ Hid (dj.size = N) ∧ Hid (SWK Nt.cells 4 w0 blk off dj wr)) (fun sv _ _ _ => (N - intOf sv).toNat)
      case atStart => exact ⟨20, dn, rfl, by omega, by omega, HB0, HE0, HZ0, HS0⟩
      case round =>
        obtain ⟨S, dj, rfl, hS0, hS1, HB, HE, HZ, HW⟩ := hrel
        by_cases hlt2 : S < N
        · obtain ⟨S2, hS2⟩ : ∃ S2, S2 = 2 * S := ⟨_, rfl⟩
          have w2 : IntKind.i64.wrap (2 * (S : Int)) = (S2 : Int) := by rw [IntKind.wrap_i64]; omega
          have w3 : IntKind.i64.wrap ((S : Int) * 2) = (S2 : Int) := by rw [IntKind.wrap_i64]; omega
          have hS2n : S2 ≤ 2000000 := by omega
          have HS2 := Lib.hid hS2
          clear hS2
          go_wp2
          go_loopw [7, 8] (fun av bv wr => ∃ (A B : Nat) (dj : Array Nt) (x y : List Nt), av = .int .i64 A ∧ bv = .int .i64 B ∧ Hid (B = A + S2) ∧ A ≤ N ∧ Hid (dj.toList = x ++ y) ∧ Hid (x.length = A) ∧ Hid (Pre S2 x) ∧ Hid (Bs S y) ∧ Hid (StEq (x ++ y) d0.toList) ∧ Hid (dj.size = N) ∧ Hid (SWK Nt.cells 4 w0 blk off dj wr)) (fun av _ _ => (N - intOf av).toNat)
          case atStart => exact ⟨0, S2, dj, [], dj.toList, by first | rfl | go_num, by first | rfl | go_num, by show _ = _; omega, by omega, rfl, rfl, Pre.nil _, HB, HE, HZ, HW⟩
          case round =>
            obtain ⟨A, B, dj, x, y, rfl, rfl, hB, hA, HD, HX, HP, HBy, HE, HZ, HW⟩ := hrel
            have hB1 := hB.out
            have hyl : y.length = N - A := by have h1 := congrArg List.length HD.out; simp at h1; have h2 := HZ.out; have h3 := HX.out; omega
            obtain ⟨M, hM⟩ : ∃ M, M = A + S := ⟨_, rfl⟩
            have wM : IntKind.i64.wrap ((A : Int) + (S : Int)) = (M : Int) := by rw [IntKind.wrap_i64]; omega
            have hMn : M ≤ 3000000 := by omega
            have HYL := Lib.hid hyl
            have HM0 := Lib.hid hM
            have HF := Lib.hid (HBy.out.first)
            have HF2 := Lib.hid (HF.out.2.first)
            by_cases hlt3 : B ≤ N
            · have hnum := HS2.out
              have hc := HMG.out A M B x (y.take S) ((y.drop S).take S) ((y.drop S).drop S) dj _ HW.out (by rw [HD.out]; simp only [List.append_assoc, List.take_append_drop]) HX.out (by simp; omega) (by simp; omega) (by simp; omega) (by simp; omega) HF.out.1 HF2.out.1 (by rw [HZ.out])
              have wB : IntKind.i64.wrap ((B : Int) + (S2 : Int)) = ((B + S2 : Nat) : Int) := by rw [IntKind.wrap_i64]; omega
              obtain ⟨B2, hB2⟩ : ∃ B2, B2 = B + S2 := ⟨_, rfl⟩
              rw [← hB2] at wB
              have hBn : B2 < 4000000 := by omega
              have HB2 := Lib.hid hB2
              have HM := Lib.hid hM
              clear hB2 hM hnum hB1 hyl
              go_wp2_with fail
              refine hc.mono ?_
              clear hc
              rintro e w1 ⟨rfl, dn, s', hl, ⟨hn, hr, hst⟩, hz, hS⟩
              have hs2 : s'.length = S2 := by rw [hn]; have := HS2.out; have h3 := hB.out; have h4 := HM.out; have h5 := HYL.out; simp; omega
              have HD1 := Lib.hid (show dn.toList = (x ++ s') ++ (y.drop S).drop S from hl)
              have HX1 := Lib.hid (show (x ++ s').length = B by rw [List.length_append, hs2, HX.out]; exact hB.out.symm)
              have HP1 := Lib.hid (HP.out.snoc hr hs2)
              have HE1 := Lib.hid (show StEq ((x ++ s') ++ (y.drop S).drop S) d0.toList from by
                have h1 := ((StEq.rfl' x).app hst).app (StEq.rfl' ((y.drop S).drop S))
                simp only [List.append_assoc, List.take_append_drop] at h1
                rw [List.append_assoc]
                exact h1.trans HE.out)
              have HBB := Lib.hid HF2.out.2
              have HZ1 := Lib.hid hz
              have HSa := Lib.hid hS
              clear hl hn hr hst hz hS hs2
              go_wp2
              go_roundw
              case rel => exact ⟨B, B2, dn, x ++ s', (y.drop S).drop S, rfl, by first | rfl | go_num | (congr 1; omega), HB2.out, hlt3, HD1, HX1, HP1, HBB, HE1, HZ1, HSa⟩
              case measure => have := HS2.out; have := hB.out; simp [intOf]; omega
            · by_cases hlt4 : M < N
              · have hnum := HS2.out
                have hc := HMG.out A M N x (y.take S) (y.drop S) [] dj _ HW.out (by rw [HD.out]; simp only [List.append_assoc, List.take_append_drop, List.append_nil]) HX.out (by simp; omega) (by simp; omega) (by simp; omega) (by simp; omega) HF.out.1 (HF.out.2.all (by simp; omega)) (by rw [HZ.out])
                have hd1 : decide (M < N) = true := decide_eq_true hlt4
                have HM := Lib.hid hM
                clear hM hnum hB1 hyl
                go_wp2_with fail
                refine hc.mono ?_
                clear hc
                rintro e w1 ⟨rfl, dn, s', hl, ⟨hn, hr, hst⟩, hz, hS⟩
                have HB1 := Lib.hid (show Bs S2 dn.toList by rw [hl, List.append_nil]; exact HP.out _ (Bs.one hr (by rw [hn]; have h3 := HM.out; have h4 := hB.out; have h5 := HYL.out; have h6 := HS2.out; simp; omega)))
                have HE1 := Lib.hid (show StEq dn.toList d0.toList by
                  rw [hl, List.append_nil]
                  rw [List.take_append_drop] at hst
                  exact ((StEq.rfl' x).app hst).trans HE.out)
                have HZ1 := Lib.hid hz
                have HSa := Lib.hid hS
                clear hl hn hr hst hz hS
                go_wp2
                go_roundw
                case rel => exact ⟨S2, dn, by first | rfl | go_num, by have := HS2.out; omega, by have := HS2.out; omega, HB1, HE1, HZ1, HSa⟩
                case measure => have := HS2.out; simp [intOf]; omega
              · have hd1 : decide (M < N) = false := decide_eq_false hlt4
                have HM := Lib.hid hM
                have HB1 := Lib.hid (show Bs S2 dj.toList by rw [HD.out]; exact HP.out _ (Bs.one (HBy.out.all (by omega)) (by have := HS2.out; omega)))
                have HE1 := Lib.hid (show StEq dj.toList d0.toList by rw [HD.out]; exact HE.out)
                clear hM hB1 hyl
                go_wp2
                go_roundw
                case rel => exact ⟨S2, dj, by first | rfl | go_num, by have := HS2.out; omega, by have := HS2.out; omega, HB1, HE1, HZ, HW⟩
                case measure => have := HS2.out; simp [intOf]; omega
        · have HR := Lib.hid (HB.out.all (by simp; have := HZ.out; omega))
          go_wp2
          go_end0
          exact ⟨rfl, dj, HZ.out, HR.out, HE.out, HW.out⟩

end Go.Proofs.Ytgpjbajfkagdbaa

namespace Go.Proofs.Ytgpjbajfkagdbaa
open Go.Shelf Go.RowKit Go.Lib Go.Sort

theorem flat_nt (l : List Nt) (j : Nat) (h : j < l.length * 4) : (l.flatMap Nt.cells)[j]? = some ((flatK Nt.cells 4 l.toArray)[j]!) := by
  have hj : j / 4 < l.length := by omega
  have h1 := flat_get Nt.cells4 l (j / 4) hj (j % 4) (by omega)
  rw [show j / 4 * 4 + j % 4 = j by omega] at h1
  rw [h1, get_flatK Nt.cells 4 l.toArray j (by simpa using h)]
  have e : l.toArray[j / 4]! = l[j / 4] := by simp [hj]
  rw [e]
  have h2 : j % 4 < (Nt.cells l[j / 4]).length := by rw [Nt.cells4]; omega
  rw [List.getElem?_eq_getElem h2, getElem!_pos (Nt.cells l[j / 4]) (j % 4) h2]
theorem holdsN {w : World} {base g cap : Nat} {e : TypeId} {l : List Nt} (h : w.ownsRow base e 4 (.slice (some ⟨g, 0, none⟩) l.length cap) l.length (l.flatMap Nt.cells)) : HoldsK Nt.cells 4 w g 0 l.toArray := by
  intro j hj
  rw [size_flatK] at hj
  simp at hj
  rw [Nat.zero_add]
  exact ⟨by rw [h.cellAt j hj, flat_nt l j hj]; rfl, h.frozenAt j⟩
theorem liesN {w : World} {g : Nat} {l : List Nt} (h : HoldsK Nt.cells 4 w g 0 l.toArray) (hg : g < w.heap.size) : Nts w w.heap.size (some ⟨g, 0, none⟩) l := by
  intro _
  refine ⟨_, rfl, hg, fun i hi j v hv => ?_⟩
  have hj : j < 4 := by rw [← Nt.cells4 l[i]]; exact (List.getElem?_eq_some_iff.1 hv).1
  have h1 := (h (i * 4 + j) (by rw [size_flatK]; simp; omega)).1
  have h2 := flat_get Nt.cells4 l i hi j hj
  rw [hv, flat_nt l _ (by omega)] at h2
  injection h2 with h2
  rw [h2, Nat.zero_add] at h1
  rw [Go.Addr.add_add]
  have e : ((⟨g, 0, none⟩ : Addr).add (i * 4 + j)) = ⟨g, i * 4 + j, none⟩ := by unfold Addr.add; split <;> simp_all
  rw [e]
  exact h1
theorem below_sort {w w1 : World} {B g n : Nat} {d : Array Nt} {os : Array Obj} (h : Below B w w1) (hg : B ≤ g) (hB : B ≤ w1.heap.size) : Below B w (sortWorldK Nt.cells 4 w1 g 0 n d os) := by
  unfold sortWorldK putRowK
  refine ⟨h.os, h.tape, h.output, ?_, fun k hk => ?_⟩
  · have := h.size
    rw [size_grow, size_putRow, heap_ahead]
    omega
  · rw [heap_grow_old _ _ (by rw [size_putRow, heap_ahead]; omega)]
    rw [← h.block k hk]
    simp only [putRow, mapBlock, heap_ahead]
    rw [Array.getElem?_modify, if_neg (by omega)]

set_option maxHeartbeats 1000000 in
set_option maxRecDepth 100000 in
theorem sortstable_any {w : World} {g : Nat} {d0 : Array Nt} (hH : HoldsK Nt.cells 4 w g 0 d0) (hg : g < w.heap.size) (hmax : d0.size ≤ 1000000) (cap : Nat) :
    Calls Try.prog 75 #[.slice (some ⟨g, 0, none⟩) d0.size cap, .func (.func 76) #[] #[]] w fun e w' =>
      e = .returned (.tuple #[]) ∧ ∃ dk' : Array Nt, dk'.size = d0.size ∧ Rising dk'.toList ∧ StEq dk'.toList d0.toList ∧ SWK Nt.cells 4 w g 0 dk' w' := by
  have hc := stable_any (nctx hH hg hmax) hmax cap
  clear hH
  generalize d0.size = N at *
  go_enter Try.func75, Try.ntmps75
  go_wp2_with fail
  refine hc.mono ?_
  clear hc
  rintro e w1 ⟨rfl, dk, h1, h2, h3, h4⟩
  have H := Lib.hid (And.intro h1 (And.intro h2 (And.intro h3 h4)))
  clear h1 h2 h3 h4
  go_wp2
  go_end0
  exact ⟨rfl, dk, H.out.1, H.out.2.1, H.out.2.2.1, H.out.2.2.2⟩

set_option maxHeartbeats 1000000 in
set_option maxRecDepth 100000 in
theorem insertion_nil (A : Option Addr) (cap : Nat) (w : World) :
    Calls Try.prog 82 #[.slice A 0 cap, .int .i64 0, .int .i64 0, .func (.func 76) #[] #[]] w fun e w' => e = .returned (.tuple #[]) ∧ w' = w := by
  go_enter Try.func82, Try.ntmps82
  go_wp2
  go_loopw [8] (fun i wr => i = .int .i64 1 ∧ wr = w) (fun _ _ => 0)
  case atStart => exact ⟨rfl, rfl⟩
  case round =>
    obtain ⟨rfl, rfl⟩ := hrel
    go_wp2
    go_end0
    exact ⟨rfl, rfl⟩

set_option maxHeartbeats 1000000 in
set_option maxRecDepth 100000 in
theorem stable_nil (A : Option Addr) (cap : Nat) (w : World) :
    Calls Try.prog 79 #[.slice A 0 cap, .int .i64 0, .func (.func 76) #[] #[]] w fun e w' => e = .returned (.tuple #[]) ∧ w' = w := by
  have hc := fun w => insertion_nil A cap w
  go_enter Try.func79, Try.ntmps79
  go_wp2
  go_loopw [7, 8] (fun a b wr => a = .int .i64 0 ∧ b = .int .i64 20 ∧ wr = w) (fun _ _ _ => 0)
  case atStart => exact ⟨rfl, rfl, rfl⟩
  case round =>
    obtain ⟨rfl, rfl, rfl⟩ := hrel
    go_wp2_with fail
    refine (hc _).mono ?_
    rintro e w1 ⟨rfl, rfl⟩
    go_wp2
    go_loopw [6, 7, 8] (fun s a b wr => s = .int .i64 20 ∧ wr = w1) (fun _ _ _ _ => 0)
    case atStart => exact ⟨rfl, rfl⟩
    case round =>
      obtain ⟨rfl, rfl⟩ := hrel
      go_wp2
      go_end0
      exact ⟨rfl, rfl⟩

set_option maxHeartbeats 1000000 in
set_option maxRecDepth 100000 in
theorem sortstable_nil (A : Option Addr) (cap : Nat) (w : World) :
    Calls Try.prog 75 #[.slice A 0 cap, .func (.func 76) #[] #[]] w fun e w' => e = .returned (.tuple #[]) ∧ w' = w := by
  have hc := fun w => stable_nil A cap w
  go_enter Try.func75, Try.ntmps75
  go_wp2_with fail
  refine (hc _).mono ?_
  rintro e w1 ⟨rfl, rfl⟩
  go_wp2
  go_end0
  exact ⟨rfl, rfl⟩

theorem row_cap {w : World} {base n k c : Nat} {e : TypeId} {A : Option Addr} {xs : List Value} (h : w.ownsRow base e k (.slice A n c) n xs) : n ≤ c ∧ (A = none → c = 0) := by
  rcases h.2 with ⟨hv, h0⟩ | ⟨g, cap, cur, hv, _, _, h1, _⟩
  · injection hv with e1 e2 e3
    exact ⟨by omega, fun _ => e3⟩
  · injection hv with e1 e2 e3
    exact ⟨by omega, fun h => by rw [e1] at h; cases h⟩

set_option maxHeartbeats 1000000 in
set_option maxRecDepth 100000 in
/-- What a call of byKey comes to. -/
theorem bykey_any (A : Option Addr) (c : Nat) (l : List Nt) (w : World) (hA : Nts w w.heap.size A l) (hn : l.length ≤ 1000000) :
    Calls Try.prog 65 #[.slice A l.length c] w fun e w' => ∃ (A' : Option Addr) (c' : Nat) (s : List Nt), e = .returned (.slice A' s.length c') ∧ s.length = l.length ∧ Rising s ∧ StEq s l ∧ Nts w' w'.heap.size A' s ∧ s.length ≤ c' ∧ Below w.heap.size w w' := by
  have hcl := clone_nt A c l w hA hn
  by_cases hl : l = []
  · subst hl
    have hcon := fun p cap W => sortstable_nil p cap W
    clear hA hn
    simp only [List.length_nil, List.flatMap_nil] at hcl ⊢
    go_enter Try.func65, Try.ntmps65
    go_wp2_with fail
    refine hcl.mono ?_
    clear hcl
    rintro e w1 ⟨v1, rfl, hown, hb1⟩
    obtain ⟨A1, c1, rfl⟩ := own_shape hown
    clear hown
    go_wp2_with fail
    refine (hcon A1 c1 w1).mono ?_
    clear hcon
    rintro e w2 ⟨rfl, rfl⟩
    go_wp2
    go_ret
    exact ⟨A1, c1, [], rfl, rfl, .nil, StEq.rfl' _, Lies.nil, Nat.zero_le _, hb1⟩
  · have hpos : 0 < l.length := List.length_pos_iff.2 hl
    have hcon := fun g cap W (hH : HoldsK Nt.cells 4 W g 0 l.toArray) (hblk : g < W.heap.size) => sortstable_any hH hblk (by simpa using hn) cap
    rw [List.size_toArray] at hcon
    generalize hs : l.length = n at *
    have HS := Lib.hid hs
    clear hA hs hl
    go_enter Try.func65, Try.ntmps65
    go_wp2_with fail
    refine hcl.mono ?_
    clear hcl
    rintro e w1 ⟨v1, rfl, hown, hb1⟩
    obtain ⟨g, cap, rfl⟩ := Joins.ownsRow_form hown hpos
    have hge := (hown.lt g rfl)
    have HCAP := Lib.hid (row_cap hown).1
    have hH : HoldsK Nt.cells 4 w1 g 0 l.toArray := holdsN (by rw [HS.out]; exact hown)
    have hc := hcon g cap w1 hH hge.2
    have HH := Lib.hid hH
    clear hcon hown hH
    go_wp2_with fail
    refine hc.mono ?_
    clear hc
    rintro e w2 ⟨rfl, d, hd, hr, hst, hw⟩
    have HK : HoldsK Nt.cells 4 w2 g 0 d := hw.holds hge.2 HH.out (by rw [hd]; simpa using HS.out.symm)
    have hgl : g < w2.heap.size := hw.lt hge.2
    have hb2 : Below w.heap.size w w2 := by
      obtain ⟨k, os, hw⟩ := hw
      rw [hw]
      exact below_sort hb1 hge.1 hb1.size
    have HR := Lib.hid (show ∃ s : List Nt, s.length = n ∧ Rising s ∧ StEq s l ∧ Nts w2 w2.heap.size (some ⟨g, 0, none⟩) s from
      ⟨d.toList, by simpa using hd, hr, by simpa using hst, liesN (by simpa using HK) hgl⟩)
    clear hst hr HK hw hge hb1 HH hd
    go_wp2
    go_ret
    obtain ⟨s, h1, h2, h3, h4⟩ := HR.out
    exact ⟨some ⟨g, 0, none⟩, cap, s, by rw [h1]; rfl, h1, h2, h3, h4, by rw [h1]; exact HCAP.out, hb2⟩

end Go.Proofs.Ytgpjbajfkagdbaa
