/- The library's stable sort at notes, whole; notes by their keys. -/
import Derived.Test.YtggfegogjmckcaaSy
import Derived.Test.YtggfegogjmckcaaLay
import Derived.Test.YtggfegogjmckcaaShelf
import Derived.Test.YtggfegogjmckcaaNts
import Derived.Test.YtggfegogjmckcaaPrs
import Derived.Lib.BitFns
namespace Go.Proofs.Ytggfegogjmckcaa
open Go.Shelf Go.RowKit Go.Lib Go.Sort

/-! Comparing texts. -/
def cmpS (a b : ByteArray) : Int := Lib.compareBytes a.data.toList b.data.toList
theorem compare_lists : ∀ x y : List UInt8, Lib.compareBytes x y = if Op.bytesLess x y then -1 else if Op.bytesLess y x then 1 else 0
  | [], [] => rfl
  | [], _ :: _ => rfl
  | _ :: _, [] => rfl
  | a :: x, b :: y => by
    simp only [Lib.compareBytes, Op.bytesLess, compare_lists x y]
    by_cases h1 : a < b
    · simp [h1]
    · by_cases h2 : b < a
      · have h3 : (a == b) = false := by
          rw [beq_eq_false_iff_ne]
          rintro rfl
          exact h1 h2
        simp [h1, h2, h3]
      · have h3 : a = b := UInt8.le_antisymm (UInt8.not_lt.1 h2) (UInt8.not_lt.1 h1)
        subst h3
        simp [h1]
theorem cmpS_eq' (a b : ByteArray) : cmpS a b = if a < b then -1 else if b < a then 1 else 0 := by
  unfold cmpS
  rw [compare_lists, ← Lib.toList_data, ← Lib.toList_data]
  show (if ltS a b = true then (-1 : Int) else if ltS b a = true then 1 else 0) = _
  rfl
theorem cmpS_lt (a b : ByteArray) : cmpS a b < 0 ↔ a < b := by
  rw [cmpS_eq']
  by_cases h : a < b
  · simp [h]
  · by_cases h2 : b < a <;> simp [h, h2]
theorem cmpS_zero (a b : ByteArray) : cmpS a b = 0 ↔ a = b := by
  rw [cmpS_eq']
  by_cases h : a < b
  · simp [h]; intro e; subst e; grind
  · by_cases h2 : b < a
    · simp [h, h2]; intro e; subst e; grind
    · simp [h, h2]; grind

/-! The sort's own comparison. -/
abbrev cmpN (x y : Nt) : Int := cmpS x.key y.key
theorem ltN : ltOf cmpN = lessN := by
  funext x y
  unfold ltOf
  exact decide_eq_decide.2 (cmpS_lt _ _)

set_option maxHeartbeats 1000000 in
theorem closureN (x y : Nt) (W : World) : Calls Try.prog 36 #[.agg #[.int .i64 x.kind, .string x.key, .string x.value, .int .u64 (x.n.toNat : Int)], .agg #[.int .i64 y.kind, .string y.key, .string y.value, .int .u64 (y.n.toNat : Int)]] W fun e w' => e = .returned (.int .i64 (cmpN x y)) ∧ ∃ q os', w' = grow (W.drewN q) os' := by
  have hcon := fun W' => Try.strings_Compare x.key y.key W'
  change ∀ W', Calls Try.prog 37 _ _ (fun e w' => e = .returned (.int .i64 (cmpN x y)) ∧ w' = W') at hcon
  generalize cmpN x y = r at hcon ⊢
  go_enter Try.func36, Try.ntmps36
  go_wp2_with (go_at_call 37; refine (hcon _).mono ?_; rintro e w' ⟨rfl, rfl⟩)
  go_ret
  exact ⟨rfl, 0, _, by rw [alloc_eq_grow, alloc_eq_grow, grow_grow]; rfl⟩
theorem cmpLaysN (blk off size : Nat) (w : World) : CmpLays Try.prog 36 #[] Nt.cells 4 cmpN blk off size w := fun _ _ _ _ x y => closureN x y _

theorem lk : Lk Try.prog 4 where
  mixed := by kernel_rfl
  f57 := Try.func57
  f56 := Try.func56
  f50 := Try.func50
  t0 := Try.underlying0
  a0 := Try.isAgg0
  z0 := Try.sizeOf0
  v0 := Try.zeroValue0
  t3 := Try.underlying3
  a3 := Try.isAgg3
  z3 := Try.sizeOf3
  v3 := Try.zeroValue3
  t4 := Try.underlying4
  a4 := Try.isAgg4
  z4 := Try.sizeOf4
  v4 := Try.zeroValue4
  t23 := Try.underlying23
  a23 := Try.isAgg23
  z23 := Try.sizeOf23
  v23 := Try.zeroValue23
  a46 := Try.isAgg46
  z46 := Try.sizeOf46
  t62 := Try.underlying62
  a62 := Try.isAgg62
  z62 := Try.sizeOf62
  v62 := Try.zeroValue62
  t71 := Try.underlying71
  a71 := Try.isAgg71
  z71 := Try.sizeOf71
  v71 := Try.zeroValue71

theorem egN : ∀ args w, (callFunc 36 args).run Try.prog w = .ok (.enter 36 args) w := enters_of Try.func36 (by kernel_rfl) rfl
theorem cells_one (x : Nt) : ∀ v ∈ x.cells, v.oneCell' = true := by
  intro v hv
  unfold Nt.cells at hv
  simp at hv
  rcases hv with rfl | rfl | rfl | rfl <;> rfl
abbrev NCtx (w0 : World) (blk off : Nat) (d0 : Array Nt) : Prop := SCtx Try.prog 4 Nt.cells w0 blk off d0 36 #[] cmpN
theorem nctx {w0 : World} {blk off : Nat} {d0 : Array Nt} (hH : HoldsK Nt.cells 4 w0 blk off d0) (hb : blk < w0.heap.size) (hN : d0.size ≤ 1000000) : NCtx w0 blk off d0 where
  L := lk
  R := ⟨fun _ => rfl, fun x => cells_one x, hH, hb⟩
  hN := by omega
  eg := egN
  hcmp := cmpLaysN _ _ _ _
  hcf := fun x y => cmpS_lt _ _

theorem insertion_any {w0 : World} {blk off : Nat} {d0 : Array Nt} (C : NCtx w0 blk off d0) (cap a b : Nat) (x s y : List Nt) (dk : Array Nt) (W : World) (h : SWK Nt.cells 4 w0 blk off dk W) (hd : dk.toList = x ++ s ++ y)
    (ha : x.length = a) (hb : x.length + s.length = b) (hs : dk.size = d0.size) :
    Calls Try.prog 49 #[.slice (some ⟨blk, off, none⟩) d0.size cap, .int .i64 a, .int .i64 b, .func (.func 36) #[] #[]] W fun e w' =>
      e = .returned (.tuple #[]) ∧ ∃ (dk' : Array Nt) (s' : List Nt), dk'.toList = x ++ s' ++ y ∧ s'.length = s.length ∧ Rising s' ∧ StEq s' s ∧ dk'.size = d0.size ∧ SWK Nt.cells 4 w0 blk off dk' w' := by
  have hsz : d0.size = x.length + s.length + y.length := by have h1 := congrArg List.length hd; simp at h1; omega
  have hcon := AnyQ.insertionSortCmpFunc Try.insX 4 Try.isAgg46 Try.sizeOf46 Nt.cells (fun _ => rfl) (fun x => cells_one x) cmpN 36 #[] blk off cap a b dk W egN (cmpLaysN _ _ _ _) (h.holds C.R.hblk C.R.hH hs) (h.lt C.R.hblk) (by omega) (by omega) (by have := C.hN; omega)
  change Calls Try.prog 49 _ _ _ at hcon
  rw [hs] at hcon
  refine hcon.mono ?_
  rintro e w' ⟨rfl, n, os, rfl⟩
  rw [ltN]
  obtain ⟨s', h1, h2, h3, h4⟩ := insertion_list hd ha hb
  have h5 : (insertionSort lessN dk a b).size = dk.size := by
    have e1 := congrArg List.length h1
    have e2 := congrArg List.length hd
    simp at e1 e2
    omega
  exact ⟨rfl, _, s', h1, h2, h3, h4, h5.trans hs, h.on C.R.hblk n _ os h5⟩

end Go.Proofs.Ytggfegogjmckcaa
