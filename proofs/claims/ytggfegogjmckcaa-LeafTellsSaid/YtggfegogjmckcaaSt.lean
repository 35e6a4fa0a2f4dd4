/- The library's stable sort at notes: exchanging two stretches, and turning two that stand side by side, over any program that bears the library's texts. -/
import Derived.Test.YtggfegogjmckcaaSp
import Derived.Test.YtggfegogjmckcaaProg
import Derived.Shelf.SlSortCmp.KitK
import Derived.Lib.Hide
import Derived.Below
namespace Go.Proofs.Ytggfegogjmckcaa
open Go.Shelf Go.RowKit Go.Lib Go.Sort

/-- What a program bears, and what its types are. -/
structure Lk (P : Program) (k : Nat) : Prop where
  mixed : P.follows .mixedOrders = true
  f57 : P.funcs[57]? = some Try.f57
  f56 : P.funcs[56]? = some Try.f56
  f50 : P.funcs[50]? = some Try.f50
  t0 : P.underlying 0 = some (TypeDesc.tuple #[])
  a0 : ∀ w, (isAgg 0).run P w = .ok false w
  z0 : ∀ w, (Go.sizeOf 0).run P w = .ok 1 w
  v0 : ∀ w, (zeroValue 0).run P w = .ok (Value.tuple #[]) w
  t3 : P.underlying 3 = some (TypeDesc.int IntKind.i64)
  a3 : ∀ w, (isAgg 3).run P w = .ok false w
  z3 : ∀ w, (Go.sizeOf 3).run P w = .ok 1 w
  v3 : ∀ w, (zeroValue 3).run P w = .ok (Value.int IntKind.i64 0) w
  t4 : P.underlying 4 = some (TypeDesc.bool)
  a4 : ∀ w, (isAgg 4).run P w = .ok false w
  z4 : ∀ w, (Go.sizeOf 4).run P w = .ok 1 w
  v4 : ∀ w, (zeroValue 4).run P w = .ok (Value.bool false) w
  t23 : P.underlying 23 = some (TypeDesc.slice 46)
  a23 : ∀ w, (isAgg 23).run P w = .ok false w
  z23 : ∀ w, (Go.sizeOf 23).run P w = .ok 1 w
  v23 : ∀ w, (zeroValue 23).run P w = .ok (Value.slice none 0 0) w
  a46 : ∀ w, (isAgg 46).run P w = .ok true w
  z46 : ∀ w, (Go.sizeOf 46).run P w = .ok k w
  t62 : P.underlying 62 = some (TypeDesc.func #[46, 46] #[3] false)
  a62 : ∀ w, (isAgg 62).run P w = .ok false w
  z62 : ∀ w, (Go.sizeOf 62).run P w = .ok 1 w
  v62 : ∀ w, (zeroValue 62).run P w = .ok (Value.nilFunc) w
  t71 : P.underlying 71 = some (TypeDesc.int IntKind.u64)
  a71 : ∀ w, (isAgg 71).run P w = .ok false w
  z71 : ∀ w, (Go.sizeOf 71).run P w = .ok 1 w
  v71 : ∀ w, (zeroValue 71).run P w = .ok (Value.int IntKind.u64 0) w

/-- What the sort is told, once. -/
structure SCtx (P : Program) (k : Nat) (enc : Nt → List Value) (w0 : World) (blk off : Nat) (d0 : Array Nt) (g : Nat) (cb : Array Value) (cf : Nt → Nt → Int) : Prop where
  L : Lk P k
  R : RowK enc k w0 blk off d0
  hN : d0.size < 1152921504606846976
  eg : ∀ args w, (callFunc g args).run P w = .ok (.enter g args) w
  hcmp : CmpLays P g cb enc k cf blk off d0.size w0
  hcf : ∀ x y, cf x y < 0 ↔ x.key < y.key

variable {P : Program} {k : Nat} {enc : Nt → List Value} {w0 : World} {blk off : Nat} {d0 : Array Nt} {g : Nat} {cb : Array Value} {cf : Nt → Nt → Int}

set_option maxHeartbeats 4000000 in
set_option maxRecDepth 1000000 in
theorem swapRange_any (C : SCtx P k enc w0 blk off d0 g cb cf) (cap a b n : Nat) (x p q r y : List Nt) (dk : Array Nt) (W : World) (h : SWK enc k w0 blk off dk W) (hd : dk.toList = x ++ p ++ q ++ r ++ y)
    (ha : x.length = a) (hb : x.length + p.length + q.length = b) (hp : p.length = n) (hr : r.length = n) (hs : dk.size = d0.size) :
    Calls P 57 #[.slice (some ⟨blk, off, none⟩) d0.size cap, .int .i64 a, .int .i64 b, .int .i64 n, .func (.func g) #[] cb] W fun e w' => e = .returned (.tuple #[]) ∧ ∃ dk' : Array Nt, dk'.toList = x ++ r ++ q ++ p ++ y ∧ dk'.size = d0.size ∧ SWK enc k w0 blk off dk' w' := by
  have mixed := C.L.mixed; have t0 := C.L.t0; have a0 := C.L.a0; have z0 := C.L.z0; have v0 := C.L.v0; have t3 := C.L.t3; have a3 := C.L.a3; have z3 := C.L.z3; have v3 := C.L.v3; have t4 := C.L.t4; have a4 := C.L.a4; have z4 := C.L.z4; have v4 := C.L.v4
  have t23 := C.L.t23; have a23 := C.L.a23; have z23 := C.L.z23; have v23 := C.L.v23; have a46 := C.L.a46; have z46 := C.L.z46; have t62 := C.L.t62; have a62 := C.L.a62; have z62 := C.L.z62; have v62 := C.L.v62
  have u23 := run_underlying C.L.t23
  have F := C.L.f57
  have hsz : x.length + p.length + q.length + r.length + y.length = d0.size := by have h1 := congrArg List.length hd; simp at h1; omega
  have hN := C.hN
  have HC := Lib.hid C
  generalize hNe : d0.size = N at *
  have HD := Lib.hid hd
  have HS := Lib.hid h
  have HNE := Lib.hid hNe
  have HZ := Lib.hid hs
  clear C h hd hNe hs
  go_enter F, Try.ntmps57
  go_wp2
  go_loopw [10] (fun iv wr => ∃ (i : Nat) (dj : Array Nt), iv = .int .i64 i ∧ i ≤ n ∧ Hid (dj.toList = x ++ (r.take i ++ p.drop i) ++ q ++ (p.take i ++ r.drop i) ++ y) ∧ Hid (dj.size = N) ∧ Hid (SWK enc k w0 blk off dj wr)) (fun iv _ => (n - intOf iv).toNat)
  case atStart => exact ⟨0, dk, rfl, by omega, by show _ = _; rw [HD.out]; simp, HZ.out, HS.out⟩
  case round =>
    obtain ⟨i, dj, rfl, hi, HL, HJ, HW⟩ := hrel
    by_cases hlt : i < n
    · obtain ⟨s, hse⟩ : ∃ s, s = a + i := ⟨_, rfl⟩
      obtain ⟨t, hte⟩ : ∃ t, t = b + i := ⟨_, rfl⟩
      have ws : IntKind.i64.wrap ((a : Int) + (i : Int)) = (s : Int) := by rw [IntKind.wrap_i64]; omega
      have wt : IntKind.i64.wrap ((b : Int) + (i : Int)) = (t : Int) := by rw [IntKind.wrap_i64]; omega
      have s1 : (s : Int) < (N : Int) := by omega
      have t1 : (t : Int) < (N : Int) := by omega
      have e1 : dj.toList = (x ++ r.take i) ++ p[i]'(by omega) :: ((p.drop (i + 1) ++ q ++ p.take i) ++ r[i]'(by omega) :: (r.drop (i + 1) ++ y)) := by
        rw [HL.out, take_drop1 p i (by omega), take_drop1 r i (by omega)]
        simp only [List.append_assoc, List.cons_append, List.nil_append]
      have hsl : (x ++ r.take i).length = s := by simp; omega
      have htl : (x ++ r.take i).length + 1 + (p.drop (i + 1) ++ q ++ p.take i).length = t := by simp; omega
      have hsw := swp_list e1 hsl htl
      have hsd : s < dj.size := by rw [HJ.out]; omega
      have htd : t < dj.size := by rw [HJ.out]; omega
      have hjd : dj.size = d0.size := by rw [HJ.out, HNE.out]
      have lt1 := HW.out.ld1 HC.out.R hjd P t htd
      have ls1 := HW.out.ld1 HC.out.R hjd P s hsd
      have st1 := HW.out.st1 HC.out.R hjd P s hsd dj[t]!
      have st2 := HW.out.st2 HC.out.R hjd P s t hsd htd dj[t]! dj[s]!
      have hend := Lib.hid (HW.out.swapped HC.out.R s t hsd htd)
      have hkS : (enc dj[s]!).length = k := HC.out.R.hk _
      have hkT : (enc dj[t]!).length = k := HC.out.R.hk _
      have HN2 := Lib.hid (show (swp dj s t).toList = x ++ (r.take (i + 1) ++ p.drop (i + 1)) ++ q ++ (p.take (i + 1) ++ r.drop (i + 1)) ++ y by
        rw [hsw, take_snoc1 p i (by omega), take_snoc1 r i (by omega)]; simp only [List.append_assoc, List.cons_append, List.nil_append])
      have HSZ := Lib.hid (show (swp dj s t).size = N by rw [size_swp]; exact HJ.out)
      generalize enc dj[s]! = cS at *
      generalize enc dj[t]! = cT at *
      generalize swp dj s t = dn at *
      have HSE := Lib.hid hse
      have HTE := Lib.hid hte
      clear e1 hsw hsd htd hjd hsl htl hse hte
      go_wp2_with fail
      go_big_region_o
      all_goals go_wp2
      go_roundw
      case rel => exact ⟨i + 1, dn, by go_num, by omega, HN2, HSZ, hend⟩
      case measure => simp [intOf]; omega
    · have hin : i = n := by omega
      have HE := Lib.hid (show dj.toList = x ++ r ++ q ++ p ++ y by
        rw [HL.out, hin, List.take_of_length_le (by omega), List.drop_eq_nil_of_le (by omega), List.take_of_length_le (by omega), List.drop_eq_nil_of_le (by omega)]; simp [List.append_assoc])
      clear hin
      go_wp2
      go_end0
      exact ⟨rfl, dj, HE.out, HJ.out, HW.out⟩

set_option maxHeartbeats 4000000 in
set_option maxRecDepth 1000000 in
theorem rotate_any (C : SCtx P k enc w0 blk off d0 g cb cf) (cap a m b : Nat) (x u v y : List Nt) (dk : Array Nt) (W : World) (h : SWK enc k w0 blk off dk W) (hd : dk.toList = x ++ u ++ v ++ y)
    (ha : x.length = a) (hm : x.length + u.length = m) (hb : x.length + u.length + v.length = b) (hu : 0 < u.length) (hv : 0 < v.length) (hs : dk.size = d0.size) :
    Calls P 56 #[.slice (some ⟨blk, off, none⟩) d0.size cap, .int .i64 a, .int .i64 m, .int .i64 b, .func (.func g) #[] cb] W fun e w' => e = .returned (.tuple #[]) ∧ ∃ dk' : Array Nt, dk'.toList = x ++ v ++ u ++ y ∧ dk'.size = d0.size ∧ SWK enc k w0 blk off dk' w' := by
  have mixed := C.L.mixed; have t0 := C.L.t0; have a0 := C.L.a0; have z0 := C.L.z0; have v0 := C.L.v0; have t3 := C.L.t3; have a3 := C.L.a3; have z3 := C.L.z3; have v3 := C.L.v3; have t4 := C.L.t4; have a4 := C.L.a4; have z4 := C.L.z4; have v4 := C.L.v4
  have t23 := C.L.t23; have a23 := C.L.a23; have z23 := C.L.z23; have v23 := C.L.v23; have t62 := C.L.t62; have a62 := C.L.a62; have z62 := C.L.z62; have v62 := C.L.v62
  have e57 : ∀ args w, (callFunc 57 args).run P w = .ok (.enter 57 args) w := enters_of C.L.f57 (by kernel_rfl) rfl
  have F := C.L.f56
  have hsz : x.length + u.length + v.length + y.length = d0.size := by have h1 := congrArg List.length hd; simp at h1; omega
  have hN := C.hN
  have hsr := fun (a b n : Nat) (x p q r y : List Nt) (dk : Array Nt) (W : World) h hd ha hb hp hr hs => swapRange_any C cap a b n x p q r y dk W h hd ha hb hp hr hs
  have HSR := Lib.hid hsr
  have HD := Lib.hid hd
  have HS := Lib.hid h
  have HZ := Lib.hid hs
  clear C h hd hs hsr
  generalize d0.size = N at *
  go_enter F, Try.ntmps56
  go_wp2
  go_loopw [10, 11] (fun iv jv wr => ∃ (i j : Nat) (dj : Array Nt) (x' u' v' y' : List Nt), iv = .int .i64 i ∧ jv = .int .i64 j ∧ u'.length = i ∧ v'.length = j ∧ 0 < i ∧ 0 < j ∧ x'.length + i = m ∧ x'.length + i + j + y'.length = N ∧ Hid (dj.toList = x' ++ u' ++ v' ++ y') ∧ Hid (x' ++ v' ++ u' ++ y' = x ++ v ++ u ++ y) ∧ Hid (dj.size = N) ∧ Hid (SWK enc k w0 blk off dj wr)) (fun iv jv _ => (intOf iv + intOf jv).toNat)
  case atStart => exact ⟨u.length, v.length, dk, x, u, v, y, by first | rfl | go_num | (congr 1; omega), by first | rfl | go_num | (congr 1; omega), rfl, rfl, hu, hv, hm, by omega, HD.out, rfl, HZ.out, HS.out⟩
  case round =>
    obtain ⟨i, j, dj, x', u', v', y', rfl, rfl, hui, hvj, hi, hj, hxm, hxN, HL, HF, HJ, HW⟩ := hrel
    by_cases hij : i = j
    · have hne : ((i : Int) != (j : Int)) = false := by simp; omega
      have hc := HSR.out (m - i) m i x' u' [] v' y' dj _ HW.out (by rw [HL.out]; simp) (by omega) (by simp; omega) hui (by omega) HJ.out
      have wm : IntKind.i64.wrap ((m : Int) - (i : Int)) = ((m - i : Nat) : Int) := by rw [IntKind.wrap_i64]; omega
      obtain ⟨s, hse⟩ : ∃ s, s = m - i := ⟨_, rfl⟩
      rw [← hse] at hc wm
      have HSE := Lib.hid hse
      clear hse hij
      go_wp2_with fail
      refine hc.mono ?_
      rintro e w1 ⟨rfl, dn, hl, hz, hS⟩
      go_wp2
      go_end0
      exact ⟨rfl, dn, by rw [hl]; simpa using HF.out, hz, hS⟩
    · have hne : ((i : Int) != (j : Int)) = true := by simp; omega
      by_cases hgt : j < i
      · have hc := HSR.out (m - i) m j x' (u'.take j) (u'.drop j) v' y' dj _ HW.out (by rw [HL.out]; simp [List.append_assoc]) (by omega) (by simp; omega) (by simp; omega) (by omega) HJ.out
        have wm : IntKind.i64.wrap ((m : Int) - (i : Int)) = ((m - i : Nat) : Int) := by rw [IntKind.wrap_i64]; omega
        have wi : IntKind.i64.wrap ((i : Int) - (j : Int)) = ((i - j : Nat) : Int) := by rw [IntKind.wrap_i64]; omega
        obtain ⟨s, hse⟩ : ∃ s, s = m - i := ⟨_, rfl⟩
        obtain ⟨r, hre⟩ : ∃ r, r = i - j := ⟨_, rfl⟩
        rw [← hse] at hc wm
        rw [← hre] at wi
        have HSE := Lib.hid hse
        have HRE := Lib.hid hre
        clear hse hre hij
        go_wp2_with fail
        refine hc.mono ?_
        rintro e w1 ⟨rfl, dn, hl, hz, hS⟩
        have HL1 := Lib.hid hl
        have HZ1 := Lib.hid hz
        have HS1 := Lib.hid hS
        clear hl hz hS hc
        go_wp2
        go_roundw
        case rel => exact ⟨r, j, dn, x' ++ v', u'.drop j, u'.take j, y', by first | rfl | go_num | (congr 1; omega), rfl, by simp; have := HRE.out; omega, by simp; omega, by have := HRE.out; omega, hj, by simp; have := HRE.out; omega, by simp; have := HRE.out; omega, HL1.out, by show _ = _; rw [← HF.out]; simp [List.append_assoc], HZ1.out, HS1.out⟩
        case measure => have := HRE.out; simp [intOf]; omega
      · have hlt : i < j := by omega
        have hc := HSR.out (m - i) (m + j - i) i x' u' (v'.take (j - i)) (v'.drop (j - i)) y' dj _ HW.out (by rw [HL.out]; simp [List.append_assoc]) (by omega) (by simp; omega) hui (by simp; omega) HJ.out
        have wm : IntKind.i64.wrap ((m : Int) - (i : Int)) = ((m - i : Nat) : Int) := by rw [IntKind.wrap_i64]; omega
        have wj : IntKind.i64.wrap ((j : Int) - (i : Int)) = ((j - i : Nat) : Int) := by rw [IntKind.wrap_i64]; omega
        have w1' : IntKind.i64.wrap ((m : Int) + (j : Int)) = ((m + j : Nat) : Int) := by rw [IntKind.wrap_i64]; omega
        have w2' : IntKind.i64.wrap (((m + j : Nat) : Int) - (i : Int)) = ((m + j - i : Nat) : Int) := by rw [IntKind.wrap_i64]; omega
        obtain ⟨s, hse⟩ : ∃ s, s = m - i := ⟨_, rfl⟩
        obtain ⟨r, hre⟩ : ∃ r, r = j - i := ⟨_, rfl⟩
        obtain ⟨t, hte⟩ : ∃ t, t = m + j - i := ⟨_, rfl⟩
        obtain ⟨q, hqe⟩ : ∃ q, q = m + j := ⟨_, rfl⟩
        rw [← hse] at hc wm
        rw [← hre] at wj
        rw [← hte] at hc w2'
        rw [← hqe] at w1' w2'
        have HSE := Lib.hid hse
        have HRE := Lib.hid hre
        have HTE := Lib.hid hte
        have HQE := Lib.hid hqe
        clear hse hre hij hte hqe
        go_wp2_with fail
        refine hc.mono ?_
        rintro e w1 ⟨rfl, dn, hl, hz, hS⟩
        have HL1 := Lib.hid hl
        have HZ1 := Lib.hid hz
        have HS1 := Lib.hid hS
        clear hl hz hS hc
        go_wp2
        go_roundw
        case rel => exact ⟨i, r, dn, x', v'.drop (j - i), v'.take (j - i), u' ++ y', rfl, by first | rfl | go_num | (congr 1; omega), by simp; omega, by simp; have := HRE.out; omega, hi, by have := HRE.out; omega, hxm, by simp; have := HRE.out; omega, by show _ = _; rw [HL1.out]; simp [List.append_assoc], by show _ = _; rw [← HF.out]; simp [List.append_assoc], HZ1.out, HS1.out⟩
        case measure => have := HRE.out; simp [intOf]; omega

/-- What a merge hands back. -/
def MPost (enc : Nt → List Value) (k : Nat) (w0 : World) (blk off : Nat) (d0 : Array Nt) (x u v y : List Nt) (e : Ending) (w' : World) : Prop :=
  e = .returned (.tuple #[]) ∧ ∃ (dk' : Array Nt) (s : List Nt), dk'.toList = x ++ s ++ y ∧ Merged s u v ∧ dk'.size = d0.size ∧ SWK enc k w0 blk off dk' w'

end Go.Proofs.Ytggfegogjmckcaa
