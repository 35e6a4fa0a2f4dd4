/- What a sector tells, by the document: plain facts; the walk of the document's Read of layer 6, of one sector. -/
import Derived.Test.YthcolmdfpciolaaRBlock
import Derived.Test.YthcolmdfpciolaaRt
import Derived.BigQuiet
import Derived.Deep.QuietTactic
namespace Go.Proofs.Ythcolmdfpciolaa
open Go.RowKit

theorem sum_parts {s : List UInt8} {n : Nat} (hl : s.length = 32 * n) (hf : formB s n = true) :
    sumB s = (((s.drop 7).drop (sizeOf4 s)).all (· == 0) && decide (sumT (textOf s) = val ((s.drop 4).take 3))) := by
  obtain ⟨z, hz⟩ : ∃ z, z = sizeOf4 s := ⟨_, rfl⟩
  obtain ⟨t, ht⟩ : ∃ t, t = textOf s := ⟨_, rfl⟩
  unfold formB at hf
  simp only [Bool.and_eq_true, decide_eq_true_eq] at hf
  obtain ⟨h4, h6, hnd⟩ := hf
  rw [← hz] at h6 hnd
  have hroom := need_room z
  rw [hnd] at hroom
  have htl : t.length = z := by rw [ht]; unfold textOf; rw [List.length_take, List.length_drop, ← hz]; omega
  have e0 : padL (bytesL t) = be 4 z ++ (be 3 (sumT t) ++ (t ++ List.replicate (32 * n - (z + 7)) 0)) := by
    unfold padL
    rw [bytes_len, htl, show secN (z + 7) = n from hnd]
    unfold bytesL
    rw [htl, List.append_assoc, List.append_assoc]
  have e4 : s.take 4 = be 4 z := by
    have h := be_val (s.take 4)
    rw [List.length_take, show min 4 s.length = 4 by omega] at h
    rw [hz]
    exact h.symm
  have e1 : s = be 4 z ++ ((s.drop 4).take 3 ++ (t ++ (s.drop 7).drop z)) := by
    have a1 : s = s.take 4 ++ s.drop 4 := (List.take_append_drop 4 s).symm
    have a2 : s.drop 4 = (s.drop 4).take 3 ++ s.drop 7 := by
      have h := (List.take_append_drop 3 (s.drop 4)).symm
      rwa [List.drop_drop] at h
    have a3 : s.drop 7 = t ++ (s.drop 7).drop z := by
      rw [ht]
      unfold textOf
      rw [← hz]
      exact (List.take_append_drop z _).symm
    conv => lhs; rw [a1, a2, a3, e4]
  unfold sumB
  rw [← hz, ← ht, e0]
  have hm3 : ((s.drop 4).take 3).length = 3 := by rw [List.length_take, List.length_drop]; omega
  have hrl : ((s.drop 7).drop z).length = 32 * n - (z + 7) := by rw [List.length_drop, List.length_drop]; omega
  generalize (s.drop 4).take 3 = m3 at *
  generalize (s.drop 7).drop z = rest at *
  apply Bool.eq_iff_iff.2
  simp only [decide_eq_true_eq, Bool.and_eq_true, List.all_eq_true, beq_iff_eq]
  constructor
  · intro h
    rw [e1] at h
    have h1 := List.append_cancel_left h
    obtain ⟨h2, h3⟩ := List.append_inj h1 (by rw [be_length, hm3])
    have h5 := List.append_cancel_left h3
    refine ⟨fun x hx => ?_, ?_⟩
    · rw [← h5] at hx
      exact (List.mem_replicate.1 hx).2
    · have h7 := congrArg val h2
      rw [val_be, Nat.mod_eq_of_lt (sumT_lt t)] at h7
      exact h7
  · intro ⟨h1, h2⟩
    rw [e1]
    congr 1
    have h3 : be 3 (sumT t) = m3 := by rw [h2, ← hm3, be_val]
    rw [h3]
    congr 2
    exact (List.eq_replicate_iff.2 ⟨hrl, h1⟩).symm

/-- What each slot of the line holds that holds the sum. -/
def RdV (s h4 u tz ht : ByteArray) (z sm q : Nat) (bb : Bool) (t : Nat) (v : Value) (w : World) : Prop :=
  match t with
  | 64 => v = .string s
  | 65 => v = .string h4
  | 66 => v = .string u
  | 67 => v = .int .u64 z
  | 68 => v = .string tz
  | 69 => v = .string ht
  | 70 => v = .int .u32 sm
  | 71 => v = .int .u64 sm
  | 72 => v = .int .u64 q
  | 73 => v = .bool bb
  | _ => True
theorem RdV.on {s h4 u tz ht : ByteArray} {z sm q : Nat} {bb : Bool} {t : Nat} {v : Value} {w w' : World} (h : RdV s h4 u tz ht z sm q bb t v w) (_ : Below w.heap.size w w') : RdV s h4 u tz ht z sm q bb t v w' := h

set_option maxHeartbeats 4000000 in
set_option maxRecDepth 100000 in
theorem dread6_in (v : Value) {S : List ByteArray} {W : List Wr} {b : Nat} {w : World} (h : DV w v S W) (hm : W.length ≤ 1000000) (hR : rightB S W = true) (hb : b + 1 ≤ S.length) :
    Calls Try.prog 30 #[v, .int .i64 b, .int .i64 1] w fun e w' => e = .returned (.tuple #[.string ⟨(tellT (readS S W b 1).data.toList 1).toArray⟩, .int .i64 (tellE (readS S W b 1).data.toList 1)]) ∧ Below w.heap.size w w' := by
  obtain ⟨A, c, B, d, rfl, hA, hB⟩ := h
  have hb0 : Below w.heap.size w (w.alloc (.cells #[.slice A S.length c, .slice B W.length d] 30)) := (Below.refl _ _).alloc (Nat.le_refl _) _
  have hrd := dread_ok A c S B d W b 1 _ (hA.on hb0) (Lies.on hB hb0) hm hR hb
  rw [show cutS S W b 1 = readS S W b 1 from rfl] at hrd
  have hsz := read_size hR hb
  have HB0 := Lib.hid hb0
  obtain ⟨s, hs⟩ : ∃ s, s = readS S W b 1 := ⟨_, rfl⟩
  rw [← hs] at hrd hsz ⊢
  generalize S.length = n at *
  generalize W.length = m at *
  clear hA hB hb0 hs hR
  have hsl : s.data.toList.length = 32 * 1 := by simpa using hsz
  have HTK := Lib.hid (fun wx => dtake_ok s 4 wx (by omega) (by omega) (by omega))
  have hz : val (s.data.toList.take 4) = sizeOf4 s.data.toList := rfl
  rw [hz] at HTK
  have hzl : sizeOf4 s.data.toList < 4294967296 := num4_lt s.data.toList 0
  have hfz : formB s.data.toList 1 = (decide (sizeOf4 s.data.toList ≤ 65535) && decide (needN (sizeOf4 s.data.toList) = 1)) := by
    unfold formB
    rw [decide_eq_true (by omega : 4 ≤ s.data.toList.length)]
    rfl
  have HP := Lib.hid (fun hf => sum_parts (n := 1) hsl hf)
  obtain ⟨z, hzz⟩ : ∃ z, z = sizeOf4 s.data.toList := ⟨_, rfl⟩
  rw [← hzz] at HTK hzl hfz HP
  have HZ := Lib.hid hzz
  have hr4 : (s.extract 4 s.size).size = 28 := by rw [ByteArray.size_extract]; omega
  have HTK2 := Lib.hid (fun wx => dtake_ok (s.extract 4 s.size) 3 wx (by omega) (by omega) (by omega))
  have hx7 : (s.extract 4 s.size).extract 3 (s.extract 4 s.size).size = s.extract 7 32 := by
    apply ByteArray.ext
    apply Array.toList_inj.1
    rw [Lib.extract_data, Lib.extract_data, Lib.extract_data, hr4, hsz, List.drop_take, List.drop_drop, List.take_take]
    rfl
  have hm3 : (s.extract 4 s.size).data.toList.take 3 = (s.data.toList.drop 4).take 3 := by
    rw [Lib.extract_data, List.take_take, hsz]
    rfl
  rw [hx7, hm3] at HTK2
  have hq24 : val ((s.data.toList.drop 4).take 3) < 16777216 := by
    refine Nat.lt_of_lt_of_le (val_lt _) ?_
    rw [List.length_take]
    exact Nat.le_trans (Nat.pow_le_pow_right (by decide) (Nat.min_le_left 3 _)) (by decide)
  obtain ⟨u, hu⟩ : ∃ u, u = s.extract 7 32 := ⟨_, rfl⟩
  have hus : u.size = 25 := by rw [hu, ByteArray.size_extract]; omega
  have hul : u.data.toList = s.data.toList.drop 7 := by
    rw [hu, Lib.extract_data, List.take_of_length_le (by rw [List.length_drop, hsl]; exact Nat.le_refl _)]
  rw [← hu] at HTK2
  have HUL := Lib.hid hul
  obtain ⟨r, hr⟩ : ∃ r, r = s.extract 4 s.size := ⟨_, rfl⟩
  rw [← hr] at HTK HTK2
  clear hz hzz hx7 hm3 hu hr4 hr
  by_cases h1 : z ≤ 65535
  · have g1 : decide ((65535 : Int) < z) = false := decide_eq_false (by omega)
    have HND := Lib.hid (fun wx => dneed_in z wx h1)
    by_cases h2 : needN z = 1
    · have hroom := need_room z
      rw [h2] at hroom HND
      have hform : formB s.data.toList 1 = true := by rw [hfz, decide_eq_true h1, decide_eq_true h2]; rfl
      have hsum := HP.out hform
      rw [← hul] at hsum
      have HFO := Lib.hid hform
      have HSU := Lib.hid hsum
      obtain ⟨q, hq⟩ : ∃ q, q = val ((s.data.toList.drop 4).take 3) := ⟨_, rfl⟩
      rw [← hq] at HTK2 hq24 HSU
      clear hform hsum hfz hq HP
      go_enter Try.func30, Try.ntmps30
      go_wp2_with fail
      refine hrd.mono ?_
      clear hrd
      rintro e w1 ⟨rfl, hb1⟩
      have HB1 := Lib.hid (HB0.out.trans (hb1.mono HB0.out.size))
      clear hb1
      go_wp2_with fail
      refine (HTK.out _).mono ?_
      rintro e w2 ⟨rfl, hb2⟩
      have HB2 := Lib.hid (HB1.out.trans (hb2.mono HB1.out.size))
      clear hb2 HB1
      go_wp2_with fail
      refine (HND.out _).mono ?_
      rintro e w3 ⟨rfl, hb3⟩
      have HB3 := Lib.hid (HB2.out.trans (hb3.mono HB2.out.size))
      clear hb3 HB2
      go_wp2_with fail
      refine (HTK2.out _).mono ?_
      rintro e w4 ⟨rfl, hb4⟩
      have HB4 := Lib.hid (HB3.out.trans (hb4.mono HB3.out.size))
      clear hb4 HB3 HND HTK HTK2
      go_wp2
      go_loopw [16] (fun i wr => ∃ (j : Nat), i = .int .i64 j ∧ z ≤ j ∧ j ≤ 25 ∧ (∀ i, z ≤ i → i < j → u.data.toList[i]? = some 0) ∧ Below w.heap.size w wr) (fun i _ => (25 - intOf i).toNat)
      case atStart => exact ⟨z, rfl, Nat.le_refl _, by omega, by omega, HB4.out⟩
      case round =>
        obtain ⟨j, rfl, hzj, hj, hall, hbr⟩ := hrel
        have HAL := Lib.hid hall
        have HBR := Lib.hid hbr
        clear hall hbr HB4
        by_cases hlt : j < 25
        · have hju : j < u.size := by omega
          by_cases h0 : u[j] = 0
          · have hb : ((u[j].toNat : Int) != 0) = false := by rw [h0]; rfl
            have HAL2 := Lib.hid (show ∀ i, z ≤ i → i < j + 1 → u.data.toList[i]? = some 0 from fun i hi hi2 => by
              by_cases he : i = j
              · subst he
                rw [List.getElem?_eq_getElem (by simpa using hju)]
                exact congrArg some h0
              · exact HAL.out i hi (by omega))
            clear h0 HAL
            go_wp2
            go_roundw
            case rel => exact ⟨j + 1, by go_num, by omega, by omega, HAL2.out, HBR.out⟩
            case measure => simp [intOf]; omega
          · have hb : ((u[j].toNat : Int) != 0) = true := by
              rw [bne_iff_ne]
              intro e
              apply h0
              apply UInt8.toNat_inj.1
              have e2 : u[j].toNat = 0 := by omega
              rw [e2]
              rfl
            have HE := Lib.hid (show tellT s.data.toList 1 = [] ∧ tellE s.data.toList 1 = 4 by
              have hs : sumB s.data.toList = false := by
                rw [HSU.out]
                have hx : (u.data.toList.drop z).all (· == 0) = false := by
                  rw [List.all_eq_false]
                  refine ⟨u[j], ?_, by simpa using h0⟩
                  rw [List.mem_iff_getElem?]
                  refine ⟨j - z, ?_⟩
                  rw [List.getElem?_drop, show z + (j - z) = j by omega, List.getElem?_eq_getElem (by simpa using hju)]
                  rfl
                rw [hx]
                rfl
              unfold tellT tellE
              rw [HFO.out, hs]
              exact ⟨rfl, rfl⟩)
            clear h0
            go_wp2
            go_ret2
            exact ⟨by rw [HE.out.1, HE.out.2]; rfl, HBR.out⟩
        · obtain rfl : j = 25 := by omega
          have hall : (u.data.toList.drop z).all (· == 0) = true := by
            rw [List.all_eq_true]
            intro x hx
            obtain ⟨i, hi⟩ := List.mem_iff_getElem?.1 hx
            rw [List.getElem?_drop] at hi
            have hlt2 := (List.getElem?_eq_some_iff.1 hi).1
            have e := HAL.out (z + i) (by omega) (by have : u.data.toList.length = u.size := by simp
                                                     omega)
            rw [hi] at e
            injection e with e
            simp [e]
          rw [hall, Bool.true_and] at HSU
          obtain ⟨h4, hh4⟩ : ∃ h4, h4 = s.extract 0 4 := ⟨_, rfl⟩
          obtain ⟨tz, htz⟩ : ∃ tz, tz = u.extract 0 z := ⟨_, rfl⟩
          have hz4 : h4.size = 4 := by rw [hh4, ByteArray.size_extract]; omega
          have hzz2 : tz.size = z := by rw [htz, ByteArray.size_extract]; omega
          have htl : tz.data.toList = textOf s.data.toList := by
            rw [htz, Lib.extract_data, HUL.out]
            unfold textOf
            rw [← HZ.out, Nat.sub_zero, List.drop_zero]
          have hsm : moreN 11994318 (h4 ++ tz) = sumT (textOf s.data.toList) := by
            have hb4 : h4.data.toList = be 4 z := by
              have h := be_val (s.data.toList.take 4)
              rw [List.length_take, show min 4 s.data.toList.length = 4 by omega] at h
              rw [hh4, Lib.extract_data, List.drop_zero, Nat.sub_zero, ← h, HZ.out]
              rfl
            have htl2 : (textOf s.data.toList).length = z := by rw [← htl]; simpa using hzz2
            unfold moreN sumT
            rw [htl2, ByteArray.data_append, Array.toList_append, hb4, htl]
          have hsum0 := fun wx => rsum_any (h4 ++ tz) wx (by rw [ByteArray.size_append]; unfold maxLen; omega)
          rw [hsm] at hsum0
          obtain ⟨ht, hht⟩ : ∃ ht, ht = h4 ++ tz := ⟨_, rfl⟩
          rw [← hht] at hsum0
          have hcatE : h4 ++ tz = ht := hht.symm
          have hz4z : 4 + z ≤ 9223372036854775807 := by omega
          have hws : IntKind.u64.wrap (sumT (textOf s.data.toList) : Int) = (sumT (textOf s.data.toList) : Int) := by have := sumT_lt (textOf s.data.toList); simp [IntKind.wrap, IntKind.bits, IntKind.signed]; omega
          clear hht
          have HSM := Lib.hid (show ∀ wx, Calls Try.prog 51 #[.string ht] wx fun e w' => e = .returned (.int .u32 (sumT (textOf s.data.toList) : Nat)) ∧ Below wx.heap.size wx w' from fun wx => (hsum0 wx).mono fun e w' hh => ⟨hh.1, by rw [← hh.2]; exact Below.refl _ _⟩)
          clear hsum0
          have HTL := Lib.hid htl
          have hlts := sumT_lt (textOf s.data.toList)
          obtain ⟨sm, hsmm⟩ : ∃ sm, sm = sumT (textOf s.data.toList) := ⟨_, rfl⟩
          rw [← hsmm] at HSM hlts HSU hws
          have HH4 := Lib.hid hh4
          have HTZ := Lib.hid htz
          have hzu : (z : Int) ≤ (u.size : Int) := by omega
          have hzu2 : (z : Int) ≤ 25 := by omega
          have hzu3 : (4 : Int) ≤ (s.size : Int) := by omega
          have hh4e : s.extract 0 4 = h4 := HH4.out.symm
          have htze : u.extract 0 z = tz := HTZ.out.symm
          have hcat : h4.size + tz.size ≤ 40 := by omega
          clear htl hsm hsmm hh4 htz hall HAL
          by_cases hsq : sm = q
          · have hb : ((sm : Int) != (q : Int)) = false := by rw [hsq]; simp
            have HE := Lib.hid (show tellT s.data.toList 1 = textOf s.data.toList ∧ tellE s.data.toList 1 = 0 by
              have hs : sumB s.data.toList = true := by rw [HSU.out]; exact decide_eq_true hsq
              unfold tellT tellE
              rw [HFO.out, hs]
              exact ⟨rfl, rfl⟩)
            clear hsq
            go_wp2
            refine wp_region_inv [64, 65, 66, 67, 68, 69, 70, 71, 72, 73] (by kernel_rfl) (by kernel_rfl) (fun w' => Below wr.heap.size wr w') (fun wa wb => Below wa.heap.size wa wb) (RdV s h4 u tz ht z sm q false) (by kernel_rfl) (fun wa wb h1 h2 => h2.trans (h1.mono h2.size)) (fun t v wa wb h1 h2 => h2.on h1) (Below.refl _ _).drew (steps_of ?_) ?_
            · skip
              refine Steps1.cons (fun ax wx hS hG => ?_) (Steps1.cons (fun ax wx hS hG => ?_) (Steps1.cons (fun ax wx hS hG => ?_) (Steps1.cons (fun ax wx hS hG => ?_) (Steps1.cons (fun ax wx hS hG => ?_) (Steps1.cons (fun ax wx hS hG => ?_) (Steps1.cons (fun ax wx hS hG => ?_) (Steps1.cons (fun ax wx hS hG => ?_) (Steps1.cons (fun ax wx hS hG => ?_) (Steps1.cons (fun ax wx hS hG => ?_) Steps1.nil)))))))))
              · have q8 := hG.old 8 (by kernel_rfl) (by kernel_rfl)
                refine step_value (v := .string s) (w' := wx) rfl rfl ?_ (Below.refl _ _) (fun d hd => by cases hd; exact rfl)
                go_simp
              · obtain ⟨_, q64, rfl⟩ := hG.new 64 (by kernel_rfl) (by kernel_rfl)
                refine step_value (v := .string h4) (w' := wx) rfl rfl ?_ (Below.refl _ _) (fun d hd => by cases hd; exact rfl)
                go_simp
              · have q14 := hG.old 14 (by kernel_rfl) (by kernel_rfl)
                refine step_value (v := .string u) (w' := wx) rfl rfl ?_ (Below.refl _ _) (fun d hd => by cases hd; exact rfl)
                go_simp
              · have q10 := hG.old 10 (by kernel_rfl) (by kernel_rfl)
                refine step_value (v := .int .u64 z) (w' := wx) rfl rfl ?_ (Below.refl _ _) (fun d hd => by cases hd; exact rfl)
                go_simp
              · obtain ⟨_, q66, rfl⟩ := hG.new 66 (by kernel_rfl) (by kernel_rfl)
                obtain ⟨_, q67, rfl⟩ := hG.new 67 (by kernel_rfl) (by kernel_rfl)
                refine step_value (v := .string tz) (w' := wx) rfl rfl ?_ (Below.refl _ _) (fun d hd => by cases hd; exact rfl)
                go_simp
              · obtain ⟨_, q65, rfl⟩ := hG.new 65 (by kernel_rfl) (by kernel_rfl)
                obtain ⟨_, q68, rfl⟩ := hG.new 68 (by kernel_rfl) (by kernel_rfl)
                refine step_value (v := .string ht) (w' := wx) rfl rfl ?_ (Below.refl _ _) (fun d hd => by cases hd; exact rfl)
                go_simp
              · obtain ⟨_, q69, rfl⟩ := hG.new 69 (by kernel_rfl) (by kernel_rfl)
                refine step_call (w1 := wx) (f := 51) (args := #[.string ht]) rfl rfl ?_ ((HSM.out wx).mono ?_)
                · skip
                  go_simp
                · rintro e w' ⟨rfl, hq⟩
                  exact ⟨_, rfl, hq, fun d hd => by cases hd; exact rfl⟩
              · obtain ⟨_, q70, rfl⟩ := hG.new 70 (by kernel_rfl) (by kernel_rfl)
                refine step_value (v := .int .u64 sm) (w' := wx) rfl rfl ?_ (Below.refl _ _) (fun d hd => by cases hd; exact rfl)
                go_simp
              · have q13 := hG.old 13 (by kernel_rfl) (by kernel_rfl)
                refine step_value (v := .int .u64 q) (w' := wx) rfl rfl ?_ (Below.refl _ _) (fun d hd => by cases hd; exact rfl)
                go_simp
              · obtain ⟨_, q71, rfl⟩ := hG.new 71 (by kernel_rfl) (by kernel_rfl)
                obtain ⟨_, q72, rfl⟩ := hG.new 72 (by kernel_rfl) (by kernel_rfl)
                refine step_value (v := .bool false) (w' := wx) rfl rfl ?_ (Below.refl _ _) (fun d hd => by cases hd; exact rfl)
                go_simp
            intro f w5 hS5 hV5
            have e73 : f 73 = .bool false := hV5 73 (by decide)
            simp only [puts, Act.put, List.setIfInBounds_toArray, List.set_cons_succ, List.set_cons_zero]
            clear hV5
            rw [e73]
            generalize f 64 = u64
            generalize f 65 = u65
            generalize f 66 = u66
            generalize f 67 = u67
            generalize f 68 = u68
            generalize f 69 = u69
            generalize f 70 = u70
            generalize f 71 = u71
            generalize f 72 = u72
            have HB5 := Lib.hid (HBR.out.trans (hS5.mono HBR.out.size))
            go_wp2
            go_ret2
            refine ⟨?_, HB5.out⟩
            rw [HE.out.1, HE.out.2, ← HTL.out]
            rfl
          · have hb : ((sm : Int) != (q : Int)) = true := by rw [bne_iff_ne]; omega
            have HE := Lib.hid (show tellT s.data.toList 1 = [] ∧ tellE s.data.toList 1 = 4 by
              have hs : sumB s.data.toList = false := by rw [HSU.out]; exact decide_eq_false hsq
              unfold tellT tellE
              rw [HFO.out, hs]
              exact ⟨rfl, rfl⟩)
            clear hsq
            go_wp2
            refine wp_region_inv [64, 65, 66, 67, 68, 69, 70, 71, 72, 73] (by kernel_rfl) (by kernel_rfl) (fun w' => Below wr.heap.size wr w') (fun wa wb => Below wa.heap.size wa wb) (RdV s h4 u tz ht z sm q true) (by kernel_rfl) (fun wa wb h1 h2 => h2.trans (h1.mono h2.size)) (fun t v wa wb h1 h2 => h2.on h1) (Below.refl _ _).drew (steps_of ?_) ?_
            · skip
              refine Steps1.cons (fun ax wx hS hG => ?_) (Steps1.cons (fun ax wx hS hG => ?_) (Steps1.cons (fun ax wx hS hG => ?_) (Steps1.cons (fun ax wx hS hG => ?_) (Steps1.cons (fun ax wx hS hG => ?_) (Steps1.cons (fun ax wx hS hG => ?_) (Steps1.cons (fun ax wx hS hG => ?_) (Steps1.cons (fun ax wx hS hG => ?_) (Steps1.cons (fun ax wx hS hG => ?_) (Steps1.cons (fun ax wx hS hG => ?_) Steps1.nil)))))))))
              · have q8 := hG.old 8 (by kernel_rfl) (by kernel_rfl)
                refine step_value (v := .string s) (w' := wx) rfl rfl ?_ (Below.refl _ _) (fun d hd => by cases hd; exact rfl)
                go_simp
              · obtain ⟨_, q64, rfl⟩ := hG.new 64 (by kernel_rfl) (by kernel_rfl)
                refine step_value (v := .string h4) (w' := wx) rfl rfl ?_ (Below.refl _ _) (fun d hd => by cases hd; exact rfl)
                go_simp
              · have q14 := hG.old 14 (by kernel_rfl) (by kernel_rfl)
                refine step_value (v := .string u) (w' := wx) rfl rfl ?_ (Below.refl _ _) (fun d hd => by cases hd; exact rfl)
                go_simp
              · have q10 := hG.old 10 (by kernel_rfl) (by kernel_rfl)
                refine step_value (v := .int .u64 z) (w' := wx) rfl rfl ?_ (Below.refl _ _) (fun d hd => by cases hd; exact rfl)
                go_simp
              · obtain ⟨_, q66, rfl⟩ := hG.new 66 (by kernel_rfl) (by kernel_rfl)
                obtain ⟨_, q67, rfl⟩ := hG.new 67 (by kernel_rfl) (by kernel_rfl)
                refine step_value (v := .string tz) (w' := wx) rfl rfl ?_ (Below.refl _ _) (fun d hd => by cases hd; exact rfl)
                go_simp
              · obtain ⟨_, q65, rfl⟩ := hG.new 65 (by kernel_rfl) (by kernel_rfl)
                obtain ⟨_, q68, rfl⟩ := hG.new 68 (by kernel_rfl) (by kernel_rfl)
                refine step_value (v := .string ht) (w' := wx) rfl rfl ?_ (Below.refl _ _) (fun d hd => by cases hd; exact rfl)
                go_simp
              · obtain ⟨_, q69, rfl⟩ := hG.new 69 (by kernel_rfl) (by kernel_rfl)
                refine step_call (w1 := wx) (f := 51) (args := #[.string ht]) rfl rfl ?_ ((HSM.out wx).mono ?_)
                · skip
                  go_simp
                · rintro e w' ⟨rfl, hq⟩
                  exact ⟨_, rfl, hq, fun d hd => by cases hd; exact rfl⟩
              · obtain ⟨_, q70, rfl⟩ := hG.new 70 (by kernel_rfl) (by kernel_rfl)
                refine step_value (v := .int .u64 sm) (w' := wx) rfl rfl ?_ (Below.refl _ _) (fun d hd => by cases hd; exact rfl)
                go_simp
              · have q13 := hG.old 13 (by kernel_rfl) (by kernel_rfl)
                refine step_value (v := .int .u64 q) (w' := wx) rfl rfl ?_ (Below.refl _ _) (fun d hd => by cases hd; exact rfl)
                go_simp
              · obtain ⟨_, q71, rfl⟩ := hG.new 71 (by kernel_rfl) (by kernel_rfl)
                obtain ⟨_, q72, rfl⟩ := hG.new 72 (by kernel_rfl) (by kernel_rfl)
                refine step_value (v := .bool true) (w' := wx) rfl rfl ?_ (Below.refl _ _) (fun d hd => by cases hd; exact rfl)
                go_simp
            intro f w5 hS5 hV5
            have e73 : f 73 = .bool true := hV5 73 (by decide)
            simp only [puts, Act.put, List.setIfInBounds_toArray, List.set_cons_succ, List.set_cons_zero]
            clear hV5
            rw [e73]
            generalize f 64 = u64
            generalize f 65 = u65
            generalize f 66 = u66
            generalize f 67 = u67
            generalize f 68 = u68
            generalize f 69 = u69
            generalize f 70 = u70
            generalize f 71 = u71
            generalize f 72 = u72
            have HB5 := Lib.hid (HBR.out.trans (hS5.mono HBR.out.size))
            go_wp2
            go_ret2
            refine ⟨?_, HB5.out⟩
            rw [HE.out.1, HE.out.2]
            rfl
    · have hne : ((needN z : Int) != 1) = true := by rw [bne_iff_ne]; omega
      have HE := Lib.hid (show tellT s.data.toList 1 = [] ∧ tellE s.data.toList 1 = 2 by
        unfold tellT tellE
        rw [hfz, decide_eq_false h2, Bool.and_false]
        exact ⟨rfl, rfl⟩)
      generalize needN z = nz at *
      go_enter Try.func30, Try.ntmps30
      go_wp2_with fail
      refine hrd.mono ?_
      clear hrd
      rintro e w1 ⟨rfl, hb1⟩
      have HB1 := Lib.hid (HB0.out.trans (hb1.mono HB0.out.size))
      clear hb1
      go_wp2_with fail
      refine (HTK.out _).mono ?_
      rintro e w2 ⟨rfl, hb2⟩
      have HB2 := Lib.hid (HB1.out.trans (hb2.mono HB1.out.size))
      clear hb2 HB1
      go_wp2_with fail
      refine (HND.out _).mono ?_
      rintro e w3 ⟨rfl, hb3⟩
      have HB3 := Lib.hid (HB2.out.trans (hb3.mono HB2.out.size))
      clear hb3 HB2
      go_wp2
      go_ret2
      exact ⟨by rw [HE.out.1, HE.out.2]; rfl, HB3.out⟩
  · have g1 : decide ((65535 : Int) < z) = true := decide_eq_true (by omega)
    have HE := Lib.hid (show tellT s.data.toList 1 = [] ∧ tellE s.data.toList 1 = 2 by
      unfold tellT tellE
      rw [hfz, decide_eq_false h1]
      exact ⟨rfl, rfl⟩)
    go_enter Try.func30, Try.ntmps30
    go_wp2_with fail
    refine hrd.mono ?_
    clear hrd
    rintro e w1 ⟨rfl, hb1⟩
    have HB1 := Lib.hid (HB0.out.trans (hb1.mono HB0.out.size))
    clear hb1
    go_wp2_with fail
    refine (HTK.out _).mono ?_
    rintro e w2 ⟨rfl, hb2⟩
    have HB2 := Lib.hid (HB1.out.trans (hb2.mono HB1.out.size))
    clear hb2 HB1
    go_wp2
    go_ret2
    exact ⟨by rw [HE.out.1, HE.out.2]; rfl, HB2.out⟩

theorem dtell_yes {v : Value} {S : List ByteArray} {W : List Wr} {a : Int} {w : World} (h : DV w v S W) (hm : W.length ≤ 1000000) (hb : tellB S W a = true) :
    Calls Try.prog 30 #[v, .int .i64 a, .int .i64 1] w fun e w' => e = .returned (.tuple #[.string (tellS S W a), .int .i64 0]) ∧ Below w.heap.size w w' := by
  have hb0 := hb
  unfold tellB at hb
  rw [Bool.and_eq_true, Bool.and_eq_true] at hb
  obtain ⟨⟨hR, hh⟩, hf⟩ := hb
  obtain ⟨b, rfl, hbn⟩ : ∃ b : Nat, a = b ∧ b + 1 ≤ S.length := by
    unfold hasB at hh
    simp only [decide_eq_true_eq] at hh
    exact ⟨a.toNat, by omega, by omega⟩
  have h1 := dread6_in (b := b) v h hm hR hbn
  rw [Int.toNat_natCast] at hf
  unfold tellS
  rw [hb0, Int.toNat_natCast]
  unfold tellT tellE at h1
  rw [Bool.and_eq_true] at hf
  rw [hf.1, hf.2] at h1
  exact h1

set_option maxHeartbeats 1000000 in
set_option maxRecDepth 100000 in
theorem dread6_bad {v : Value} {S : List ByteArray} {W : List Wr} {a : Int} {w : World} (h : DV w v S W) (hn : S.length ≤ 1000000) (hm : W.length ≤ 1000000) (hbad : rightB S W = false ∨ hasB S.length a 1 = false) :
    Calls Try.prog 30 #[v, .int .i64 a, .int .i64 1] w fun e w' => e = .returned (.tuple #[.string ⟨#[]⟩, .int .i64 1]) ∧ Below w.heap.size w w' := by
  obtain ⟨A, c, B, d, rfl, hA, hB⟩ := h
  have hb0 : Below w.heap.size w (w.alloc (.cells #[.slice A S.length c, .slice B W.length d] 30)) := (Below.refl _ _).alloc (Nat.le_refl _) _
  have hrd := dread_bad A c S B d W a 1 _ (hA.on hb0) (Lies.on hB hb0) hn hm hbad
  have HB0 := Lib.hid hb0
  generalize S.length = n at *
  generalize W.length = m at *
  clear hA hB hb0 hbad
  go_enter Try.func30, Try.ntmps30
  go_wp2_with fail
  refine hrd.mono ?_
  clear hrd
  rintro e w1 ⟨rfl, hb1⟩
  have HB1 := Lib.hid (HB0.out.trans (hb1.mono HB0.out.size))
  clear hb1
  go_wp2
  go_ret2
  exact ⟨rfl, HB1.out⟩

theorem dtell_no {v : Value} {S : List ByteArray} {W : List Wr} {a : Int} {w : World} (h : DV w v S W) (hn : S.length ≤ 1000000) (hm : W.length ≤ 1000000) (hb : tellB S W a = false) :
    Calls Try.prog 30 #[v, .int .i64 a, .int .i64 1] w fun e w' => (∃ n : Int, n ≠ 0 ∧ e = .returned (.tuple #[.string ⟨#[]⟩, .int .i64 n])) ∧ Below w.heap.size w w' := by
  unfold tellB at hb
  cases hh : (rightB S W && hasB S.length a 1) with
  | false =>
    rw [Bool.and_eq_false_iff] at hh
    refine (dread6_bad h hn hm hh).mono ?_
    rintro e w' ⟨he, hbb⟩
    exact ⟨⟨1, by decide, he⟩, hbb⟩
  | true =>
    rw [hh, Bool.true_and] at hb
    rw [Bool.and_eq_true] at hh
    obtain ⟨hR, hh⟩ := hh
    obtain ⟨b, rfl, hbn⟩ : ∃ b : Nat, a = b ∧ b + 1 ≤ S.length := by
      unfold hasB at hh
      simp only [decide_eq_true_eq] at hh
      exact ⟨a.toNat, by omega, by omega⟩
    have h1 := dread6_in (b := b) v h hm hR hbn
    rw [Int.toNat_natCast] at hb
    unfold tellT tellE at h1
    rw [hb] at h1
    cases hf : formB (readS S W b 1).data.toList 1 with
    | false =>
      rw [hf] at h1
      refine h1.mono ?_
      rintro e w' ⟨he, hbb⟩
      exact ⟨⟨2, by decide, he⟩, hbb⟩
    | true =>
      have hs : sumB (readS S W b 1).data.toList = false := by rw [hf, Bool.true_and] at hb; exact hb
      rw [hf, hs] at h1
      refine h1.mono ?_
      rintro e w' ⟨he, hbb⟩
      exact ⟨⟨4, by decide, he⟩, hbb⟩

end Go.Proofs.Ythcolmdfpciolaa
