/- The walk of the law PackBack, out of the contracts: it returns true, whatever the number, the size, the texts and the bytes; nothing that was there changes. -/
import Derived.Test.YtngiadcbmfbonaaLTexts
import Derived.Test.YtngiadcbmfbonaaLOrder
namespace Go.Proofs.Ytngiadcbmfbonaa
open Go.RowKit

theorem take_num {n : Nat} {k : Int} (h : fits n k = true) (s : ByteArray) :
    takeN (⟨(be k.toNat n).toArray⟩ ++ s) k = n ∧ takeR (⟨(be k.toNat n).toArray⟩ ++ s) k = s ∧ takeE (⟨(be k.toNat n).toArray⟩ ++ s) k = 0 := by
  simp only [fits, Bool.and_eq_true, decide_eq_true_eq] at h
  obtain ⟨⟨h1, h8⟩, hn⟩ := h
  obtain ⟨m, rfl⟩ := Int.eq_ofNat_of_zero_le (show 0 ≤ k by omega)
  rw [Int.toNat_natCast] at hn ⊢
  have hl := be_length m n
  have hz : ((⟨(be m n).toArray⟩ : ByteArray) ++ s).size = m + s.size := by
    rw [ByteArray.size_append]; show (be m n).toArray.size + _ = _; simp [hl]
  have hd : ((⟨(be m n).toArray⟩ : ByteArray) ++ s).data.toList = be m n ++ s.data.toList := by rw [data_append]
  have ho : takeOk (⟨(be m n).toArray⟩ ++ s) m = true := by
    simp only [takeOk, sized, Bool.and_eq_true, decide_eq_true_eq, hz]; omega
  refine ⟨?_, ?_, ?_⟩
  · rw [takeN, if_pos ho, Int.toNat_natCast, hd, List.take_left' hl, val_be, Nat.mod_eq_of_lt hn]
  · rw [takeR, if_pos ho, Int.toNat_natCast, hz]
    refine ba_ext ?_
    rw [Lib.extract_data, hd, List.drop_left' hl]
    exact List.take_of_length_le (by rw [len_data]; omega)
  · rw [takeE, if_pos ho]

theorem small_ok {t : ByteArray} (h : t.size ≤ 300) : textOk t = true := by simp only [textOk, decide_eq_true_eq]; omega
theorem small_all {ss : List ByteArray} (h : ∀ t ∈ ss, t.size ≤ 300) : allOk ss = true := by
  unfold allOk; rw [List.all_eq_true]; intro t ht; exact small_ok (h t ht)

set_option maxHeartbeats 2000000 in
set_option maxRecDepth 100000 in
theorem back_walk (n : Nat) (z : Int) (A : Option Addr) (c : Nat) (ss : List ByteArray) (s : ByteArray) (w : World) (hn64 : n < 2 ^ 64) (hA : Strs w w.heap.size A ss) (hn : ss.length ≤ maxLen) (hz : ∀ t ∈ ss, t.size ≤ maxLen) (hs : s.size ≤ maxLen) :
    Calls Try.prog 5 #[.int .u64 n, .int .i64 z, .slice A ss.length c, .string s] w fun e w' => e = .returned (.bool true) ∧ Below w.heap.size w w' := by
  have HA := Lib.hid hA
  have HZ := Lib.hid hz
  have HM := Lib.hid hs
  have HN64 := Lib.hid hn64
  unfold maxLen at hn hs
  clear hA hz hn64
  generalize hl : ss.length = ln at *
  have HL := Lib.hid hl
  clear hl
  by_cases h30 : 30 < ln
  · go_enter Try.func5, Try.ntmps5
    go_wp2_with fail
    refine (awake_true _).mono ?_
    rintro e w5 ⟨rfl, hb5⟩
    go_wp2
    go_ret
    exact ⟨rfl, hb5⟩
  by_cases h300 : 300 < s.size
  · have hd : ¬ (30 : Int) < ln := by omega
    go_enter Try.func5, Try.ntmps5
    go_wp2_with fail
    refine (awake_true _).mono ?_
    rintro e w5 ⟨rfl, hb5⟩
    go_wp2
    go_ret
    exact ⟨rfl, hb5⟩
  have hd1 : decide ((30 : Int) < ln) = false := by simp; omega
  have hd2 : decide ((300 : Int) < s.size) = false := by simp; omega
  go_enter Try.func5, Try.ntmps5
  go_wp2_with fail
  go_loopw [41] (fun i wr => ∃ (k : Nat), i = .int .i64 k ∧ k ≤ ln ∧ (∀ t ∈ ss.take k, t.size ≤ 300) ∧ Below w.heap.size w wr) (fun i _ => (ln - intOf i).toNat)
  case atStart => exact ⟨0, rfl, by omega, by simp, Below.refl _ _⟩
  case round =>
    obtain ⟨k, rfl, hk, hall, hbr⟩ := hrel
    have HAL := Lib.hid hall
    clear hall
    by_cases hlt : k < ln
    · obtain ⟨a1, rfl, hab, hca⟩ := (HA.out.below hbr) (by rw [HL.out]; omega)
      have c1 := hca k (by rw [HL.out]; omega)
      have hm := HZ.out _ (List.getElem_mem (by rw [HL.out]; omega : k < ss.length))
      obtain ⟨x, hx⟩ : ∃ x, x = ss[k]'(by rw [HL.out]; omega) := ⟨_, rfl⟩
      rw [← hx] at c1 hm
      have HX := Lib.hid hx
      unfold maxLen at hm
      clear hx hca
      by_cases hxo : 300 < x.size
      · go_wp2_with fail
        refine (awake_true _).mono ?_
        rintro e w5 ⟨rfl, hb5⟩
        go_wp2
        go_ret
        exact ⟨rfl, hbr.trans (hb5.mono hbr.size)⟩
      · go_wp2
        go_roundw
        case rel => exact ⟨k + 1, by go_num, by omega, all_take (p := fun t => t.size ≤ 300) (by rw [HL.out]; omega) HAL.out (by rw [← HX.out]; omega), hbr⟩
        case measure => simp [intOf]; omega
    · have hsm : ∀ t ∈ ss, t.size ≤ 300 := by
        have h := HAL.out
        rwa [List.take_of_length_le (by rw [HL.out]; omega)] at h
      have HSM := Lib.hid hsm
      have HOK := Lib.hid (small_all hsm)
      have HN := Lib.hid (show ss.length ≤ 65536 by rw [HL.out]; omega)
      have HTS := Lib.hid (show textsS ss = ⟨(cat ss).toArray⟩ by rw [textsS, if_pos (small_all hsm)])
      have HTE := Lib.hid (show textsE ss = 0 by rw [textsE, if_pos (small_all hsm)])
      have hcat := cat_length ss
      rw [HL.out] at hcat
      clear hsm
      go_wp2_with fail
      refine (num_any n z _ HN64.out).mono ?_
      rintro e w1 ⟨rfl, hb1⟩
      have hb01 : Below w.heap.size w w1 := hbr.trans (hb1.mono hbr.size)
      clear hb1
      by_cases f : fits n z = true
      case' pos =>
        obtain ⟨s1, e1⟩ := num_fit f
        rw [s1, e1]
        obtain ⟨k1, k2, k3⟩ := take_num f s
        have hlz : (((be z.toNat n).length : Int) == z) = true := by
          simp only [fits, Bool.and_eq_true, decide_eq_true_eq] at f
          rw [be_length, beq_iff_eq]; omega
        have hll : (be z.toNat n).length ≤ 8 := by
          simp only [fits, Bool.and_eq_true, decide_eq_true_eq] at f
          rw [be_length]; omega
        generalize be z.toNat n = bz at *
        have K1 := Lib.hid k1
        have K2 := Lib.hid k2
        have K3 := Lib.hid k3
        have hlz2 : (((bz.length : Int) != z)) = false := by
          rw [beq_iff_eq] at hlz; simp [hlz]
        clear s1 e1 k1 k2 k3 f
        go_wp2_with fail
        generalize (⟨bz.toArray⟩ : ByteArray) ++ s = X at *
        refine (take_any X z _).mono ?_
        rintro e w2 ⟨rfl, hb2⟩
        rw [K1.out, K2.out, K3.out]
        have hbX : Below w.heap.size w w2 := hb01.trans (hb2.mono hb01.size)
        clear hb01 hb2 hlz
        generalize hw : w2 = wX at *
        clear hw
        clear K1 K2 K3
      case' neg =>
        obtain ⟨s1, e1⟩ := num_unfit (by simpa using f)
        rw [s1, e1]
        have hbX := hb01
        clear hb01 s1 e1 f
        generalize hw : w1 = wX at *
        clear hw
      all_goals
        go_wp2_with fail
        have hcl := texts_any A c ss wX ((HA.out.below hbX).more hbX.size) HN.out HZ.out
        rw [HL.out, HTS.out, HTE.out] at hcl
        refine hcl.mono ?_
        clear hcl
        rintro e w3 ⟨rfl, hb3⟩
        have hb03 : Below w.heap.size w w3 := hbX.trans (hb3.mono hbX.size)
        clear hb3 hbX
        go_wp2_with fail
        have hpc := parts_cat ss HOK.out
        have P1 := Lib.hid (show partsL ⟨(cat ss).toArray⟩ = ss by simp [partsL, hpc])
        have P2 := Lib.hid (show partsE ⟨(cat ss).toArray⟩ = 0 by simp [partsE, hpc])
        have hcs : (⟨(cat ss).toArray⟩ : ByteArray).size ≤ 4294967296 := by
          show (cat ss).toArray.size ≤ _
          rw [List.size_toArray]; omega
        clear hpc hcat
        generalize (⟨(cat ss).toArray⟩ : ByteArray) = Y at *
        refine (parts_any Y _ hcs).mono ?_
        rintro e w4 ⟨A4, c4, rfl, hs4, hb4⟩
        rw [P1.out, P2.out, HL.out]
        rw [P1.out] at hs4
        have hb04 : Below w.heap.size w w4 := hb03.trans (hb4.mono hb03.size)
        have H4 := Lib.hid hs4
        clear hs4 hb4 hb03 P1 P2 hcs HTS
        go_wp2_with fail
        have hcl := same_any A4 A c4 c ss ss w4 H4.out ((HA.out.below hb04).more hb04.size) (by have := HN.out; unfold maxLen; omega) (by have := HN.out; unfold maxLen; omega)
        rw [decide_eq_true rfl, HL.out] at hcl
        refine hcl.mono ?_
        clear hcl
        rintro e w5 ⟨rfl, hb5⟩
        have hb05 : Below w.heap.size w w5 := hb04.trans (hb5.mono hb04.size)
        clear hb04 hb5 H4
        go_wp2_with fail
        go_loopw [20] (fun i wr => ∃ (q : Int), i = .int .i64 q ∧ -1 ≤ q ∧ q < ln ∧ Below w.heap.size w wr) (fun i _ => (intOf i + 1).toNat)
        case atStart => exact ⟨_, rfl, by omega, by omega, hb05⟩
        case round =>
          obtain ⟨q, rfl, hq1, hq2, hbq⟩ := hrel
          clear hb05
          by_cases h0 : 0 ≤ q
          · obtain ⟨m, rfl⟩ := Int.eq_ofNat_of_zero_le h0
            have hml : m < ln := by omega
            have hbq0 := hbq
            obtain ⟨a1, rfl, hab, hca⟩ := (HA.out.below hbq) (by rw [HL.out]; omega)
            have c1 := hca m (by rw [HL.out]; omega)
            have hm3 := HSM.out _ (List.getElem_mem (by rw [HL.out]; omega : m < ss.length))
            obtain ⟨x, hx⟩ : ∃ x, x = ss[m]'(by rw [HL.out]; omega) := ⟨_, rfl⟩
            rw [← hx] at c1 hm3
            clear hx hca
            have ho := small_ok hm3
            have HE := Lib.hid (textE_ok ho)
            have hsl := textS_len ho
            obtain ⟨k1, k2, k3⟩ := tt_text ho s
            have K0 := Lib.hid (show ttE (textS x ++ s) = 0 by simp [ttE, k1])
            have K2 := Lib.hid k2
            have K3 := Lib.hid k3
            have hsx : (textS x ++ s).size ≤ maxLen := by rw [ByteArray.size_append, hsl]; unfold maxLen; omega
            have hbz : (textS x).size ≤ 302 := by omega
            have HSX := Lib.hid hsx
            clear ho hsl k1 k2 k3 hsx
            go_wp2_with fail
            refine (text_any x _ (by unfold maxLen; omega)).mono ?_
            rintro e w6 ⟨rfl, hb6⟩
            rw [HE.out]
            have hbq6 : Below w.heap.size w w6 := hbq.trans (hb6.mono hbq.size)
            clear HE hb6
            generalize textS x = b at *
            go_wp2_with fail
            generalize b ++ s = X at *
            refine (tt_any X _ HSX.out).mono ?_
            rintro e w7 ⟨rfl, hb7⟩
            rw [K0.out, K2.out, K3.out]
            have hbq7 : Below w.heap.size w w7 := hbq6.trans (hb7.mono hbq6.size)
            have c7 : w7.cell? (a1.add m) = some (.string x) := by
              rw [hbq7.cell (by rw [block_of_add]; exact hab), ← hbq0.cell (by rw [block_of_add]; exact hab)]; exact c1
            clear K0 K2 K3 HSX hb7 hbq6 hbq0
            go_wp2
            go_roundw
            case rel => exact ⟨_, rfl, by omega, by omega, hbq7⟩
            case measure => simp [intOf]
          · have hqd : decide (0 ≤ q) = false := by simp; omega
            by_cases hg : partsE s = 0
            · obtain ⟨p1, p2⟩ := partsE_ok hg
              have pl := partsL_len s
              have HP1 := Lib.hid (show textsS (partsL s) = s by
                rw [textsS, if_pos p1, p2])
              have HP2 := Lib.hid (show textsE (partsL s) = 0 by rw [textsE, if_pos p1])
              have HG := Lib.hid hg
              have hpz : ∀ t ∈ partsL s, t.size ≤ maxLen := by
                intro t ht
                have h1 := (List.all_eq_true.1 p1) t ht
                simp only [textOk, decide_eq_true_eq] at h1
                unfold maxLen; omega
              have HPZ := Lib.hid hpz
              clear hg p1 p2 hpz
              go_wp2_with fail
              refine (parts_any s _ (by omega)).mono ?_
              rintro e w8 ⟨A8, c8, rfl, hs8, hb8⟩
              rw [HG.out]
              have hb08 : Below w.heap.size w w8 := hbq.trans (hb8.mono hbq.size)
              have H8 := Lib.hid hs8
              clear hb8 hs8
              generalize partsL s = pp at *
              go_wp2_with fail
              have hcl := texts_any A8 c8 pp w8 H8.out (by omega) HPZ.out
              rw [HP1.out, HP2.out] at hcl
              refine hcl.mono ?_
              clear hcl
              rintro e w9 ⟨rfl, hb9⟩
              have hb09 : Below w.heap.size w w9 := hb08.trans (hb9.mono hb08.size)
              clear hb9 hb08
              go_wp2_with fail
              refine (awake_true _).mono ?_
              rintro e w10 ⟨rfl, hb10⟩
              go_wp2
              go_ret
              exact ⟨rfl, hb09.trans (hb10.mono hb09.size)⟩
            · have hge : partsE s = 2 := by
                unfold partsE at hg ⊢
                by_cases hp : (parts s).isSome = true
                · rw [if_pos hp] at hg; exact absurd rfl hg
                · rw [if_neg hp]
              have HG := Lib.hid hge
              clear hg hge
              go_wp2_with fail
              refine (parts_any s _ (by omega)).mono ?_
              rintro e w8 ⟨A8, c8, rfl, hs8, hb8⟩
              rw [HG.out]
              have hb08 : Below w.heap.size w w8 := hbq.trans (hb8.mono hbq.size)
              clear hb8 hs8
              generalize partsL s = pp at *
              go_wp2_with fail
              refine (awake_true _).mono ?_
              rintro e w10 ⟨rfl, hb10⟩
              go_wp2
              go_ret
              exact ⟨rfl, hb08.trans (hb10.mono hb08.size)⟩

end Go.Proofs.Ytngiadcbmfbonaa
