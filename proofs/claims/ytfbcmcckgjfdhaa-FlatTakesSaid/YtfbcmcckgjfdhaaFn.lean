/- The walks of flat's list, and of Notes, Pairs and Changes. -/
import Derived.Test.YtfbcmcckgjfdhaaChs
import Derived.Test.YtfbcmcckgjfdhaaFr
set_option linter.unusedVariables false
set_option linter.unusedSimpArgs false
namespace Go.Proofs.Ytfbcmcckgjfdhaa
open Go.RowKit Go.Sort

section
variable {α : Type} (K : Kd α)
/-- What the document says of a list's bytes. -/
def Kd.listS (l : List α) : ByteArray := if K.may l then K.list l else noB
def Kd.listE (l : List α) : Int := if K.may l then 0 else 1
theorem Kd.may_no {l : List α} (i : Nat) (h : i < l.length) (e : K.ok l[i] = false) : K.may l = false := by
  unfold Kd.may
  rw [Bool.and_eq_false_iff]
  right
  rw [List.all_eq_false]
  exact ⟨l[i], List.getElem_mem _, by rw [e]; simp⟩
theorem Kd.may_long {l : List α} (h : ¬ l.length ≤ 65535) : K.may l = false := by
  unfold Kd.may
  rw [decide_eq_false h]; rfl
theorem Kd.may_all {l : List α} (h : l.length ≤ 65535) (g : ∀ i (h : i < l.length), K.ok l[i] = true) : K.may l = true := by
  unfold Kd.may
  rw [decide_eq_true h, Bool.true_and, List.all_eq_true]
  intro x hx
  obtain ⟨i, hi, rfl⟩ := List.getElem_of_mem hx
  exact g i hi
theorem Kd.no_S {l : List α} (h : K.may l = false) : K.listS l = noB ∧ K.listE l = 1 := by
  unfold Kd.listS Kd.listE
  rw [h]
  exact ⟨rfl, rfl⟩
theorem Kd.yes_S {l : List α} (h : K.may l = true) : K.listS l = K.list l ∧ K.listE l = 0 := by
  unfold Kd.listS Kd.listE
  rw [h]
  exact ⟨rfl, rfl⟩
/-- What stands in the builder ahead of the k-th. -/
def Kd.ahead (l : List α) (k : Nat) : List UInt8 := (nS 2 l.length ++ K.cat (l.take k)).data.toList
theorem Kd.ahead_zero (l : List α) : K.ahead l 0 = (nS 2 l.length).data.toList := by
  unfold Kd.ahead
  rw [List.take_zero, Kd.cat_nil, noB_right]
theorem Kd.ahead_succ (l : List α) (k : Nat) (h : k < l.length) : K.ahead l (k + 1) = K.ahead l k ++ (K.enc l[k]).data.toList := by
  unfold Kd.ahead
  rw [Kd.cat_take K l k h, ← ba_assoc, data_append]
theorem Kd.ahead_all (l : List α) : (⟨(K.ahead l l.length).toArray⟩ : ByteArray) = K.list l := by
  unfold Kd.ahead Kd.list
  rw [List.take_length]
theorem Kd.all_take {l : List α} {k : Nat} (hk : k ≤ l.length) (h : ∀ i (h : i < l.length), i < k → K.ok l[i] = true) : (l.take k).all K.ok = true := by
  rw [List.all_eq_true]
  intro x hx
  obtain ⟨i, hi, rfl⟩ := List.getElem_of_mem hx
  rw [List.getElem_take]
  rw [List.length_take] at hi
  exact h i (by omega) (by omega)
theorem Kd.ahead_len {l : List α} {k : Nat} (hk : k ≤ l.length) (h : ∀ i (h : i < l.length), i < k → K.ok l[i] = true) : (K.ahead l k).length ≤ 2 + 128 * k := by
  have h1 := (K.cat_len (l.take k) (K.all_take hk h)).2
  rw [List.length_take] at h1
  unfold Kd.ahead
  rw [len_data, ByteArray.size_append, nS_size]
  omega
theorem cells_append (a : List UInt8) (s : ByteArray) : Lib.byteCells a ++ Lib.strCells s = Lib.byteCells (a ++ s.data.toList) := by simp [Lib.byteCells, Lib.strCells]
end

set_option maxRecDepth 100000 in
set_option maxHeartbeats 4000000 in
theorem listn_any (A : Option Addr) (c : Nat) (l : List Nt) (w : World) (hA : Nts w w.heap.size A l) (hn : l.length ≤ maxLen) :
    Calls Try.prog 38 #[.slice A l.length c, .func (.func 39) #[] #[], .func (.func 40) #[] #[]] w fun e w' => e = .returned (.tuple #[.string (kN.listS l), .int .i64 (kN.listE l)]) ∧ Below w.heap.size w w' := by
  unfold maxLen at hn
  obtain ⟨S, hS⟩ : ∃ S, S = kN.listS l := ⟨_, rfl⟩
  obtain ⟨E, hE⟩ : ∃ E, E = kN.listE l := ⟨_, rfl⟩
  rw [← hS, ← hE]
  have HNo := Lib.hid (show kN.may l = false → S = noB ∧ E = 1 from fun h => by rw [hS, hE]; exact kN.no_S h)
  have HYes := Lib.hid (show kN.may l = true → S = kN.list l ∧ E = 0 from fun h => by rw [hS, hE]; exact kN.yes_S h)
  clear hS hE
  obtain ⟨n, hl⟩ : ∃ n, l.length = n := ⟨_, rfl⟩
  rw [hl] at hn ⊢
  have HL := Lib.hid hl
  have HA := Lib.hid hA
  clear hl hA
  by_cases h65 : n ≤ 65535
  case neg =>
    have hd : decide (65535 < (n : Int)) = true := by simp; omega
    obtain ⟨e1, e2⟩ := HNo.out (kN.may_long (by rw [HL.out]; exact h65))
    have E1 := Lib.hid e1
    have E2 := Lib.hid e2
    clear e1 e2
    go_enter Try.func38, Try.ntmps38
    go_wp2
    go_ret2
    rw [E1.out, E2.out]
    exact ⟨rfl, Below.refl _ _⟩
  have hd : decide (65535 < (n : Int)) = false := by simp; omega
  have hd' : decide (65535 < n) = false := by simp; omega
  have hw := u64_nat n (by omega)
  go_enter Try.func38, Try.ntmps38
  go_wp2_with fail
  refine (fnum_any n 2 _ (by decide) (by decide) (by omega)).mono ?_
  rintro e w1 ⟨rfl, hb⟩
  have HBu := Lib.hid (bld_below (Lib.fresh_isBuilder 116 5 w) hb)
  have HB := Lib.hid (below1 hb)
  clear hb
  go_wp2_with fail
  refine (write_any _ _ [] (nS 2 n) _ HBu.out (by rw [nS_size]; show 0 + 2 ≤ _; omega) HB.out.size).mono ?_
  rintro e w2 ⟨rfl, hbu, hb⟩
  have HBu2 := Lib.hid (show Lib.IsBuilder 116 5 w.heap.size w.heap.size (Lib.byteCells (kN.ahead l 0)) w2 from by
    rw [Kd.ahead_zero, HL.out]
    have h := hbu
    simp only [List.nil_append] at h
    exact .inr h)
  have HB2 := Lib.hid (HB.out.trans hb)
  clear hbu hb HBu HB
  clear hw
  go_wp2
  go_loopw [21] (fun i wr => ∃ (k : Nat), i = .int .i64 k ∧ k ≤ n ∧ Hid (∀ i (h : i < l.length), i < k → kN.ok l[i] = true) ∧ Hid (Lib.IsBuilder 116 5 w.heap.size w.heap.size (Lib.byteCells (kN.ahead l k)) wr) ∧ Below w.heap.size w wr) (fun i _ => (n - intOf i).toNat)
  case atStart => exact ⟨0, rfl, by omega, fun i h h0 => by omega, HBu2, HB2.out⟩
  case round =>
    clear HBu2 HB2
    obtain ⟨k, rfl, hk, HG, HBu, hbr⟩ := hrel
    by_cases hlt : k < n
    · obtain ⟨ad, rfl, hab, hca⟩ := (HA.out.below hbr).seeN (by rw [HL.out]; omega)
      have hkl : k < l.length := by rw [HL.out]; exact hlt
      obtain ⟨c0, c1, c2, c3⟩ := hca k hkl
      obtain ⟨x, hx⟩ : ∃ x, x = l[k]'hkl := ⟨_, rfl⟩
      rw [← hx] at c0 c1 c2 c3
      have HX := Lib.hid hx
      clear hx hca
      obtain ⟨xk, xkey, xval, xn⟩ := x
      simp only at c0 c1 c2 c3
      have hlt3 : (ad.add (k * 4)).block < w.heap.size := by rw [block_of_add]; exact hab
      have hbs := hbr.size
      obtain ⟨wx, hwx⟩ : ∃ wx, wx = wr.alloc (.cells #[.int .i64 xk, .string xkey, .string xval, .int .u64 (xn.toNat : Int)] 62) := ⟨_, rfl⟩
      obtain ⟨gx, hgx⟩ : ∃ gx, gx = wr.heap.size := ⟨_, rfl⟩
      have hbx : Box wx gx 62 #[.int .i64 xk, .string xkey, .string xval, .int .u64 (xn.toNat : Int)] := by rw [hwx]; exact Box.at_ wr _ _ hgx
      have hbw : Below wr.heap.size wr wx := by rw [hwx]; exact (Below.refl _ _).alloc (Nat.le_refl _) _
      have HB1 := Lib.hid (hbr.trans (hbw.mono hbs))
      have HBu1 := Lib.hid (bld_below HBu.out hbw)
      have BX := Lib.hid hbx
      clear hbx hbw
      go_upto_region 8 with fail
      rw [← hgx, ← hwx]
      clear hgx hwx c0 c1 c2 c3 hbr hbs HBu
      obtain ⟨k0, k1, k2, k3⟩ : _ ∧ _ ∧ _ ∧ _ := ⟨Box.cell BX.out 0 rfl, Box.cell BX.out 1 rfl, Box.cell BX.out 2 rfl, Box.cell BX.out 3 rfl⟩
      go_wp2_with fail
      refine (right_any xk xkey xval xn _).mono ?_
      rintro e w3 ⟨rfl, hb⟩
      have HB3 := Lib.hid (HB1.out.trans (hb.mono HB1.out.size))
      have HBu3 := Lib.hid (bld_below HBu1.out hb)
      have BX3 := Lib.hid (BX.out.on hb)
      clear hb k0 k1 k2 k3 HB1 HBu1 BX
      cases hf : rightN ⟨xk, xkey, xval, xn⟩ with
      | false =>
        obtain ⟨e1, e2⟩ := HNo.out (kN.may_no k hkl (by rw [← HX.out]; exact hf))
        have E1 := Lib.hid e1
        have E2 := Lib.hid e2
        clear hf e1 e2
        go_wp2
        go_ret2
        rw [E1.out, E2.out]
        exact ⟨rfl, HB3.out⟩
      | true =>
        have HF := Lib.hid hf
        have HG2 := Lib.hid (show ∀ i (h : i < l.length), i < k + 1 → kN.ok l[i] = true from fun i h h1 => by
          by_cases hi : i < k
          · exact HG.out i h hi
          · have : i = k := by omega
            subst this
            rw [← HX.out]; exact hf)
        have hlen := kN.ahead_len (Nat.le_of_lt hkl) HG.out
        have hlen2 := (kN.len hf).2
        obtain ⟨hkd, hk16, hv32⟩ := right_of hf
        simp only at hkd hk16 hv32
        obtain ⟨q, hq⟩ := Int.eq_ofNat_of_zero_le (show 0 ≤ xk by omega)
        subst hq
        have hq3 : q ≤ 3 := by omega
        clear hkd
        obtain ⟨k0, k1, k2, k3⟩ : _ ∧ _ ∧ _ ∧ _ := ⟨Box.cell BX3.out 0 rfl, Box.cell BX3.out 1 rfl, Box.cell BX3.out 2 rfl, Box.cell BX3.out 3 rfl⟩
        clear hf HG
        go_wp2_with fail
        refine (notebytes_any xkey xval q xn.toNat _ (by omega) (by omega) (by omega) xn.toNat_lt).mono ?_
        rintro e w4 ⟨rfl, hb⟩
        have HB4 := Lib.hid (HB3.out.trans (hb.mono HB3.out.size))
        have HBu4 := Lib.hid (bld_below HBu3.out hb)
        clear hb k0 k1 k2 k3 HB3 HBu3 BX3
        obtain ⟨y, hy⟩ : ∃ y, y = (nS 1 q ++ (textS xkey ++ textS xval) ++ nS 8 xn.toNat) := ⟨_, rfl⟩
        have hy2 : y = kN.enc (l[k]'hkl) := by rw [← HX.out, hy]; show _ = noteB _; unfold noteB; simp only [Int.toNat_natCast]
        have hy3 : y.size ≤ 128 := by rw [hy]; exact hlen2
        rw [← hy]
        have HY := Lib.hid hy2
        clear hy hy2 hlen2
        go_wp2_with fail
        refine (write_any _ _ (Lib.byteCells (kN.ahead l k)) y _ HBu4.out (by rw [Lib.byteCells_length]; omega) HB4.out.size).mono ?_
        rintro e w5 ⟨rfl, hbu, hb⟩
        have HBu5 := Lib.hid (show Lib.IsBuilder 116 5 w.heap.size w.heap.size (Lib.byteCells (kN.ahead l (k + 1))) w5 from by
          rw [Kd.ahead_succ _ l k hkl, ← cells_append, ← HY.out]
          exact .inr hbu)
        have HB5 := Lib.hid (HB4.out.trans hb)
        clear hbu hb hlen hy3
        go_wp2
        go_roundw
        case rel => exact ⟨k + 1, by go_num, by omega, HG2, HBu5, HB5.out⟩
        case measure => simp [intOf]; omega
    · have hkn : k = l.length := by rw [HL.out]; omega
      obtain ⟨e1, e2⟩ := HYes.out (kN.may_all (by rw [HL.out]; exact h65) (fun i h => HG.out i h (by omega)))
      have h3 := HBu.out
      rw [hkn] at h3
      have HBu3 := Lib.hid h3
      have E1 := Lib.hid e1
      have E2 := Lib.hid e2
      clear h3 hkn HBu e1 e2
      go_wp2_with fail
      refine (Try.Builder_String_any _ _ (kN.ahead l l.length) _ HBu3.out hbr.size).mono ?_
      rintro e w3 ⟨rfl, hb⟩
      have HB3 := Lib.hid (hbr.trans hb)
      clear hb hbr
      rw [Kd.ahead_all]
      go_wp2
      go_ret2
      rw [E1.out, E2.out]
      exact ⟨rfl, HB3.out⟩

set_option maxRecDepth 100000 in
set_option maxHeartbeats 1000000 in
theorem notes_v (v : Value) (l : List Nt) (w : World) (h : NV w v l) (hn : l.length ≤ maxLen) :
    Calls Try.prog 12 #[v] w fun e w' => e = .returned (.tuple #[.string (kN.listS l), .int .i64 (kN.listE l)]) ∧ Below w.heap.size w w' := by
  obtain ⟨A, c, rfl, hA, _⟩ := h
  have hc := listn_any A c l w hA hn
  obtain ⟨S, hS⟩ : ∃ S, S = kN.listS l := ⟨_, rfl⟩
  obtain ⟨E, hE⟩ : ∃ E, E = kN.listE l := ⟨_, rfl⟩
  obtain ⟨n, hl⟩ : ∃ n, n = l.length := ⟨_, rfl⟩
  rw [← hS, ← hE, ← hl] at hc
  rw [← hS, ← hE, ← hl]
  have HC := Lib.hid hc
  clear hc hS hE hA hn hl
  go_enter Try.func12, Try.ntmps12
  go_wp2_with fail
  refine HC.out.mono ?_
  rintro e w1 ⟨rfl, hb⟩
  have HB := Lib.hid hb
  clear hb
  go_wp2
  go_ret2
  exact ⟨rfl, HB.out⟩

set_option maxRecDepth 100000 in
set_option maxHeartbeats 4000000 in
theorem listp_any (A : Option Addr) (c : Nat) (l : List Pr) (w : World) (hA : Prs w w.heap.size A l) (hn : l.length ≤ maxLen) :
    Calls Try.prog 41 #[.slice A l.length c, .func (.func 42) #[] #[], .func (.func 43) #[] #[]] w fun e w' => e = .returned (.tuple #[.string (kP.listS l), .int .i64 (kP.listE l)]) ∧ Below w.heap.size w w' := by
  unfold maxLen at hn
  obtain ⟨S, hS⟩ : ∃ S, S = kP.listS l := ⟨_, rfl⟩
  obtain ⟨E, hE⟩ : ∃ E, E = kP.listE l := ⟨_, rfl⟩
  rw [← hS, ← hE]
  have HNo := Lib.hid (show kP.may l = false → S = noB ∧ E = 1 from fun h => by rw [hS, hE]; exact kP.no_S h)
  have HYes := Lib.hid (show kP.may l = true → S = kP.list l ∧ E = 0 from fun h => by rw [hS, hE]; exact kP.yes_S h)
  clear hS hE
  obtain ⟨n, hl⟩ : ∃ n, l.length = n := ⟨_, rfl⟩
  rw [hl] at hn ⊢
  have HL := Lib.hid hl
  have HA := Lib.hid hA
  clear hl hA
  by_cases h65 : n ≤ 65535
  case neg =>
    have hd : decide (65535 < (n : Int)) = true := by simp; omega
    obtain ⟨e1, e2⟩ := HNo.out (kP.may_long (by rw [HL.out]; exact h65))
    have E1 := Lib.hid e1
    have E2 := Lib.hid e2
    clear e1 e2
    go_enter Try.func41, Try.ntmps41
    go_wp2
    go_ret2
    rw [E1.out, E2.out]
    exact ⟨rfl, Below.refl _ _⟩
  have hd : decide (65535 < (n : Int)) = false := by simp; omega
  have hd' : decide (65535 < n) = false := by simp; omega
  have hw := u64_nat n (by omega)
  go_enter Try.func41, Try.ntmps41
  go_wp2_with fail
  refine (fnum_any n 2 _ (by decide) (by decide) (by omega)).mono ?_
  rintro e w1 ⟨rfl, hb⟩
  have HBu := Lib.hid (bld_below (Lib.fresh_isBuilder 116 5 w) hb)
  have HB := Lib.hid (below1 hb)
  clear hb
  go_wp2_with fail
  refine (write_any _ _ [] (nS 2 n) _ HBu.out (by rw [nS_size]; show 0 + 2 ≤ _; omega) HB.out.size).mono ?_
  rintro e w2 ⟨rfl, hbu, hb⟩
  have HBu2 := Lib.hid (show Lib.IsBuilder 116 5 w.heap.size w.heap.size (Lib.byteCells (kP.ahead l 0)) w2 from by
    rw [Kd.ahead_zero, HL.out]
    have h := hbu
    simp only [List.nil_append] at h
    exact .inr h)
  have HB2 := Lib.hid (HB.out.trans hb)
  clear hbu hb HBu HB
  clear hw
  go_wp2
  go_loopw [21] (fun i wr => ∃ (k : Nat), i = .int .i64 k ∧ k ≤ n ∧ Hid (∀ i (h : i < l.length), i < k → kP.ok l[i] = true) ∧ Hid (Lib.IsBuilder 116 5 w.heap.size w.heap.size (Lib.byteCells (kP.ahead l k)) wr) ∧ Below w.heap.size w wr) (fun i _ => (n - intOf i).toNat)
  case atStart => exact ⟨0, rfl, by omega, fun i h h0 => by omega, HBu2, HB2.out⟩
  case round =>
    clear HBu2 HB2
    obtain ⟨k, rfl, hk, HG, HBu, hbr⟩ := hrel
    by_cases hlt : k < n
    · obtain ⟨ad, rfl, hab, hca⟩ := (HA.out.below hbr).seeP (by rw [HL.out]; omega)
      have hkl : k < l.length := by rw [HL.out]; exact hlt
      obtain ⟨c0, c1⟩ := hca k hkl
      obtain ⟨x, hx⟩ : ∃ x, x = l[k]'hkl := ⟨_, rfl⟩
      rw [← hx] at c0 c1
      have HX := Lib.hid hx
      clear hx hca
      obtain ⟨xkey, xval⟩ := x
      simp only at c0 c1
      have hlt3 : (ad.add (k * 2)).block < w.heap.size := by rw [block_of_add]; exact hab
      have hbs := hbr.size
      obtain ⟨wx, hwx⟩ : ∃ wx, wx = wr.alloc (.cells #[.string xkey, .string xval] 66) := ⟨_, rfl⟩
      obtain ⟨gx, hgx⟩ : ∃ gx, gx = wr.heap.size := ⟨_, rfl⟩
      have hbx : Box wx gx 66 #[.string xkey, .string xval] := by rw [hwx]; exact Box.at_ wr _ _ hgx
      have hbw : Below wr.heap.size wr wx := by rw [hwx]; exact (Below.refl _ _).alloc (Nat.le_refl _) _
      have HB1 := Lib.hid (hbr.trans (hbw.mono hbs))
      have HBu1 := Lib.hid (bld_below HBu.out hbw)
      have BX := Lib.hid hbx
      clear hbx hbw
      go_upto_region 8 with fail
      rw [← hgx, ← hwx]
      clear hgx hwx c0 c1 hbr hbs HBu
      obtain ⟨k0, k1⟩ : _ ∧ _ := ⟨Box.cell BX.out 0 rfl, Box.cell BX.out 1 rfl⟩
      go_wp2_with fail
      refine (maypair_any xkey xval _).mono ?_
      rintro e w3 ⟨rfl, hb⟩
      have HB3 := Lib.hid (HB1.out.trans (hb.mono HB1.out.size))
      have HBu3 := Lib.hid (bld_below HBu1.out hb)
      have BX3 := Lib.hid (BX.out.on hb)
      clear hb k0 k1 HB1 HBu1 BX
      cases hf : fitsP ⟨xkey, xval⟩ with
      | false =>
        obtain ⟨e1, e2⟩ := HNo.out (kP.may_no k hkl (by rw [← HX.out]; exact hf))
        have E1 := Lib.hid e1
        have E2 := Lib.hid e2
        clear hf e1 e2
        go_wp2
        go_ret2
        rw [E1.out, E2.out]
        exact ⟨rfl, HB3.out⟩
      | true =>
        have HF := Lib.hid hf
        have HG2 := Lib.hid (show ∀ i (h : i < l.length), i < k + 1 → kP.ok l[i] = true from fun i h h1 => by
          by_cases hi : i < k
          · exact HG.out i h hi
          · have : i = k := by omega
            subst this
            rw [← HX.out]; exact hf)
        have hlen := kP.ahead_len (Nat.le_of_lt hkl) HG.out
        have hlen2 := (kP.len hf).2
        obtain ⟨hk16, hv32⟩ := (fitsP_iff _).1 hf
        simp only at hk16 hv32
        obtain ⟨k0, k1⟩ : _ ∧ _ := ⟨Box.cell BX3.out 0 rfl, Box.cell BX3.out 1 rfl⟩
        clear hf HG
        go_wp2_with fail
        refine (pairbytes_any xkey xval _ (by omega) (by omega)).mono ?_
        rintro e w4 ⟨rfl, hb⟩
        have HB4 := Lib.hid (HB3.out.trans (hb.mono HB3.out.size))
        have HBu4 := Lib.hid (bld_below HBu3.out hb)
        clear hb k0 k1 HB3 HBu3 BX3
        obtain ⟨y, hy⟩ : ∃ y, y = (textS xkey ++ textS xval) := ⟨_, rfl⟩
        have hy2 : y = kP.enc (l[k]'hkl) := by rw [← HX.out, hy]; rfl
        have hy3 : y.size ≤ 128 := by rw [hy]; exact hlen2
        rw [← hy]
        have HY := Lib.hid hy2
        clear hy hy2 hlen2
        go_wp2_with fail
        refine (write_any _ _ (Lib.byteCells (kP.ahead l k)) y _ HBu4.out (by rw [Lib.byteCells_length]; omega) HB4.out.size).mono ?_
        rintro e w5 ⟨rfl, hbu, hb⟩
        have HBu5 := Lib.hid (show Lib.IsBuilder 116 5 w.heap.size w.heap.size (Lib.byteCells (kP.ahead l (k + 1))) w5 from by
          rw [Kd.ahead_succ _ l k hkl, ← cells_append, ← HY.out]
          exact .inr hbu)
        have HB5 := Lib.hid (HB4.out.trans hb)
        clear hbu hb hlen hy3
        go_wp2
        go_roundw
        case rel => exact ⟨k + 1, by go_num, by omega, HG2, HBu5, HB5.out⟩
        case measure => simp [intOf]; omega
    · have hkn : k = l.length := by rw [HL.out]; omega
      obtain ⟨e1, e2⟩ := HYes.out (kP.may_all (by rw [HL.out]; exact h65) (fun i h => HG.out i h (by omega)))
      have h3 := HBu.out
      rw [hkn] at h3
      have HBu3 := Lib.hid h3
      have E1 := Lib.hid e1
      have E2 := Lib.hid e2
      clear h3 hkn HBu e1 e2
      go_wp2_with fail
      refine (Try.Builder_String_any _ _ (kP.ahead l l.length) _ HBu3.out hbr.size).mono ?_
      rintro e w3 ⟨rfl, hb⟩
      have HB3 := Lib.hid (hbr.trans hb)
      clear hb hbr
      rw [Kd.ahead_all]
      go_wp2
      go_ret2
      rw [E1.out, E2.out]
      exact ⟨rfl, HB3.out⟩

set_option maxRecDepth 100000 in
set_option maxHeartbeats 1000000 in
theorem pairs_v (v : Value) (l : List Pr) (w : World) (h : PV w v l) (hn : l.length ≤ maxLen) :
    Calls Try.prog 13 #[v] w fun e w' => e = .returned (.tuple #[.string (kP.listS l), .int .i64 (kP.listE l)]) ∧ Below w.heap.size w w' := by
  obtain ⟨A, c, rfl, hA, _⟩ := h
  have hc := listp_any A c l w hA hn
  obtain ⟨S, hS⟩ : ∃ S, S = kP.listS l := ⟨_, rfl⟩
  obtain ⟨E, hE⟩ : ∃ E, E = kP.listE l := ⟨_, rfl⟩
  obtain ⟨n, hl⟩ : ∃ n, n = l.length := ⟨_, rfl⟩
  rw [← hS, ← hE, ← hl] at hc
  rw [← hS, ← hE, ← hl]
  have HC := Lib.hid hc
  clear hc hS hE hA hn hl
  go_enter Try.func13, Try.ntmps13
  go_wp2_with fail
  refine HC.out.mono ?_
  rintro e w1 ⟨rfl, hb⟩
  have HB := Lib.hid hb
  clear hb
  go_wp2
  go_ret2
  exact ⟨rfl, HB.out⟩

set_option maxRecDepth 100000 in
set_option maxHeartbeats 4000000 in
theorem listc_any (A : Option Addr) (c : Nat) (l : List Ch) (w : World) (hA : Chs w w.heap.size A l) (hn : l.length ≤ maxLen) :
    Calls Try.prog 44 #[.slice A l.length c, .func (.func 20) #[] #[], .func (.func 45) #[] #[]] w fun e w' => e = .returned (.tuple #[.string (kC.listS l), .int .i64 (kC.listE l)]) ∧ Below w.heap.size w w' := by
  unfold maxLen at hn
  obtain ⟨S, hS⟩ : ∃ S, S = kC.listS l := ⟨_, rfl⟩
  obtain ⟨E, hE⟩ : ∃ E, E = kC.listE l := ⟨_, rfl⟩
  rw [← hS, ← hE]
  have HNo := Lib.hid (show kC.may l = false → S = noB ∧ E = 1 from fun h => by rw [hS, hE]; exact kC.no_S h)
  have HYes := Lib.hid (show kC.may l = true → S = kC.list l ∧ E = 0 from fun h => by rw [hS, hE]; exact kC.yes_S h)
  clear hS hE
  obtain ⟨n, hl⟩ : ∃ n, l.length = n := ⟨_, rfl⟩
  rw [hl] at hn ⊢
  have HL := Lib.hid hl
  have HA := Lib.hid hA
  clear hl hA
  by_cases h65 : n ≤ 65535
  case neg =>
    have hd : decide (65535 < (n : Int)) = true := by simp; omega
    obtain ⟨e1, e2⟩ := HNo.out (kC.may_long (by rw [HL.out]; exact h65))
    have E1 := Lib.hid e1
    have E2 := Lib.hid e2
    clear e1 e2
    go_enter Try.func44, Try.ntmps44
    go_wp2
    go_ret2
    rw [E1.out, E2.out]
    exact ⟨rfl, Below.refl _ _⟩
  have hd : decide (65535 < (n : Int)) = false := by simp; omega
  have hd' : decide (65535 < n) = false := by simp; omega
  have hw := u64_nat n (by omega)
  go_enter Try.func44, Try.ntmps44
  go_wp2_with fail
  refine (fnum_any n 2 _ (by decide) (by decide) (by omega)).mono ?_
  rintro e w1 ⟨rfl, hb⟩
  have HBu := Lib.hid (bld_below (Lib.fresh_isBuilder 116 5 w) hb)
  have HB := Lib.hid (below1 hb)
  clear hb
  go_wp2_with fail
  refine (write_any _ _ [] (nS 2 n) _ HBu.out (by rw [nS_size]; show 0 + 2 ≤ _; omega) HB.out.size).mono ?_
  rintro e w2 ⟨rfl, hbu, hb⟩
  have HBu2 := Lib.hid (show Lib.IsBuilder 116 5 w.heap.size w.heap.size (Lib.byteCells (kC.ahead l 0)) w2 from by
    rw [Kd.ahead_zero, HL.out]
    have h := hbu
    simp only [List.nil_append] at h
    exact .inr h)
  have HB2 := Lib.hid (HB.out.trans hb)
  clear hbu hb HBu HB
  clear hw
  go_wp2
  go_loopw [21] (fun i wr => ∃ (k : Nat), i = .int .i64 k ∧ k ≤ n ∧ Hid (∀ i (h : i < l.length), i < k → kC.ok l[i] = true) ∧ Hid (Lib.IsBuilder 116 5 w.heap.size w.heap.size (Lib.byteCells (kC.ahead l k)) wr) ∧ Below w.heap.size w wr) (fun i _ => (n - intOf i).toNat)
  case atStart => exact ⟨0, rfl, by omega, fun i h h0 => by omega, HBu2, HB2.out⟩
  case round =>
    clear HBu2 HB2
    obtain ⟨k, rfl, hk, HG, HBu, hbr⟩ := hrel
    by_cases hlt : k < n
    · obtain ⟨ad, rfl, hab, hca⟩ := (HA.out.below hbr).seeC (by rw [HL.out]; omega)
      have hkl : k < l.length := by rw [HL.out]; exact hlt
      obtain ⟨c0, c1, c2, c3, c4, c5⟩ := hca k hkl
      obtain ⟨x, hx⟩ : ∃ x, x = l[k]'hkl := ⟨_, rfl⟩
      rw [← hx] at c0 c1 c2 c3 c4 c5
      have HX := Lib.hid hx
      clear hx hca
      obtain ⟨xs, xkey, had, xb, has, xa⟩ := x
      simp only at c0 c1 c2 c3 c4 c5
      have hlt3 : (ad.add (k * 6)).block < w.heap.size := by rw [block_of_add]; exact hab
      have hbs := hbr.size
      obtain ⟨wx, hwx⟩ : ∃ wx, wx = wr.alloc (.cells #[.int .i64 xs, .string xkey, .bool had, .string xb, .bool has, .string xa] 42) := ⟨_, rfl⟩
      obtain ⟨gx, hgx⟩ : ∃ gx, gx = wr.heap.size := ⟨_, rfl⟩
      have hbx : Box wx gx 42 #[.int .i64 xs, .string xkey, .bool had, .string xb, .bool has, .string xa] := by rw [hwx]; exact Box.at_ wr _ _ hgx
      have hbw : Below wr.heap.size wr wx := by rw [hwx]; exact (Below.refl _ _).alloc (Nat.le_refl _) _
      have HB1 := Lib.hid (hbr.trans (hbw.mono hbs))
      have HBu1 := Lib.hid (bld_below HBu.out hbw)
      have BX := Lib.hid hbx
      clear hbx hbw
      go_upto_region 8 with fail
      rw [← hgx, ← hwx]
      clear hgx hwx c0 c1 c2 c3 c4 c5 hbr hbs HBu
      obtain ⟨k0, k1, k2, k3, k4, k5⟩ : _ ∧ _ ∧ _ ∧ _ ∧ _ ∧ _ := ⟨Box.cell BX.out 0 rfl, Box.cell BX.out 1 rfl, Box.cell BX.out 2 rfl, Box.cell BX.out 3 rfl, Box.cell BX.out 4 rfl, Box.cell BX.out 5 rfl⟩
      go_wp2_with fail
      refine (may_any xs xkey had xb has xa _).mono ?_
      rintro e w3 ⟨rfl, hb⟩
      have HB3 := Lib.hid (HB1.out.trans (hb.mono HB1.out.size))
      have HBu3 := Lib.hid (bld_below HBu1.out hb)
      have BX3 := Lib.hid (BX.out.on hb)
      clear hb k0 k1 k2 k3 k4 k5 HB1 HBu1 BX
      cases hf : mayC ⟨xs, xkey, had, xb, has, xa⟩ with
      | false =>
        obtain ⟨e1, e2⟩ := HNo.out (kC.may_no k hkl (by rw [← HX.out]; exact hf))
        have E1 := Lib.hid e1
        have E2 := Lib.hid e2
        clear hf e1 e2
        go_wp2
        go_ret2
        rw [E1.out, E2.out]
        exact ⟨rfl, HB3.out⟩
      | true =>
        have HF := Lib.hid hf
        have HG2 := Lib.hid (show ∀ i (h : i < l.length), i < k + 1 → kC.ok l[i] = true from fun i h h1 => by
          by_cases hi : i < k
          · exact HG.out i h hi
          · have : i = k := by omega
            subst this
            rw [← HX.out]; exact hf)
        have hlen := kC.ahead_len (Nat.le_of_lt hkl) HG.out
        have hlen2 := (kC.len hf).2
        obtain ⟨hs1, hs2, hk16, hb32, ha32⟩ := may_of hf
        simp only at hs1 hs2 hk16 hb32 ha32
        obtain ⟨q, hq⟩ := Int.eq_ofNat_of_zero_le (show 0 ≤ xs by omega)
        subst hq
        have hq3 : q ≤ 2147483647 := by omega
        clear hs1 hs2
        obtain ⟨k0, k1, k2, k3, k4, k5⟩ : _ ∧ _ ∧ _ ∧ _ ∧ _ ∧ _ := ⟨Box.cell BX3.out 0 rfl, Box.cell BX3.out 1 rfl, Box.cell BX3.out 2 rfl, Box.cell BX3.out 3 rfl, Box.cell BX3.out 4 rfl, Box.cell BX3.out 5 rfl⟩
        clear hf HG
        go_wp2_with fail
        refine (chbytes_any xkey xb xa had has q _ (by omega) (by omega) (by omega) (by omega)).mono ?_
        rintro e w4 ⟨rfl, hb⟩
        have HB4 := Lib.hid (HB3.out.trans (hb.mono HB3.out.size))
        have HBu4 := Lib.hid (bld_below HBu3.out hb)
        clear hb k0 k1 k2 k3 k4 k5 HB3 HBu3 BX3
        obtain ⟨y, hy⟩ : ∃ y, y = (nS 4 q ++ textS xkey ++ (fS had ++ textS xb) ++ (fS has ++ textS xa)) := ⟨_, rfl⟩
        have hy2 : y = kC.enc (l[k]'hkl) := by rw [← HX.out, hy]; show _ = chB _; unfold chB; simp only [Int.toNat_natCast]
        have hy3 : y.size ≤ 128 := by rw [hy]; exact hlen2
        rw [← hy]
        have HY := Lib.hid hy2
        clear hy hy2 hlen2
        go_wp2_with fail
        refine (write_any _ _ (Lib.byteCells (kC.ahead l k)) y _ HBu4.out (by rw [Lib.byteCells_length]; omega) HB4.out.size).mono ?_
        rintro e w5 ⟨rfl, hbu, hb⟩
        have HBu5 := Lib.hid (show Lib.IsBuilder 116 5 w.heap.size w.heap.size (Lib.byteCells (kC.ahead l (k + 1))) w5 from by
          rw [Kd.ahead_succ _ l k hkl, ← cells_append, ← HY.out]
          exact .inr hbu)
        have HB5 := Lib.hid (HB4.out.trans hb)
        clear hbu hb hlen hy3
        go_wp2
        go_roundw
        case rel => exact ⟨k + 1, by go_num, by omega, HG2, HBu5, HB5.out⟩
        case measure => simp [intOf]; omega
    · have hkn : k = l.length := by rw [HL.out]; omega
      obtain ⟨e1, e2⟩ := HYes.out (kC.may_all (by rw [HL.out]; exact h65) (fun i h => HG.out i h (by omega)))
      have h3 := HBu.out
      rw [hkn] at h3
      have HBu3 := Lib.hid h3
      have E1 := Lib.hid e1
      have E2 := Lib.hid e2
      clear h3 hkn HBu e1 e2
      go_wp2_with fail
      refine (Try.Builder_String_any _ _ (kC.ahead l l.length) _ HBu3.out hbr.size).mono ?_
      rintro e w3 ⟨rfl, hb⟩
      have HB3 := Lib.hid (hbr.trans hb)
      clear hb hbr
      rw [Kd.ahead_all]
      go_wp2
      go_ret2
      rw [E1.out, E2.out]
      exact ⟨rfl, HB3.out⟩

set_option maxRecDepth 100000 in
set_option maxHeartbeats 1000000 in
theorem changes_v (v : Value) (l : List Ch) (w : World) (h : CV w v l) (hn : l.length ≤ maxLen) :
    Calls Try.prog 14 #[v] w fun e w' => e = .returned (.tuple #[.string (kC.listS l), .int .i64 (kC.listE l)]) ∧ Below w.heap.size w w' := by
  obtain ⟨A, c, rfl, hA, _⟩ := h
  have hc := listc_any A c l w hA hn
  obtain ⟨S, hS⟩ : ∃ S, S = kC.listS l := ⟨_, rfl⟩
  obtain ⟨E, hE⟩ : ∃ E, E = kC.listE l := ⟨_, rfl⟩
  obtain ⟨n, hl⟩ : ∃ n, n = l.length := ⟨_, rfl⟩
  rw [← hS, ← hE, ← hl] at hc
  rw [← hS, ← hE, ← hl]
  have HC := Lib.hid hc
  clear hc hS hE hA hn hl
  go_enter Try.func14, Try.ntmps14
  go_wp2_with fail
  refine HC.out.mono ?_
  rintro e w1 ⟨rfl, hb⟩
  have HB := Lib.hid hb
  clear hb
  go_wp2
  go_ret2
  exact ⟨rfl, HB.out⟩

end Go.Proofs.Ytfbcmcckgjfdhaa
