/- The walks of the laws' short, fit and told. -/
import Derived.Test.YtfbcmcckgjfdhaaFg
set_option linter.unusedVariables false
set_option linter.unusedSimpArgs false
namespace Go.Proofs.Ytfbcmcckgjfdhaa
open Go.RowKit Go.Sort

set_option maxRecDepth 100000 in
set_option maxHeartbeats 2000000 in
theorem short_any (A : Option Addr) (c : Nat) (ss : List ByteArray) (n : Nat) (w : World) (hl : ss.length = n) (hA : Strs w w.heap.size A ss) (hn : n ≤ maxLen) :
    Calls Try.prog 10 #[.slice A n c] w fun e w' => ∃ R : Bool, e = .returned (.bool R) ∧ (R = true → ∀ x ∈ ss, x.size ≤ 300) ∧ Below w.heap.size w w' := by
  unfold maxLen at hn
  have HL := Lib.hid hl
  have HA := Lib.hid hA
  clear hl hA
  go_enter Try.func10, Try.ntmps10
  go_wp2
  go_loopw [7] (fun i wr => ∃ (k : Nat), i = .int .i64 k ∧ k ≤ n ∧ Hid (∀ i (h : i < ss.length), i < k → (ss[i]).size ≤ 300) ∧ w = wr) (fun i _ => (n - intOf i).toNat)
  case atStart => exact ⟨0, rfl, by omega, fun i h h0 => by omega, rfl⟩
  case round =>
    obtain ⟨k, rfl, hk, HG, rfl⟩ := hrel
    by_cases hlt : k < n
    · obtain ⟨a1, rfl, hab, hca⟩ := HA.out (by rw [HL.out]; omega)
      have hkl : k < ss.length := by rw [HL.out]; exact hlt
      have c1 := hca k hkl
      obtain ⟨x, hx⟩ : ∃ x, x = ss[k]'hkl := ⟨_, rfl⟩
      rw [← hx] at c1
      have HX := Lib.hid hx
      clear hx hca
      by_cases h3 : x.size ≤ 300
      · have hd : decide (300 < (x.size : Int)) = false := by simp; omega
        have HG2 := Lib.hid (show ∀ i (h : i < ss.length), i < k + 1 → (ss[i]).size ≤ 300 from fun i h h1 => by
          by_cases hi : i < k
          · exact HG.out i h hi
          · have : i = k := by omega
            subst this
            rw [← HX.out]; exact h3)
        clear h3 HG
        go_wp2
        go_roundw
        case rel => exact ⟨k + 1, by go_num, by omega, HG2, trivial⟩
        case measure => simp [intOf]; omega
      · have hd : decide (300 < (x.size : Int)) = true := by simp; omega
        clear h3
        go_wp2
        go_ret
        exact ⟨false, rfl, fun h => absurd h (by decide), Below.refl _ _⟩
    · have HE := Lib.hid (show ∀ x ∈ ss, x.size ≤ 300 from fun x hx => by
        obtain ⟨i, hi, rfl⟩ := List.getElem_of_mem hx
        exact HG.out i hi (by rw [HL.out] at hi; omega))
      go_wp2
      go_ret
      exact ⟨true, rfl, fun _ => HE.out, Below.refl _ _⟩

theorem strs_three (w : World) (t : TypeId) (x y z : ByteArray) : Strs (w.alloc (.cells #[.string x, .string y, .string z] t)) (w.heap.size + 1) (some ⟨w.heap.size, 0, none⟩) [x, y, z] := by
  intro _
  refine ⟨_, rfl, by simp, fun i hi => ?_⟩
  match i, hi with
  | 0, _ => simp [Addr.add]
  | 1, _ => simp [Addr.add]
  | 2, _ => simp [Addr.add]
theorem short_one (x : ByteArray) (w : World) (t : TypeId) :
    Calls Try.prog 10 #[.slice (some ⟨w.heap.size, 0, none⟩) 1 1] (w.alloc (.cells #[.string x] t)) fun e w' => ∃ R : Bool, e = .returned (.bool R) ∧ (R = true → x.size ≤ 300) ∧ Below w.heap.size w w' :=
  (short_any _ 1 [x] 1 _ rfl (by simpa using strs_one w t x) (by unfold maxLen; omega)).mono fun e w' h => by
    obtain ⟨R, e1, e2, e3⟩ := h
    exact ⟨R, e1, fun h => e2 h x (by simp), below1 e3⟩
theorem short_two (x y : ByteArray) (w : World) (t : TypeId) :
    Calls Try.prog 10 #[.slice (some ⟨w.heap.size, 0, none⟩) 2 2] (w.alloc (.cells #[.string x, .string y] t)) fun e w' => ∃ R : Bool, e = .returned (.bool R) ∧ (R = true → x.size ≤ 300 ∧ y.size ≤ 300) ∧ Below w.heap.size w w' :=
  (short_any _ 2 [x, y] 2 _ rfl (by simpa using strs_two w t x y) (by unfold maxLen; omega)).mono fun e w' h => by
    obtain ⟨R, e1, e2, e3⟩ := h
    exact ⟨R, e1, fun h => ⟨e2 h x (by simp), e2 h y (by simp)⟩, below1 e3⟩
theorem short_three (x y z : ByteArray) (w : World) (t : TypeId) :
    Calls Try.prog 10 #[.slice (some ⟨w.heap.size, 0, none⟩) 3 3] (w.alloc (.cells #[.string x, .string y, .string z] t)) fun e w' => ∃ R : Bool, e = .returned (.bool R) ∧ (R = true → x.size ≤ 300 ∧ y.size ≤ 300 ∧ z.size ≤ 300) ∧ Below w.heap.size w w' :=
  (short_any _ 3 [x, y, z] 3 _ rfl (by simpa using strs_three w t x y z) (by unfold maxLen; omega)).mono fun e w' h => by
    obtain ⟨R, e1, e2, e3⟩ := h
    exact ⟨R, e1, fun h => ⟨e2 h x (by simp), e2 h y (by simp), e2 h z (by simp)⟩, below1 e3⟩

set_option maxRecDepth 100000 in
set_option maxHeartbeats 4000000 in
theorem fit_any (A B C : Option Addr) (a b c : Nat) (ln : List Nt) (lp : List Pr) (lc : List Ch) (w : World) (hA : Nts w w.heap.size A ln) (hB : Prs w w.heap.size B lp) (hC : Chs w w.heap.size C lc) :
    Calls Try.prog 9 #[.slice A ln.length a, .slice B lp.length b, .slice C lc.length c] w fun e w' => ∃ R : Bool, e = .returned (.bool R) ∧ (R = true → ln.length ≤ 30 ∧ lp.length ≤ 30 ∧ lc.length ≤ 30) ∧ Below w.heap.size w w' := by
  obtain ⟨n, hn⟩ : ∃ n, ln.length = n := ⟨_, rfl⟩
  obtain ⟨m, hm⟩ : ∃ m, lp.length = m := ⟨_, rfl⟩
  obtain ⟨o, ho⟩ : ∃ o, lc.length = o := ⟨_, rfl⟩
  rw [hn, hm, ho]
  have HLN := Lib.hid hn
  have HLP := Lib.hid hm
  have HLC := Lib.hid ho
  have HA := Lib.hid hA
  have HB := Lib.hid hB
  have HC := Lib.hid hC
  clear hn hm ho hA hB hC
  by_cases h1 : n ≤ 30
  case neg =>
    have hd1 : decide (30 < (n : Int)) = true := by simp; omega
    have hd1' : decide (30 < n) = true := by simp; omega
    go_enter Try.func9, Try.ntmps9
    go_wp2
    go_ret
    exact ⟨false, rfl, fun h => absurd h (by decide), Below.refl _ _⟩
  have hd1 : decide (30 < (n : Int)) = false := by simp; omega
  have hd1' : decide (30 < n) = false := by simp; omega
  by_cases h2 : m ≤ 30
  case neg =>
    have hd2 : decide (30 < (m : Int)) = true := by simp; omega
    have hd2' : decide (30 < m) = true := by simp; omega
    go_enter Try.func9, Try.ntmps9
    go_wp2
    go_ret
    exact ⟨false, rfl, fun h => absurd h (by decide), Below.refl _ _⟩
  have hd2 : decide (30 < (m : Int)) = false := by simp; omega
  have hd2' : decide (30 < m) = false := by simp; omega
  by_cases h3 : o ≤ 30
  case neg =>
    have hd3 : decide (30 < (o : Int)) = true := by simp; omega
    have hd3' : decide (30 < o) = true := by simp; omega
    go_enter Try.func9, Try.ntmps9
    go_wp2
    go_ret
    exact ⟨false, rfl, fun h => absurd h (by decide), Below.refl _ _⟩
  have hd3 : decide (30 < (o : Int)) = false := by simp; omega
  have hd3' : decide (30 < o) = false := by simp; omega
  have HALL := Lib.hid (show n ≤ 30 ∧ m ≤ 30 ∧ o ≤ 30 from ⟨h1, h2, h3⟩)
  go_enter Try.func9, Try.ntmps9
  go_wp2
  go_loopw [28] (fun i wr => ∃ (k : Nat), i = .int .i64 k ∧ k ≤ n ∧ Below w.heap.size w wr) (fun i _ => (n - intOf i).toNat)
  case atStart => exact ⟨0, rfl, by omega, Below.refl _ _⟩
  case round =>
    obtain ⟨k, rfl, hk, hbr⟩ := hrel
    by_cases hlt : k < n
    · obtain ⟨ad, rfl, hab, hca⟩ := (HA.out.below hbr).seeN (by rw [HLN.out]; omega)
      obtain ⟨c0, c1, c2, c3⟩ := hca k (by rw [HLN.out]; exact hlt)
      obtain ⟨x, hx⟩ : ∃ x, x = ln[k]'(by rw [HLN.out]; exact hlt) := ⟨_, rfl⟩
      rw [← hx] at c0 c1 c2 c3
      clear hx hca
      obtain ⟨xk, xkey, xval, xn⟩ := x
      simp only at c0 c1 c2 c3
      have hlt3 : (ad.add (k * 4)).block < w.heap.size := by rw [block_of_add]; exact hab
      have hbs := hbr.size
      obtain ⟨wx, hwx⟩ : ∃ wx, wx = wr.alloc (.cells #[.int .i64 xk, .string xkey, .string xval, .int .u64 (xn.toNat : Int)] 62) := ⟨_, rfl⟩
      obtain ⟨gx, hgx⟩ : ∃ gx, gx = wr.heap.size := ⟨_, rfl⟩
      have hbx : Box wx gx 62 #[.int .i64 xk, .string xkey, .string xval, .int .u64 (xn.toNat : Int)] := by rw [hwx]; exact Box.at_ wr _ _ hgx
      have HB1 := Lib.hid (hbr.trans (show Below w.heap.size wr wx from by rw [hwx]; exact ((Below.refl _ _).alloc (Nat.le_refl _) _).mono hbs))
      obtain ⟨k0, k1, k2, k3⟩ : _ ∧ _ ∧ _ ∧ _ := ⟨Box.cell hbx 0 rfl, Box.cell hbx 1 rfl, Box.cell hbx 2 rfl, Box.cell hbx 3 rfl⟩
      go_upto_region 6 with fail
      rw [← hgx, ← hwx]
      clear hgx hwx c0 c1 c2 c3 hbx hbr hbs
      go_wp2_with fail
      refine (short_two xkey xval wx _).mono ?_
      rintro e w3 ⟨R, rfl, _, hb⟩
      have HB3 := Lib.hid (HB1.out.trans (hb.mono HB1.out.size))
      clear hb HB1 k0 k1 k2 k3
      cases R with
      | false =>
        go_wp2
        go_ret
        exact ⟨false, rfl, fun h => absurd h (by decide), HB3.out⟩
      | true =>
        go_wp2
        go_roundw
        case rel => exact ⟨k + 1, by go_num, by omega, HB3.out⟩
        case measure => simp [intOf]; omega
    · have HB4 := Lib.hid hbr
      clear hbr
      go_wp2
      clear hk hlt
      go_loopw [42] (fun i wr => ∃ (k : Nat), i = .int .i64 k ∧ k ≤ m ∧ Below w.heap.size w wr) (fun i _ => (m - intOf i).toNat)
      case atStart => exact ⟨0, rfl, by omega, HB4.out⟩
      case round =>
        obtain ⟨k, rfl, hk, hbr⟩ := hrel
        by_cases hlt : k < m
        · obtain ⟨ad, rfl, hab, hca⟩ := (HB.out.below hbr).seeP (by rw [HLP.out]; omega)
          obtain ⟨c0, c1⟩ := hca k (by rw [HLP.out]; exact hlt)
          obtain ⟨x, hx⟩ : ∃ x, x = lp[k]'(by rw [HLP.out]; exact hlt) := ⟨_, rfl⟩
          rw [← hx] at c0 c1
          clear hx hca
          obtain ⟨xkey, xval⟩ := x
          simp only at c0 c1
          have hlt3 : (ad.add (k * 2)).block < w.heap.size := by rw [block_of_add]; exact hab
          have hbs := hbr.size
          obtain ⟨wx, hwx⟩ : ∃ wx, wx = wr.alloc (.cells #[.string xkey, .string xval] 66) := ⟨_, rfl⟩
          obtain ⟨gx, hgx⟩ : ∃ gx, gx = wr.heap.size := ⟨_, rfl⟩
          have hbx : Box wx gx 66 #[.string xkey, .string xval] := by rw [hwx]; exact Box.at_ wr _ _ hgx
          have HB1 := Lib.hid (hbr.trans (show Below w.heap.size wr wx from by rw [hwx]; exact ((Below.refl _ _).alloc (Nat.le_refl _) _).mono hbs))
          obtain ⟨k0, k1⟩ : _ ∧ _ := ⟨Box.cell hbx 0 rfl, Box.cell hbx 1 rfl⟩
          go_upto_region 12 with fail
          rw [← hgx, ← hwx]
          clear hgx hwx c0 c1 hbx hbr hbs
          go_wp2_with fail
          refine (short_two xkey xval wx _).mono ?_
          rintro e w3 ⟨R, rfl, _, hb⟩
          have HB3 := Lib.hid (HB1.out.trans (hb.mono HB1.out.size))
          clear hb HB1 k0 k1
          cases R with
          | false =>
            go_wp2
            go_ret
            exact ⟨false, rfl, fun h => absurd h (by decide), HB3.out⟩
          | true =>
            go_wp2
            go_roundw
            case rel => exact ⟨k + 1, by go_num, by omega, HB3.out⟩
            case measure => simp [intOf]; omega
        · have HB5 := Lib.hid hbr
          clear hbr
          go_wp2
          clear hk hlt
          go_loopw [56] (fun i wr => ∃ (k : Nat), i = .int .i64 k ∧ k ≤ o ∧ Below w.heap.size w wr) (fun i _ => (o - intOf i).toNat)
          case atStart => exact ⟨0, rfl, by omega, HB5.out⟩
          case round =>
            obtain ⟨k, rfl, hk, hbr⟩ := hrel
            by_cases hlt : k < o
            · obtain ⟨ad, rfl, hab, hca⟩ := (HC.out.below hbr).seeC (by rw [HLC.out]; omega)
              obtain ⟨c0, c1, c2, c3, c4, c5⟩ := hca k (by rw [HLC.out]; exact hlt)
              obtain ⟨x, hx⟩ : ∃ x, x = lc[k]'(by rw [HLC.out]; exact hlt) := ⟨_, rfl⟩
              rw [← hx] at c0 c1 c2 c3 c4 c5
              clear hx hca
              obtain ⟨xs, xkey, had, xb, has, xa⟩ := x
              simp only at c0 c1 c2 c3 c4 c5
              have hlt3 : (ad.add (k * 6)).block < w.heap.size := by rw [block_of_add]; exact hab
              have hbs := hbr.size
              obtain ⟨wx, hwx⟩ : ∃ wx, wx = wr.alloc (.cells #[.int .i64 xs, .string xkey, .bool had, .string xb, .bool has, .string xa] 42) := ⟨_, rfl⟩
              obtain ⟨gx, hgx⟩ : ∃ gx, gx = wr.heap.size := ⟨_, rfl⟩
              have hbx : Box wx gx 42 #[.int .i64 xs, .string xkey, .bool had, .string xb, .bool has, .string xa] := by rw [hwx]; exact Box.at_ wr _ _ hgx
              have HB1 := Lib.hid (hbr.trans (show Below w.heap.size wr wx from by rw [hwx]; exact ((Below.refl _ _).alloc (Nat.le_refl _) _).mono hbs))
              obtain ⟨k0, k1, k2, k3, k4, k5⟩ : _ ∧ _ ∧ _ ∧ _ ∧ _ ∧ _ := ⟨Box.cell hbx 0 rfl, Box.cell hbx 1 rfl, Box.cell hbx 2 rfl, Box.cell hbx 3 rfl, Box.cell hbx 4 rfl, Box.cell hbx 5 rfl⟩
              go_upto_region 18 with fail
              rw [← hgx, ← hwx]
              clear hgx hwx c0 c1 c2 c3 c4 c5 hbx hbr hbs
              go_wp2_with fail
              refine (short_three xkey xb xa wx _).mono ?_
              rintro e w3 ⟨R, rfl, _, hb⟩
              have HB3 := Lib.hid (HB1.out.trans (hb.mono HB1.out.size))
              clear hb HB1 k0 k1 k2 k3 k4 k5
              cases R with
              | false =>
                go_wp2
                go_ret
                exact ⟨false, rfl, fun h => absurd h (by decide), HB3.out⟩
              | true =>
                go_wp2
                go_roundw
                case rel => exact ⟨k + 1, by go_num, by omega, HB3.out⟩
                case measure => simp [intOf]; omega
            · have HB6 := Lib.hid hbr
              clear hbr
              go_wp2
              clear hk hlt
              go_ret
              exact ⟨true, rfl, fun _ => HALL.out, HB6.out⟩

theorem fit_v (vn vp vc : Value) (ln : List Nt) (lp : List Pr) (lc : List Ch) (w : World) (hn : NV w vn ln) (hp : PV w vp lp) (hc : CV w vc lc) :
    Calls Try.prog 9 #[vn, vp, vc] w fun e w' => ∃ R : Bool, e = .returned (.bool R) ∧ (R = true → ln.length ≤ 30 ∧ lp.length ≤ 30 ∧ lc.length ≤ 30) ∧ Below w.heap.size w w' := by
  obtain ⟨A, a, rfl, hA, _⟩ := hn
  obtain ⟨B, b, rfl, hB, _⟩ := hp
  obtain ⟨C, c, rfl, hC, _⟩ := hc
  exact fit_any A B C a b c ln lp lc w hA hB hC

theorem int_eq (a b : Int) : (a == b) = decide (a = b) := by rw [Bool.eq_iff_iff, beq_iff_eq, decide_eq_true_eq]
theorem str_eqd (a b : ByteArray) : (a.toList == b.toList) = decide (a = b) := by
  by_cases h : a = b
  · rw [str_eq h, decide_eq_true h]
  · rw [str_ne h, decide_eq_false h]

set_option maxRecDepth 100000 in
set_option maxHeartbeats 2000000 in
theorem told_any (s : ByteArray) (e : Int) (want : ByteArray) (ok : Bool) (w : World) :
    Calls Try.prog 22 #[.string s, .int .i64 e, .string want, .bool ok] w fun x w' => x = .returned (.bool (if ok then decide (s = want) && decide (e = 0) else decide (s = noB) && decide (e = 1))) ∧ Below w.heap.size w w' := by
  obtain ⟨R, hR⟩ : ∃ R, R = (if ok then decide (s = want) && decide (e = 0) else decide (s = noB) && decide (e = 1)) := ⟨_, rfl⟩
  rw [← hR]
  cases ok with
  | true =>
    rw [if_pos rfl, ← str_eqd, ← int_eq] at hR
    obtain ⟨b1, hb1⟩ : ∃ b, (s.toList == want.toList) = b := ⟨_, rfl⟩
    rw [hb1] at hR
    have HR := Lib.hid hR
    clear hR
    cases b1 with
    | true =>
      go_enter Try.func22, Try.ntmps22
      go_wp2
      go_ret
      rw [HR.out]
      exact ⟨by simp, Below.refl _ _⟩
    | false =>
      go_enter Try.func22, Try.ntmps22
      go_wp2
      go_ret
      rw [HR.out]
      exact ⟨by simp, Below.refl _ _⟩
  | false =>
    rw [if_neg (by decide), ← str_empty, ← int_eq] at hR
    obtain ⟨b1, hb1⟩ : ∃ b, s.toList.isEmpty = b := ⟨_, rfl⟩
    rw [hb1] at hR
    have HR := Lib.hid hR
    clear hR
    cases b1 with
    | true =>
      go_enter Try.func22, Try.ntmps22
      go_wp2
      go_ret
      rw [HR.out]
      exact ⟨by simp, Below.refl _ _⟩
    | false =>
      go_enter Try.func22, Try.ntmps22
      go_wp2
      go_ret
      rw [HR.out]
      exact ⟨by simp, Below.refl _ _⟩

end Go.Proofs.Ytfbcmcckgjfdhaa
