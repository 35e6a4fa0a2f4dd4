/- The walks of find, Get, Next, allNotes and alike. -/
import Derived.Test.YtgpjbajfkagdbaaPrs
import Derived.Test.YtgpjbajfkagdbaaSK
import Derived.Test.YtgpjbajfkagdbaaWRightN
import Derived.Test.YtgpjbajfkagdbaaBB
set_option linter.unusedVariables false
set_option linter.unusedSimpArgs false
namespace Go.Proofs.Ytgpjbajfkagdbaa
open Go.RowKit Go.Sort Go.Lib

set_option maxHeartbeats 1000000 in
theorem closureF (xk xv key : ByteArray) (w : World) : Calls Try.prog 53 #[.agg #[.string xk, .string xv], .string key] w fun e w' => e = .returned (.int .i64 (cmpS xk key)) ∧ Below w.heap.size w w' := by
  have hcon := fun W' => Try.strings_Compare xk key W'
  change ∀ W', Calls Try.prog 54 _ _ (fun e w' => e = .returned (.int .i64 (cmpS xk key)) ∧ w' = W') at hcon
  generalize cmpS xk key = r at hcon ⊢
  go_enter Try.func53, Try.ntmps53
  go_wp2_with (go_at_call 54; refine (hcon _).mono ?_; rintro e w' ⟨rfl, rfl⟩)
  go_ret
  exact ⟨rfl, (Below.refl _ _).alloc (Nat.le_refl _) _⟩

/-- Is it there? -/
def hasL (l : List Pr) (k : ByteArray) : Bool := (getL l k).isSome

set_option maxHeartbeats 2000000 in
set_option maxRecDepth 100000 in
theorem search_any (A : Option Addr) (c : Nat) (l : List Pr) (key : ByteArray) (w : World) (hA : Prs w w.heap.size A l) (hn : l.length ≤ 1000000) (hs : Sorted l) :
    Calls Try.prog 52 #[.slice A l.length c, .string key, .func (.func 53) #[] #[]] w fun e w' => e = .returned (.tuple #[.int .i64 (lessL l key), .bool (hasL l key)]) ∧ Below w.heap.size w w' := by
  obtain ⟨Z, hZ⟩ : ∃ Z, Z = lessL l key := ⟨_, rfl⟩
  obtain ⟨T, hT⟩ : ∃ T, T = hasL l key := ⟨_, rfl⟩
  have HB := Lib.hid (show ∀ i (h : i < l.length), l[i].k < key ↔ i < Z from fun i h => by
    rw [hZ]
    have h1 := less_place hs i h
    constructor
    · intro h2
      rcases Nat.lt_or_ge i (lessL l key) with h3 | h3
      · exact h3
      · exfalso
        have h4 := drop_less hs key
        have h5 : l[i] ∈ l.drop (lessL l key) := by
          rw [List.mem_iff_getElem]
          exact ⟨i - lessL l key, by simp; omega, by rw [List.getElem_drop]; congr 1; omega⟩
        rw [h4] at h5
        have h6 := (List.mem_filter.1 h5).2
        simp only [decide_eq_true_eq] at h6
        grind
    · intro h2
      have h4 := take_less hs key
      have h5 : l[i] ∈ l.take (lessL l key) := by
        rw [List.mem_iff_getElem]
        exact ⟨i, by simp; omega, by rw [List.getElem_take]⟩
      rw [h4] at h5
      have h6 := (List.mem_filter.1 h5).2
      simpa using h6)
  have HT := Lib.hid (show T = true ↔ ∃ h : Z < l.length, l[Z].k = key from by rw [hT, hZ]; exact less_at hs key)
  have hZn : Z ≤ l.length := by rw [hZ]; exact lessL_le l key
  rw [← hZ, ← hT]
  clear hZ hT hs
  obtain ⟨n, hl⟩ : ∃ n, l.length = n := ⟨_, rfl⟩
  rw [hl] at hn hZn ⊢
  have HL := Lib.hid hl
  have HA := Lib.hid hA
  have HZN := Lib.hid hZn
  clear hl hA hZn
  go_enter Try.func52, Try.ntmps52
  go_wp2
  go_loopw [9, 10] (fun iv jv wr => ∃ (i j : Nat), iv = .int .i64 i ∧ jv = .int .i64 j ∧ i ≤ j ∧ j ≤ n ∧ Hid (i ≤ Z ∧ Z ≤ j) ∧ Below w.heap.size w wr) (fun iv jv _ => (intOf jv - intOf iv).toNat)
  case atStart => exact ⟨0, n, rfl, rfl, by omega, by omega, ⟨Nat.zero_le _, HZN.out⟩, Below.refl _ _⟩
  case round =>
    obtain ⟨i, j, rfl, rfl, hij, hjn, HI, hbr⟩ := hrel
    by_cases hlt : i < j
    · obtain ⟨ad, rfl, hab, hca⟩ := (HA.out.below hbr).seeP (by rw [HL.out]; omega)
      obtain ⟨h', hh'⟩ : ∃ h', h' = (i + j) / 2 := ⟨_, rfl⟩
      have wh : ((i : Int) + (j : Int)) / 2 = (h' : Int) := by omega
      have hx1 : h' < l.length := by rw [HL.out]; omega
      obtain ⟨c1, c2⟩ := hca h' hx1
      have HBH := Lib.hid (HB.out h' hx1)
      obtain ⟨x, hx⟩ : ∃ x, x = l[h']'hx1 := ⟨_, rfl⟩
      rw [← hx] at c1 c2 HBH
      have hhn : h' < n := by omega
      have HH := Lib.hid (show i ≤ h' ∧ h' < j by omega)
      clear hx hca hh' hx1
      obtain ⟨xk, xv⟩ := x
      simp only at c1 c2 HBH
      have hbs := hbr.size
      obtain ⟨r, hr⟩ : ∃ r, r = cmpS xk key := ⟨_, rfl⟩
      by_cases hlk : xk < key
      · have hrl : r < 0 := by rw [hr]; exact (cmpS_lt _ _).2 hlk
        have HZH := Lib.hid (show h' < Z from HBH.out.1 hlk)
        have hc := fun w => closureF xk xv key w
        rw [← hr] at hc
        clear hr
        go_wp2_with fail
        refine (hc _).mono ?_
        rintro e w1 ⟨rfl, hb1⟩
        have hbr1 := hbr.trans (hb1.mono hbs)
        clear hb1 c1 c2 hc
        go_wp2
        go_roundw
        case rel => exact ⟨h' + 1, j, by go_num, rfl, by have := HH.out; omega, hjn, ⟨HZH.out, HI.out.2⟩, hbr1⟩
        case measure => have := HH.out; simp [intOf]; omega
      · have hrl : ¬ r < 0 := by rw [hr]; exact fun h => hlk ((cmpS_lt _ _).1 h)
        have HZH := Lib.hid (show Z ≤ h' from Nat.not_lt.1 fun h => hlk (HBH.out.2 h))
        have hc := fun w => closureF xk xv key w
        rw [← hr] at hc
        clear hr
        go_wp2_with fail
        refine (hc _).mono ?_
        rintro e w1 ⟨rfl, hb1⟩
        have hbr1 := hbr.trans (hb1.mono hbs)
        clear hb1 c1 c2 hc
        go_wp2
        go_roundw
        case rel => exact ⟨i, h', rfl, by go_num, HH.out.1, by omega, ⟨HI.out.1, HZH.out⟩, hbr1⟩
        case measure => have := HH.out; simp [intOf]; omega
    · have hiz : i = Z := by have := HI.out; omega
      have HIZ := Lib.hid hiz
      clear hiz
      by_cases hin : i < n
      · obtain ⟨ad, rfl, hab, hca⟩ := (HA.out.below hbr).seeP (by rw [HL.out]; omega)
        have hx1 : i < l.length := by rw [HL.out]; omega
        obtain ⟨c1, c2⟩ := hca i hx1
        obtain ⟨x, hx⟩ : ∃ x, x = l[i]'hx1 := ⟨_, rfl⟩
        rw [← hx] at c1 c2
        have HTI := Lib.hid (show T = true ↔ x.k = key from by
          rw [HT.out, hx]
          have e := HIZ.out
          subst e
          exact ⟨fun h => h.2, fun h => ⟨hx1, h⟩⟩)
        clear hx hca hx1
        obtain ⟨xk, xv⟩ := x
        simp only at c1 c2 HTI
        have hbs := hbr.size
        obtain ⟨r, hr⟩ : ∃ r, r = cmpS xk key := ⟨_, rfl⟩
        have HTR := Lib.hid (show (r == 0) = T from by
          rw [Bool.eq_iff_iff, beq_iff_eq, HTI.out, hr]
          exact cmpS_zero xk key)
        have hc := fun w => closureF xk xv key w
        rw [← hr] at hc
        clear hr
        go_wp2_with fail
        refine (hc _).mono ?_
        rintro e w1 ⟨rfl, hb1⟩
        have hbr1 := hbr.trans (hb1.mono hbs)
        clear hb1 c1 c2 hc
        go_wp2
        go_ret2
        exact ⟨by rw [HTR.out, HIZ.out]; rfl, hbr1⟩
      · have HF := Lib.hid (show T = false from by
          cases e : T with
          | false => rfl
          | true =>
            obtain ⟨h1, _⟩ := HT.out.1 e
            exfalso
            have h2 := HIZ.out
            have h3 := HL.out
            omega)
        go_wp2
        go_ret2
        exact ⟨by rw [HF.out, HIZ.out]; rfl, hbr⟩

set_option maxHeartbeats 1000000 in
set_option maxRecDepth 100000 in
theorem find_any (A : Option Addr) (c : Nat) (l : List Pr) (key : ByteArray) (w : World) (hA : Prs w w.heap.size A l) (hn : l.length ≤ 1000000) (hs : Sorted l) :
    Calls Try.prog 40 #[.slice A l.length c, .string key] w fun e w' => e = .returned (.tuple #[.int .i64 (lessL l key), .bool (hasL l key)]) ∧ Below w.heap.size w w' := by
  have hc := search_any A c l key w hA hn hs
  clear hA hs
  generalize lessL l key = Z at *
  generalize hasL l key = T at *
  generalize l.length = n at *
  go_enter Try.func40, Try.ntmps40
  go_wp2_with fail
  refine hc.mono ?_
  clear hc
  rintro e w1 ⟨rfl, hb1⟩
  go_wp2
  go_ret2
  exact ⟨rfl, hb1⟩

/-- What Get and Next answer. -/
def getA (l : List Pr) (k : ByteArray) : Has := if wellL l then hasOf (getL l k) else (noB, false)
def nextA (l : List Pr) (k : ByteArray) : Nat := if wellL l then lessL l k else 0

set_option maxHeartbeats 1000000 in
set_option maxRecDepth 100000 in
theorem get_any (A : Option Addr) (c : Nat) (l : List Pr) (key : ByteArray) (w : World) (hA : Prs w w.heap.size A l) (hn : l.length ≤ 1000000) :
    Calls Try.prog 25 #[.slice A l.length c, .string key] w fun e w' => e = .returned (.tuple #[.string (getA l key).1, .bool (getA l key).2]) ∧ Below w.heap.size w w' := by
  have hr := right_pr A c l w hA (by unfold maxLen; omega)
  cases hw : wellL l with
  | false =>
    have e1 : getA l key = (noB, false) := by unfold getA; rw [hw]; rfl
    rw [e1]
    rw [hw] at hr
    clear hA e1 hw
    generalize l.length = n at *
    go_enter Try.func25, Try.ntmps25
    go_wp2_with fail
    refine hr.mono ?_
    clear hr
    rintro e w1 ⟨rfl, hb1⟩
    go_wp2
    go_ret2
    exact ⟨rfl, hb1⟩
  | true =>
    have hs := well_sorted hw
    have hf := fun w hA => find_any A c l key w hA hn hs
    have e1 : getA l key = hasOf (getL l key) := by unfold getA; rw [hw]; rfl
    rw [e1]
    rw [hw] at hr
    cases hg : getL l key with
    | none =>
      have e2 : hasL l key = false := by unfold hasL; rw [hg]; rfl
      rw [e2] at hf
      have HA := Lib.hid hA
      have HF := Lib.hid hf
      generalize lessL l key = Z at *
      clear hA e1 e2 hw hs hg hf
      obtain ⟨n, hl⟩ : ∃ n, l.length = n := ⟨_, rfl⟩
      rw [hl] at hr HF ⊢
      clear hl
      go_enter Try.func25, Try.ntmps25
      go_wp2_with fail
      refine hr.mono ?_
      clear hr
      rintro e w1 ⟨rfl, hb1⟩
      have hc := HF.out w1 (HA.out.on hb1)
      go_wp2_with fail
      refine hc.mono ?_
      clear hc
      rintro e w2 ⟨rfl, hb2⟩
      go_wp2
      go_ret2
      exact ⟨rfl, hb1.trans (hb2.mono hb1.size)⟩
    | some v =>
      have e2 : hasL l key = true := by unfold hasL; rw [hg]; rfl
      obtain ⟨hz, hz2, _⟩ := less_there hs key v hg
      rw [e2] at hf
      have HA := Lib.hid hA
      have HF := Lib.hid hf
      have HZ := Lib.hid hz2
      obtain ⟨Z, hZ⟩ : ∃ Z, Z = lessL l key := ⟨_, rfl⟩
      have HZ2 := Lib.hid (show ∃ h : Z < l.length, l[Z] = ⟨key, v⟩ from by subst hZ; exact ⟨hz, hz2⟩)
      rw [← hZ] at HF
      clear hA e1 e2 hw hs hg hf hz hz2 HZ hZ
      obtain ⟨n, hl⟩ : ∃ n, l.length = n := ⟨_, rfl⟩
      have hzn : Z < n := by rw [← hl]; exact HZ2.out.1
      rw [hl] at hr HF ⊢
      have HL := Lib.hid hl
      clear hl
      go_enter Try.func25, Try.ntmps25
      go_wp2_with fail
      refine hr.mono ?_
      clear hr
      rintro e w1 ⟨rfl, hb1⟩
      have hc := HF.out w1 (HA.out.on hb1)
      go_wp2_with fail
      refine hc.mono ?_
      clear hc
      rintro e w2 ⟨rfl, hb2⟩
      have hb : Below w.heap.size w w2 := hb1.trans (hb2.mono hb1.size)
      obtain ⟨ad, rfl, hab, hca⟩ := (HA.out.below hb).seeP (by rw [HL.out]; omega)
      obtain ⟨c1, c2⟩ := hca Z HZ2.out.1
      rw [HZ2.out.2] at c1 c2
      simp only at c1 c2
      clear hca hb1 hb2
      go_wp2
      go_ret2
      exact ⟨rfl, hb⟩

end Go.Proofs.Ytgpjbajfkagdbaa

namespace Go.Proofs.Ytgpjbajfkagdbaa
open Go.RowKit Go.Sort Go.Lib

set_option maxHeartbeats 1000000 in
theorem closureG (xk xv key : ByteArray) (w : World) : Calls Try.prog 72 #[.agg #[.string xk, .string xv], .string key] w fun e w' => e = .returned (.int .i64 (cmpS xk key)) ∧ Below w.heap.size w w' := by
  have hcon := fun W' => Try.strings_Compare xk key W'
  change ∀ W', Calls Try.prog 54 _ _ (fun e w' => e = .returned (.int .i64 (cmpS xk key)) ∧ w' = W') at hcon
  generalize cmpS xk key = r at hcon ⊢
  go_enter Try.func72, Try.ntmps72
  go_wp2_with (go_at_call 54; refine (hcon _).mono ?_; rintro e w' ⟨rfl, rfl⟩)
  go_ret
  exact ⟨rfl, (Below.refl _ _).alloc (Nat.le_refl _) _⟩

set_option maxHeartbeats 2000000 in
set_option maxRecDepth 100000 in
theorem searchG (A : Option Addr) (c : Nat) (l : List Pr) (key : ByteArray) (w : World) (hA : Prs w w.heap.size A l) (hn : l.length ≤ 1000000) (hs : Sorted l) :
    Calls Try.prog 52 #[.slice A l.length c, .string key, .func (.func 72) #[] #[]] w fun e w' => e = .returned (.tuple #[.int .i64 (lessL l key), .bool (hasL l key)]) ∧ Below w.heap.size w w' := by
  obtain ⟨Z, hZ⟩ : ∃ Z, Z = lessL l key := ⟨_, rfl⟩
  obtain ⟨T, hT⟩ : ∃ T, T = hasL l key := ⟨_, rfl⟩
  have HB := Lib.hid (show ∀ i (h : i < l.length), l[i].k < key ↔ i < Z from fun i h => by
    rw [hZ]
    have h1 := less_place hs i h
    constructor
    · intro h2
      rcases Nat.lt_or_ge i (lessL l key) with h3 | h3
      · exact h3
      · exfalso
        have h4 := drop_less hs key
        have h5 : l[i] ∈ l.drop (lessL l key) := by
          rw [List.mem_iff_getElem]
          exact ⟨i - lessL l key, by simp; omega, by rw [List.getElem_drop]; congr 1; omega⟩
        rw [h4] at h5
        have h6 := (List.mem_filter.1 h5).2
        simp only [decide_eq_true_eq] at h6
        grind
    · intro h2
      have h4 := take_less hs key
      have h5 : l[i] ∈ l.take (lessL l key) := by
        rw [List.mem_iff_getElem]
        exact ⟨i, by simp; omega, by rw [List.getElem_take]⟩
      rw [h4] at h5
      have h6 := (List.mem_filter.1 h5).2
      simpa using h6)
  have HT := Lib.hid (show T = true ↔ ∃ h : Z < l.length, l[Z].k = key from by rw [hT, hZ]; exact less_at hs key)
  have hZn : Z ≤ l.length := by rw [hZ]; exact lessL_le l key
  rw [← hZ, ← hT]
  clear hZ hT hs
  obtain ⟨n, hl⟩ : ∃ n, l.length = n := ⟨_, rfl⟩
  rw [hl] at hn hZn ⊢
  have HL := Lib.hid hl
  have HA := Lib.hid hA
  have HZN := Lib.hid hZn
  clear hl hA hZn
  go_enter Try.func52, Try.ntmps52
  go_wp2
  go_loopw [9, 10] (fun iv jv wr => ∃ (i j : Nat), iv = .int .i64 i ∧ jv = .int .i64 j ∧ i ≤ j ∧ j ≤ n ∧ Hid (i ≤ Z ∧ Z ≤ j) ∧ Below w.heap.size w wr) (fun iv jv _ => (intOf jv - intOf iv).toNat)
  case atStart => exact ⟨0, n, rfl, rfl, by omega, by omega, ⟨Nat.zero_le _, HZN.out⟩, Below.refl _ _⟩
  case round =>
    obtain ⟨i, j, rfl, rfl, hij, hjn, HI, hbr⟩ := hrel
    by_cases hlt : i < j
    · obtain ⟨ad, rfl, hab, hca⟩ := (HA.out.below hbr).seeP (by rw [HL.out]; omega)
      obtain ⟨h', hh'⟩ : ∃ h', h' = (i + j) / 2 := ⟨_, rfl⟩
      have wh : ((i : Int) + (j : Int)) / 2 = (h' : Int) := by omega
      have hx1 : h' < l.length := by rw [HL.out]; omega
      obtain ⟨c1, c2⟩ := hca h' hx1
      have HBH := Lib.hid (HB.out h' hx1)
      obtain ⟨x, hx⟩ : ∃ x, x = l[h']'hx1 := ⟨_, rfl⟩
      rw [← hx] at c1 c2 HBH
      have hhn : h' < n := by omega
      have HH := Lib.hid (show i ≤ h' ∧ h' < j by omega)
      clear hx hca hh' hx1
      obtain ⟨xk, xv⟩ := x
      simp only at c1 c2 HBH
      have hbs := hbr.size
      obtain ⟨r, hr⟩ : ∃ r, r = cmpS xk key := ⟨_, rfl⟩
      by_cases hlk : xk < key
      · have hrl : r < 0 := by rw [hr]; exact (cmpS_lt _ _).2 hlk
        have HZH := Lib.hid (show h' < Z from HBH.out.1 hlk)
        have hc := fun w => closureG xk xv key w
        rw [← hr] at hc
        clear hr
        go_wp2_with fail
        refine (hc _).mono ?_
        rintro e w1 ⟨rfl, hb1⟩
        have hbr1 := hbr.trans (hb1.mono hbs)
        clear hb1 c1 c2 hc
        go_wp2
        go_roundw
        case rel => exact ⟨h' + 1, j, by go_num, rfl, by have := HH.out; omega, hjn, ⟨HZH.out, HI.out.2⟩, hbr1⟩
        case measure => have := HH.out; simp [intOf]; omega
      · have hrl : ¬ r < 0 := by rw [hr]; exact fun h => hlk ((cmpS_lt _ _).1 h)
        have HZH := Lib.hid (show Z ≤ h' from Nat.not_lt.1 fun h => hlk (HBH.out.2 h))
        have hc := fun w => closureG xk xv key w
        rw [← hr] at hc
        clear hr
        go_wp2_with fail
        refine (hc _).mono ?_
        rintro e w1 ⟨rfl, hb1⟩
        have hbr1 := hbr.trans (hb1.mono hbs)
        clear hb1 c1 c2 hc
        go_wp2
        go_roundw
        case rel => exact ⟨i, h', rfl, by go_num, HH.out.1, by omega, ⟨HI.out.1, HZH.out⟩, hbr1⟩
        case measure => have := HH.out; simp [intOf]; omega
    · have hiz : i = Z := by have := HI.out; omega
      have HIZ := Lib.hid hiz
      clear hiz
      by_cases hin : i < n
      · obtain ⟨ad, rfl, hab, hca⟩ := (HA.out.below hbr).seeP (by rw [HL.out]; omega)
        have hx1 : i < l.length := by rw [HL.out]; omega
        obtain ⟨c1, c2⟩ := hca i hx1
        obtain ⟨x, hx⟩ : ∃ x, x = l[i]'hx1 := ⟨_, rfl⟩
        rw [← hx] at c1 c2
        have HTI := Lib.hid (show T = true ↔ x.k = key from by
          rw [HT.out, hx]
          have e := HIZ.out
          subst e
          exact ⟨fun h => h.2, fun h => ⟨hx1, h⟩⟩)
        clear hx hca hx1
        obtain ⟨xk, xv⟩ := x
        simp only at c1 c2 HTI
        have hbs := hbr.size
        obtain ⟨r, hr⟩ : ∃ r, r = cmpS xk key := ⟨_, rfl⟩
        have HTR := Lib.hid (show (r == 0) = T from by
          rw [Bool.eq_iff_iff, beq_iff_eq, HTI.out, hr]
          exact cmpS_zero xk key)
        have hc := fun w => closureG xk xv key w
        rw [← hr] at hc
        clear hr
        go_wp2_with fail
        refine (hc _).mono ?_
        rintro e w1 ⟨rfl, hb1⟩
        have hbr1 := hbr.trans (hb1.mono hbs)
        clear hb1 c1 c2 hc
        go_wp2
        go_ret2
        exact ⟨by rw [HTR.out, HIZ.out]; rfl, hbr1⟩
      · have HF := Lib.hid (show T = false from by
          cases e : T with
          | false => rfl
          | true =>
            obtain ⟨h1, _⟩ := HT.out.1 e
            exfalso
            have h2 := HIZ.out
            have h3 := HL.out
            omega)
        go_wp2
        go_ret2
        exact ⟨by rw [HF.out, HIZ.out]; rfl, hbr⟩

end Go.Proofs.Ytgpjbajfkagdbaa
