/- The walk of the document's Share. -/
import Derived.Test.YtggfegogjmckcaaShr
import Derived.Test.YtggfegogjmckcaaRStep
import Derived.Test.YtggfegogjmckcaaPhase
import Derived.Deep.CutBlock
namespace Go.Proofs.Ytggfegogjmckcaa
open Go.RowKit

def intC (x : Nat) : List Value := [.int .i64 (x : Int)]
/-- A value that is a slice of these numbers. -/
def IV (w : World) (v : Value) (l : List Nat) : Prop := ∃ A c, v = .slice A l.length c ∧ Lies intC 1 w w.heap.size A l
theorem IV.on {w w' : World} {v : Value} {l : List Nat} (h : IV w v l) (hb : Below w.heap.size w w') : IV w' v l := by
  obtain ⟨A, c, e, hp⟩ := h
  exact ⟨A, c, e, hp.on hb⟩
theorem IV.own {w : World} {base n : Nat} {e : TypeId} {v : Value} {l : List Nat} (h : w.ownsRow base e 1 v n (l.flatMap intC)) (hn : n = l.length) : IV w v l := by
  subst hn
  obtain ⟨A, c, rfl⟩ := own_shape h
  exact ⟨A, c, rfl, Lies.own (fun _ => rfl) h⟩
/-- How long each part is. -/
def dshareL (n : Nat) (most : Int) : List Nat := if n = 0 ∨ most < 1 then [] else (List.range (partsN n most.toNat)).map (sizeN n (partsN n most.toNat))
theorem dshare_len (l : List Pr) (most : Int) : dshareL l.length most = (shareL l most).map List.length := by
  unfold dshareL shareL
  split
  · rfl
  · rename_i h
    unfold shareN
    rw [List.map_map]
    refine List.map_congr_left fun i hi => ?_
    obtain ⟨p, hp⟩ : ∃ p, p = partsN l.length most.toNat := ⟨_, rfl⟩
    rw [← hp] at hi ⊢
    have hi2 : i < p := by simpa using hi
    have h1 := pos_succ l.length p i
    have h2 := pos_le l.length p (i + 1) p (by omega)
    have h3 := pos_last l.length p (by omega)
    show _ = (partL l p i).length
    unfold partL
    simp
    omega
theorem parts_least {n mo k : Nat} (hk : 1 ≤ k) (h1 : n ≤ k * mo) (h2 : k = 1 ∨ (k - 1) * mo < n) (hn : 0 < n) (hmo : 0 < mo) : k = partsN n mo := by
  unfold partsN
  have h3 : (n - 1) / mo = k - 1 := by
    rw [Nat.div_eq_iff hmo]
    obtain ⟨q, rfl⟩ : ∃ q, k = q + 1 := ⟨k - 1, by omega⟩
    rw [Nat.add_mul] at h1
    rcases h2 with h2 | h2
    · have : q = 0 := by omega
      subst this
      simp at h1 ⊢
      omega
    · simp only [Nat.add_sub_cancel] at h2 ⊢
      omega
  omega
/-- How many of the first i numbers leave j. -/
def cntN (P i j : Nat) : Nat := i / P + (if j < i % P then 1 else 0)
def cntL (P i : Nat) : List Nat := (List.range P).map (cntN P i)
theorem cnt_zero (P : Nat) : cntL P 0 = List.replicate P 0 := by
  unfold cntL
  rw [List.eq_replicate_iff]
  refine ⟨by simp, fun b hb => ?_⟩
  obtain ⟨j, _, rfl⟩ := List.mem_map.1 hb
  simp [cntN]
theorem cnt_last (P n : Nat) : cntL P n = (List.range P).map (sizeN n P) := rfl
theorem cnt_step (P i : Nat) (hP : 0 < P) : cntL P (i + 1) = (cntL P i).set (i % P) (cntN P i (i % P) + 1) := by
  apply List.ext_getElem
  · simp [cntL]
  · intro j h1 h2
    simp [cntL] at h1
    rw [List.getElem_set]
    have hm := Nat.mod_lt i hP
    have hd := Nat.div_add_mod i P
    have key : (i % P + 1 < P ∧ (i + 1) / P = i / P ∧ (i + 1) % P = i % P + 1) ∨ (i % P + 1 = P ∧ (i + 1) / P = i / P + 1 ∧ (i + 1) % P = 0) := by
      rcases Nat.lt_or_ge (i % P + 1) P with h | h
      · left
        have e : (i + 1) / P = i / P ∧ (i + 1) % P = i % P + 1 := by
          rw [Nat.div_mod_unique hP]
          exact ⟨by omega, h⟩
        exact ⟨h, e⟩
      · right
        have e : (i + 1) / P = i / P + 1 ∧ (i + 1) % P = 0 := by
          rw [Nat.div_mod_unique hP]
          exact ⟨by rw [Nat.mul_add]; omega, hP⟩
        exact ⟨by omega, e⟩
    simp only [cntL, List.getElem_map, List.getElem_range, cntN]
    rcases key with ⟨k0, k1, k2⟩ | ⟨k0, k1, k2⟩ <;> rw [k1, k2] <;> (repeat' split) <;> omega
theorem cnt_le (P i j : Nat) : cntN P i j ≤ i + 1 := by
  unfold cntN
  have := Nat.div_le_self i P
  split <;> omega

theorem flat_set (l : List Nat) (j x : Nat) : (l.set j x).flatMap intC = (l.flatMap intC).set j (.int .i64 (x : Int)) := by
  induction l generalizing j with
  | nil => simp
  | cons a l ih =>
    cases j with
    | zero => rfl
    | succ j =>
      rw [List.set_cons_succ, List.flatMap_cons, List.flatMap_cons, ih]
      rfl
theorem phase1 {F : Nat → Nat → Oper → Prop} {l : List Oper} (h : Steps1 (F 0) 0 l) (h1 : Steps1 (F 1) 0 l) : ∀ (p i : Nat) (o : Oper), l.toArray[i]? = some o → p ≤ 1 → F p i o := fun p i o hi hp => by
  rcases (show p = 0 ∨ p = 1 by omega) with rfl | rfl
  · exact steps_of h i o hi
  · exact steps_of h1 i o hi

def ShV (g P cc i j cj : Nat) (t : Nat) (v : Value) (w : World) : Prop :=
  match t with
  | 35 => v = .slice (some ⟨g, 0, none⟩) P cc
  | 36 => v = .int .i64 (i : Int)
  | 37 => v = .slice (some ⟨g, 0, none⟩) P cc
  | 38 => v = .int .i64 (P : Int)
  | 39 => v = .int .i64 (j : Int)
  | 40 => v = .slice (some ⟨g, 0, none⟩) P cc
  | 41 => v = .int .i64 (i : Int)
  | 42 => v = .slice (some ⟨g, 0, none⟩) P cc
  | 43 => v = .int .i64 (P : Int)
  | 44 => v = .int .i64 (j : Int)
  | 45 => v = .pointer (some ⟨g, j, none⟩)
  | 46 => v = .int .i64 (cj : Int)
  | 47 => v = .int .i64 ((cj + 1 : Nat) : Int)
  | 48 => v = .pointer (some ⟨g, j, none⟩)
  | _ => True
theorem int_info : (Try.prog.info? 3).map (fun i => (i.zero, i.size, i.bytes)) = some (some (.int .i64 0), 1, 8) := by kernel_rfl

set_option maxHeartbeats 4000000 in
set_option maxRecDepth 100000 in
theorem dshare_any (n : Nat) (most : Int) (w : World) (hn : n ≤ 1000) (hmo : most ≤ 9223372036854775807) :
    Calls Try.prog 22 #[.int .i64 n, .int .i64 most] w fun e w' => ∃ v, e = .returned v ∧ IV w' v (dshareL n most) ∧ Below w.heap.size w w' := by
  obtain ⟨D, hD⟩ : ∃ D, D = dshareL n most := ⟨_, rfl⟩
  rw [← hD]
  by_cases h1 : most < 1
  · have e1 : D = [] := by rw [hD]; unfold dshareL; rw [if_pos (.inr h1)]
    subst e1
    clear hD
    go_enter Try.func22, Try.ntmps22
    go_wp2
    go_ret
    exact ⟨_, rfl, ⟨none, 0, rfl, Lies.nil⟩, Below.refl _ _⟩
  obtain ⟨mo, rfl⟩ : ∃ mo : Nat, most = mo := ⟨most.toNat, by omega⟩
  have hm1 : 1 ≤ mo := by omega
  have hlt1 : decide ((mo : Int) < 1) = false := by simp; omega
  have HD := Lib.hid hD
  clear hD h1
  obtain ⟨i0, hi0, hz0, hz1, hz2⟩ := info_parts int_info
  go_enter Try.func22, Try.ntmps22
  go_upto_block 0 with fail
  go_cut [5] from 9 to 29 (fun v wx => ∃ P : Nat, Hid (wx.ownsRow w.heap.size 3 1 v P ((List.replicate P 0).flatMap intC)) ∧ Hid (n = 0 ∧ P = 0 ∨ 0 < n ∧ 1 ≤ P ∧ P = partsN n mo) ∧ Below w.heap.size w wx)
  case first =>
    go_wp2
    go_loopw [5] (fun v wr => ∃ k : Nat, Hid (wr.ownsRow w.heap.size 3 1 v k ((List.replicate k 0).flatMap intC)) ∧ Hid (∃ A c, v = .slice A k c) ∧ (k = 0 ∨ mo < n ∧ (k - 1) * mo < n) ∧ Below w.heap.size w wr) (fun v _ => n + 1 - lenV v)
    case atStart => exact ⟨0, World.ownsRow_nil _ _ _ _, ⟨_, _, rfl⟩, .inl rfl, Below.refl _ _⟩
    case round =>
      obtain ⟨k, HO, HSH, hk, hbr⟩ := hrel
      obtain ⟨A, c, rfl⟩ := HSH.out
      have hown := HO.out
      have hbs := hbr.size
      by_cases h0 : n = 0
      · subst h0
        have hk0 : k = 0 := by omega
        have HE := Lib.hid hk0
        clear hk hk0
        go_wp2
        go_meet
        case rel => exact ⟨k, HO, .inl ⟨by first | rfl | trivial, HE.out⟩, hbr⟩
      have hn0 : decide (0 < n) = true := decide_eq_true (by omega)
      have hn0' : decide ((0 : Int) < (n : Int)) = true := decide_eq_true (by omega)
      by_cases hk0 : k = 0
      · subst hk0
        clear hk
        go_wp2_with (at_builtin; refine wpList_append_own _ rfl _ _ 41 rfl w.heap.size 3 i0 (.int .i64 0) 1 8 Try.underlying41 hi0 hz0 hz1 hz2 rfl (by decide) _ _ _ rfl (hown.alloc _) ⟨wr.heap.size, 0, none⟩ 1 1 [.int .i64 0] rfl rfl ?a1 ?a2 ?a3 ?a4 ?a5 ?_)
        case a1 =>
          intro j x hj
          match j, hj with
          | 0, hj => simp at hj; subst hj; simp [Addr.add]
        case a2 => intro x hx; simp at hx; subst hx; rfl
        case a3 => unfold maxLen; omega
        case a4 => omega
        case a5 => simp; omega
        intro v' w5 hown5 hg5 _
        have hk5 : ∀ k, Value.ownBlock _ = some k → w.heap.size ≤ k := fun k hk => (own_lt hown hk).1
        have hb5 : Below w.heap.size w w5 := (hbr.alloc hbs _).grown hg5 (by simp; omega) hk5
        have HSH5 := Lib.hid (own_shape hown5)
        have HO5 := Lib.hid (show w5.ownsRow w.heap.size 3 1 v' (0 + 1) ((List.replicate (0 + 1) 0).flatMap intC) from by
          show World.ownsRow _ _ _ _ _ _ _
          rw [List.replicate_succ', List.flatMap_append]; simpa [intC] using hown5)
        clear hown hown5 hg5 hk5
        by_cases hmn : n ≤ mo
        · have HE := Lib.hid (show 0 + 1 = partsN n mo from parts_least (by omega) (by omega) (.inl rfl) (by omega) (by omega))
          have HN0 := Lib.hid (show 0 < n by omega)
          go_wp2
          go_meet
          case rel => exact ⟨0 + 1, HO5, .inr ⟨HN0.out, by omega, HE.out⟩, hb5⟩
        · have hmn2 : mo < n := by omega
          have HMN := Lib.hid hmn2
          have hn00 : 0 < n := by omega
          have HN0 := Lib.hid hn00
          go_wp2
          go_roundw
          case rel => exact ⟨0 + 1, HO5, HSH5, .inr ⟨HMN.out, by simpa using HN0.out⟩, hb5⟩
          case measure => obtain ⟨A5, c5, e5⟩ := HSH5.out; subst e5; first | (simp [lenV]; done) | (simp [lenV]; omega)
      · have hkk : mo < n ∧ (k - 1) * mo < n := by omega
        have hke : ((k : Int) == 0) = false := by simp; omega
        have hkn : k ≤ n := by
          have h1 : (k - 1) * 1 ≤ (k - 1) * mo := Nat.mul_le_mul_left _ hm1
          omega
        have hkm : k * mo = (k - 1) * mo + mo := by
          obtain ⟨q, rfl⟩ : ∃ q, k = q + 1 := ⟨k - 1, by omega⟩
          rw [Nat.add_mul]; simp
        have hprod : k * mo < 3000 := by omega
        have hwm : IntKind.i64.wrap ((k : Int) * (mo : Int)) = ((k * mo : Nat) : Int) := by
          rw [← Int.natCast_mul, IntKind.wrap_i64]; omega
        have HKK := Lib.hid hkk
        have HKM := Lib.hid hkm
        obtain ⟨pr, hpr⟩ : ∃ pr, pr = k * mo := ⟨_, rfl⟩
        rw [← hpr] at hwm hprod
        have HPR := Lib.hid hpr
        clear hk hkk hkm hpr
        by_cases hlt : pr < n
        · have hd1 : decide (pr < n) = true := decide_eq_true hlt
          have hd2 : decide ((pr : Int) < (n : Int)) = true := by simp; omega
          have hmn : mo < n := HKK.out.1
          have hmd : decide (n ≤ mo) = false := decide_eq_false (by omega)
          have hmd2 : decide ((n : Int) ≤ (mo : Int)) = false := by simp; omega
          have HREL := Lib.hid (show mo < n ∧ (k + 1 - 1) * mo < n from ⟨hmn, by rw [Nat.add_sub_cancel, ← HPR.out]; exact hlt⟩)
          clear hmn
          go_wp2_with (at_builtin; refine wpList_append_own _ rfl _ _ 41 rfl w.heap.size 3 i0 (.int .i64 0) 1 8 Try.underlying41 hi0 hz0 hz1 hz2 rfl (by decide) _ _ _ rfl (hown.alloc _) ⟨wr.heap.size, 0, none⟩ 1 1 [.int .i64 0] rfl rfl ?a1 ?a2 ?a3 ?a4 ?a5 ?_)
          case a1 =>
            intro j x hj
            match j, hj with
            | 0, hj => simp at hj; subst hj; simp [Addr.add]
          case a2 => intro x hx; simp at hx; subst hx; rfl
          case a3 => unfold maxLen; omega
          case a4 => omega
          case a5 => simp; omega
          intro v' w5 hown5 hg5 _
          have hk5 : ∀ k, Value.ownBlock _ = some k → w.heap.size ≤ k := fun k hk => (own_lt hown hk).1
          have hb5 : Below w.heap.size w w5 := (hbr.alloc hbs _).grown hg5 (by simp; omega) hk5
          have HSH5 := Lib.hid (own_shape hown5)
          have HO5 := Lib.hid (show w5.ownsRow w.heap.size 3 1 v' (k + 1) ((List.replicate (k + 1) 0).flatMap intC) from by
            show World.ownsRow _ _ _ _ _ _ _
            rw [List.replicate_succ', List.flatMap_append]; simpa [intC] using hown5)
          clear hown hown5 hg5 hk5
          have HKN := Lib.hid (show k < n + 1 by omega)
          go_wp2
          go_roundw
          case rel => exact ⟨k + 1, HO5, HSH5, .inr HREL.out, hb5⟩
          case measure => obtain ⟨A5, c5, e5⟩ := HSH5.out; subst e5; have := HKN.out; first | (simp [lenV]; done) | (simp [lenV]; omega)
        · have hd1 : decide (pr < n) = false := decide_eq_false hlt
          have hd2 : decide ((pr : Int) < (n : Int)) = false := by simp; omega
          have HN0 := Lib.hid (show 0 < n by omega)
          have HK1 := Lib.hid (show 1 ≤ k by omega)
          have HE := Lib.hid (show k = partsN n mo from parts_least (by omega) (by rw [← HPR.out]; omega) (.inr HKK.out.2) (by omega) (by omega))
          go_wp2
          go_meet
          case rel => exact ⟨k, HO, .inr ⟨HN0.out, HK1.out, HE.out⟩, hbr⟩
  case rest =>
  obtain ⟨P, HOP, HPP, hbc⟩ := hcut
  have hbs := hbc.size
  by_cases h0 : n = 0
  · have hP0 : P = 0 := by have := HPP.out; omega
    have HE := Lib.hid (show D = [] ∧ P = 0 from ⟨by rw [HD.out]; unfold dshareL; rw [if_pos (.inl h0)], hP0⟩)
    have hown := HOP.out
    clear hP0
    go_wp2
    go_loopw [6] (fun i wr => i = .int .i64 0 ∧ wc = wr) (fun _ _ => 0)
    case atStart => exact ⟨rfl, rfl⟩
    case round =>
      obtain ⟨rfl, rfl⟩ := hrel
      go_wp2
      go_ret
      refine ⟨_, rfl, ?_, hbc⟩
      rw [HE.out.1]
      refine IV.own (base := w.heap.size) (e := 3) (n := P) ?_ HE.out.2
      have h := HOP.out
      rw [HE.out.2] at h ⊢
      simpa using h
  have hPN : 1 ≤ P ∧ P = partsN n mo := by have := HPP.out; omega
  have hPn : P ≤ n := by rw [hPN.2]; exact parts_le n mo (by omega)
  have HDD := Lib.hid (show D = cntL P n from by rw [HD.out, hPN.2]; unfold dshareL; rw [if_neg (by omega)]; rfl)
  have hP1 : 0 < P := by omega
  obtain ⟨g, cc, rfl, hgw⟩ : ∃ g cc, u5 = .slice (some ⟨g, 0, none⟩) P cc ∧ w.heap.size ≤ g := by
    rcases HOP.out.2 with ⟨_, hz⟩ | ⟨g, cap, cur, hv, hbg, _⟩
    · omega
    · exact ⟨g, cap, hv, hbg⟩
  have HOC := Lib.hid (show wc.ownsRow w.heap.size 3 1 (.slice (some ⟨g, 0, none⟩) P cc) P ((cntL P 0).flatMap intC) from by show World.ownsRow _ _ _ _ _ _ _; rw [cnt_zero]; exact HOP.out)
  clear HOP HPP hPN HD h0
  go_wp2
  go_loopw [6] (fun vi wr => ∃ i : Nat, vi = .int .i64 i ∧ i ≤ n ∧ Hid (wr.ownsRow w.heap.size 3 1 (.slice (some ⟨g, 0, none⟩) P cc) P ((cntL P i).flatMap intC)) ∧ Below w.heap.size w wr) (fun vi _ => (n - intOf vi).toNat)
  case atStart => exact ⟨0, rfl, by omega, HOC, hbc⟩
  case round =>
    clear HOC hbc hbs
    obtain ⟨i, rfl, hi, HO, hbr⟩ := hrel
    by_cases hlt : i < n
    · obtain ⟨j, hj⟩ : ∃ j, j = i % P := ⟨_, rfl⟩
      have hjP : j < P := by rw [hj]; exact Nat.mod_lt _ hP1
      obtain ⟨cj, hcj⟩ : ∃ cj, cj = cntN P i j := ⟨_, rfl⟩
      have hcl : cj ≤ i + 1 := by rw [hcj]; exact cnt_le P i j
      have hrem : (i : Int) % (P : Int) = (j : Int) := by rw [hj]; rfl
      have HREM := Lib.hid (show (i : Int).tmod (P : Int) = (j : Int) ∧ ¬ P = 0 from ⟨by rw [Int.tmod_eq_emod_of_nonneg (by omega)]; exact hrem, by omega⟩)
      have HSTEP := Lib.hid (show cntL P (i + 1) = (cntL P i).set j (cj + 1) from by rw [hcj, hj]; exact cnt_step P i hP1)
      have hbd := hbr.drew
      have howd : wr.drew.ownsRow w.heap.size 3 1 (.slice (some ⟨g, 0, none⟩) P cc) P ((cntL P i).flatMap intC) := own_below HO.out (Below.refl _ _).drew
      have hget : ((cntL P i).flatMap intC)[j]? = some (.int .i64 (cj : Int)) := by
        have h1 : j < (cntL P i).length := by simp [cntL]; exact hjP
        have h2 := flat_get (cs := intC) (k := 1) (fun _ => rfl) (cntL P i) j h1 0 (by decide)
        rw [Nat.mul_one, Nat.add_zero] at h2
        rw [h2]
        simp [intC, cntL, hcj]
      have hz1 : wr.drew.cell? ⟨g, j, none⟩ = some (.int .i64 (cj : Int)) := by have h := howd.cells (g := g) rfl j _ hget; rwa [Addr.add_lit, Nat.zero_add] at h
      have hz2 := howd.frozenAt j
      obtain ⟨wd, hwd⟩ : ∃ wd, wd = wr.drew := ⟨_, rfl⟩
      rw [← hwd] at hz1 hz2 howd hbd
      have HWD := Lib.hid hwd
      have HZ1 := Lib.hid hz1
      have HZ2 := Lib.hid hz2
      have HOW := Lib.hid howd
      have HJP := Lib.hid hjP
      have HWC := Lib.hid (show IntKind.i64.wrap ((cj : Int) + 1) = ((cj + 1 : Nat) : Int) by rw [IntKind.wrap_i64]; omega)
      clear hj hcj hrem hget hz1 hz2 howd hwd HO hjP hcl
      go_wp2
      refine wp_region_phase 12 [35, 36, 37, 38, 39, 40, 41, 42, 43, 44, 45, 46, 47, 48] (by kernel_rfl) [14] [] (fun _ _ => True) 1 rfl (by kernel_rfl) (fun p w' => (p = 0 → w' = wd) ∧ (p = 1 → w' = wd.setCell ⟨g, j, none⟩ (.int .i64 ((cj + 1 : Nat) : Int)))) (fun wa wb => wa = wb) (fun _ => ShV g P cc i j cj) (by kernel_rfl) (fun _ wa wb h1 h2 => h1 ▸ h2) (fun _ t v wa wb h1 h2 => h1 ▸ h2) (fun _ _ _ _ _ _ _ => trivial) ⟨fun _ => HWD.out.symm, fun h => absurd h (by decide)⟩ trivial (phase1 ?_ ?_) ?_
      · skip
        refine Steps1.cons (fun _ ax wx hS hJ hG => ?_) (Steps1.cons (fun _ ax wx hS hJ hG => ?_) (Steps1.cons (fun _ ax wx hS hJ hG => ?_) (Steps1.cons (fun _ ax wx hS hJ hG => ?_) (Steps1.cons (fun _ ax wx hS hJ hG => ?_) (Steps1.cons (fun _ ax wx hS hJ hG => ?_) (Steps1.cons (fun _ ax wx hS hJ hG => ?_) (Steps1.cons (fun _ ax wx hS hJ hG => ?_) (Steps1.cons (fun _ ax wx hS hJ hG => ?_) (Steps1.cons (fun _ ax wx hS hJ hG => ?_) (Steps1.cons (fun _ ax wx hS hJ hG => ?_) (Steps1.cons (fun _ ax wx hS hJ hG => ?_) (Steps1.cons (fun _ ax wx hS hJ hG => ?_) (Steps1.cons (fun _ ax wx hS hJ hG => ?_) (Steps1.cons (fun _ ax wx hS hJ hG => ?_) Steps1.nil))))))))))))))
        · have q5 := hG.old 5 (by kernel_rfl) (by kernel_rfl)
          refine step_slot rfl rfl rfl (step_value (v := .slice (some ⟨g, 0, none⟩) P cc) (w' := wx) rfl rfl ?_ rfl (fun d hd => by cases hd; exact rfl))
          rw [show wx = wd from hS.1 rfl]
          clear hS hG
          go_simp
        · have q6 := hG.old 6 (by kernel_rfl) (by kernel_rfl)
          refine step_slot rfl rfl rfl (step_value (v := .int .i64 (i : Int)) (w' := wx) rfl rfl ?_ rfl (fun d hd => by cases hd; exact rfl))
          rw [show wx = wd from hS.1 rfl]
          clear hS hG
          go_simp
        · have q5 := hG.old 5 (by kernel_rfl) (by kernel_rfl)
          refine step_slot rfl rfl rfl (step_value (v := .slice (some ⟨g, 0, none⟩) P cc) (w' := wx) rfl rfl ?_ rfl (fun d hd => by cases hd; exact rfl))
          rw [show wx = wd from hS.1 rfl]
          clear hS hG
          go_simp
        · obtain ⟨_, q37, rfl⟩ := hG.new 37 (by kernel_rfl) (by kernel_rfl)
          refine step_slot rfl rfl rfl (step_value (v := .int .i64 (P : Int)) (w' := wx) rfl rfl ?_ rfl (fun d hd => by cases hd; exact rfl))
          rw [show wx = wd from hS.1 rfl]
          clear hS hG
          go_simp
        · obtain ⟨_, q36, rfl⟩ := hG.new 36 (by kernel_rfl) (by kernel_rfl)
          obtain ⟨_, q38, rfl⟩ := hG.new 38 (by kernel_rfl) (by kernel_rfl)
          refine step_slot rfl rfl rfl (step_value (v := .int .i64 (j : Int)) (w' := wx) rfl rfl ?_ rfl (fun d hd => by cases hd; exact rfl))
          rw [show wx = wd from hS.1 rfl]
          clear hS hG
          obtain ⟨hx, hx0⟩ := HREM.out
          go_simp
        · have q5 := hG.old 5 (by kernel_rfl) (by kernel_rfl)
          refine step_slot rfl rfl rfl (step_value (v := .slice (some ⟨g, 0, none⟩) P cc) (w' := wx) rfl rfl ?_ rfl (fun d hd => by cases hd; exact rfl))
          rw [show wx = wd from hS.1 rfl]
          clear hS hG
          go_simp
        · have q6 := hG.old 6 (by kernel_rfl) (by kernel_rfl)
          refine step_slot rfl rfl rfl (step_value (v := .int .i64 (i : Int)) (w' := wx) rfl rfl ?_ rfl (fun d hd => by cases hd; exact rfl))
          rw [show wx = wd from hS.1 rfl]
          clear hS hG
          go_simp
        · have q5 := hG.old 5 (by kernel_rfl) (by kernel_rfl)
          refine step_slot rfl rfl rfl (step_value (v := .slice (some ⟨g, 0, none⟩) P cc) (w' := wx) rfl rfl ?_ rfl (fun d hd => by cases hd; exact rfl))
          rw [show wx = wd from hS.1 rfl]
          clear hS hG
          go_simp
        · obtain ⟨_, q42, rfl⟩ := hG.new 42 (by kernel_rfl) (by kernel_rfl)
          refine step_slot rfl rfl rfl (step_value (v := .int .i64 (P : Int)) (w' := wx) rfl rfl ?_ rfl (fun d hd => by cases hd; exact rfl))
          rw [show wx = wd from hS.1 rfl]
          clear hS hG
          go_simp
        · obtain ⟨_, q41, rfl⟩ := hG.new 41 (by kernel_rfl) (by kernel_rfl)
          obtain ⟨_, q43, rfl⟩ := hG.new 43 (by kernel_rfl) (by kernel_rfl)
          refine step_slot rfl rfl rfl (step_value (v := .int .i64 (j : Int)) (w' := wx) rfl rfl ?_ rfl (fun d hd => by cases hd; exact rfl))
          rw [show wx = wd from hS.1 rfl]
          clear hS hG
          obtain ⟨hx, hx0⟩ := HREM.out
          go_simp
        · obtain ⟨_, q40, rfl⟩ := hG.new 40 (by kernel_rfl) (by kernel_rfl)
          obtain ⟨_, q44, rfl⟩ := hG.new 44 (by kernel_rfl) (by kernel_rfl)
          refine step_slot rfl rfl rfl (step_value (v := .pointer (some ⟨g, j, none⟩)) (w' := wx) rfl rfl ?_ rfl (fun d hd => by cases hd; exact rfl))
          rw [show wx = wd from hS.1 rfl]
          clear hS hG
          have hjp := HJP.out
          go_simp
        · obtain ⟨_, q45, rfl⟩ := hG.new 45 (by kernel_rfl) (by kernel_rfl)
          refine step_slot rfl rfl rfl (step_value (v := .int .i64 (cj : Int)) (w' := wx) rfl rfl ?_ rfl (fun d hd => by cases hd; exact rfl))
          rw [show wx = wd from hS.1 rfl]
          clear hS hG
          have z1 := HZ1.out
          go_simp
        · obtain ⟨_, q46, rfl⟩ := hG.new 46 (by kernel_rfl) (by kernel_rfl)
          refine step_slot rfl rfl rfl (step_value (v := .int .i64 ((cj + 1 : Nat) : Int)) (w' := wx) rfl rfl ?_ rfl (fun d hd => by cases hd; exact rfl))
          rw [show wx = wd from hS.1 rfl]
          clear hS hG
          have hwc := HWC.out
          go_simp
        · obtain ⟨_, q35, rfl⟩ := hG.new 35 (by kernel_rfl) (by kernel_rfl)
          obtain ⟨_, q39, rfl⟩ := hG.new 39 (by kernel_rfl) (by kernel_rfl)
          refine step_slot rfl rfl rfl (step_value (v := .pointer (some ⟨g, j, none⟩)) (w' := wx) rfl rfl ?_ rfl (fun d hd => by cases hd; exact rfl))
          rw [show wx = wd from hS.1 rfl]
          clear hS hG
          have hjp := HJP.out
          go_simp
        · obtain ⟨_, q48, rfl⟩ := hG.new 48 (by kernel_rfl) (by kernel_rfl)
          obtain ⟨_, q47, rfl⟩ := hG.new 47 (by kernel_rfl) (by kernel_rfl)
          refine step_store (w' := wx.setCell ⟨g, j, none⟩ (.int .i64 ((cj + 1 : Nat) : Int))) rfl rfl rfl rfl ?_ ⟨fun h => absurd h (by decide), fun _ => by rw [show wx = wd from hS.1 rfl]⟩ trivial ?_
          · rw [show wx = wd from hS.1 rfl]
            have z1 := HZ1.out
            have z2 := HZ2.out
            clear hS hG
            go_simp
          · intro t u _ hu hV
            exact hV
      · skip
        refine Steps1.cons (fun hin _ _ _ _ _ => out (by kernel_rfl) hin) (Steps1.cons (fun hin _ _ _ _ _ => out (by kernel_rfl) hin) (Steps1.cons (fun hin _ _ _ _ _ => out (by kernel_rfl) hin) (Steps1.cons (fun hin _ _ _ _ _ => out (by kernel_rfl) hin) (Steps1.cons (fun hin _ _ _ _ _ => out (by kernel_rfl) hin) (Steps1.cons (fun hin _ _ _ _ _ => out (by kernel_rfl) hin) (Steps1.cons (fun hin _ _ _ _ _ => out (by kernel_rfl) hin) (Steps1.cons (fun hin _ _ _ _ _ => out (by kernel_rfl) hin) (Steps1.cons (fun hin _ _ _ _ _ => out (by kernel_rfl) hin) (Steps1.cons (fun hin _ _ _ _ _ => out (by kernel_rfl) hin) (Steps1.cons (fun hin _ _ _ _ _ => out (by kernel_rfl) hin) (Steps1.cons (fun hin _ _ _ _ _ => out (by kernel_rfl) hin) (Steps1.cons (fun hin _ _ _ _ _ => out (by kernel_rfl) hin) (Steps1.cons (fun hin _ _ _ _ _ => out (by kernel_rfl) hin) (Steps1.cons (fun hin _ _ _ _ _ => out (by kernel_rfl) hin) Steps1.nil))))))))))))))
      intro gg wz hSz _ _
      have hwz := hSz.2 rfl
      have HOZ := Lib.hid (show wz.ownsRow w.heap.size 3 1 (.slice (some ⟨g, 0, none⟩) P cc) P ((cntL P (i + 1)).flatMap intC) from by
        show World.ownsRow _ _ _ _ _ _ _
        have h := (HOW.out.stored j (.int .i64 ((cj + 1 : Nat) : Int))).1
        rw [hwz, HSTEP.out]
        have e : ((cntL P i).set j (cj + 1)).flatMap intC = ((cntL P i).flatMap intC).set j (.int .i64 ((cj + 1 : Nat) : Int)) := by
          exact flat_set (cntL P i) j (cj + 1)
        rw [e]
        exact h)
      have hbz : Below w.heap.size w wz := by
        rw [hwz]
        exact hbd.setCell hgw _
      clear hwz HWD HOW hSz hbd
      simp only [puts, Act.put, List.setIfInBounds_toArray, List.set_cons_succ, List.set_cons_zero]
      go_wp2
      go_roundw
      case rel => exact ⟨i + 1, by go_num, by omega, HOZ, hbz⟩
      case measure => simp [intOf]; omega
    · have hin : i = n := by omega
      have HIN := Lib.hid hin
      clear hin
      go_wp2
      go_ret
      refine ⟨_, rfl, ?_, hbr⟩
      rw [HDD.out]
      refine IV.own (base := w.heap.size) (e := 3) (n := P) ?_ (by simp [cntL])
      have h := HO.out
      rwa [HIN.out] at h

end Go.Proofs.Ytggfegogjmckcaa
