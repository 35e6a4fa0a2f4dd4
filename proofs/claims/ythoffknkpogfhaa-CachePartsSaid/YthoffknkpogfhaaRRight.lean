/- The walks of the document's Right and first. -/
import Derived.Test.YthoffknkpogfhaaRSame
import Derived.Test.YthoffknkpogfhaaWRight
set_option linter.unusedVariables false
set_option linter.unusedSimpArgs false
namespace Go.Proofs.Ythoffknkpogfhaa
open Go.RowKit

theorem nodup_upto {l : List It} {i : Nat} (hi : i < l.length) (h : ((l.take i).map It.a).Nodup) (hn : ∀ (k : Nat) (hk : k < l.length), k < i → l[i].a ≠ l[k].a) : ((l.take (i + 1)).map It.a).Nodup := by
  rw [nodup_snoc hi]
  refine ⟨h, fun hm => ?_⟩
  obtain ⟨x, hx, e⟩ := List.mem_map.1 hm
  obtain ⟨k, hk, rfl⟩ := List.getElem_of_mem hx
  rw [List.length_take] at hk
  rw [List.getElem_take] at e
  exact hn k (by omega) (by omega) e.symm
theorem not_nodup {l : List It} {i k : Nat} (hi : i < l.length) (hk : k < l.length) (hki : k < i) (e : l[i].a = l[k].a) : ¬ (l.map It.a).Nodup := by
  intro h
  have h2 := List.pairwise_iff_getElem.1 (List.nodup_iff_pairwise_ne.1 h) k i (by simpa using hk) (by simpa using hi) hki
  simp only [List.getElem_map] at h2
  exact h2 e.symm

set_option maxHeartbeats 4000000 in
set_option maxRecDepth 100000 in
theorem rright_any {s : Value} {l : List It} (m : Int) (w : World) (hv : IV w s l) (hn : l.length ≤ 1000000) :
    Calls Try.prog 20 #[.agg #[.int .i64 m, s]] w fun e w' => e = .returned (.bool (rightL m l)) ∧ Below w.heap.size w w' := by
  obtain ⟨A, c, rfl, hv⟩ := (show ∃ A c, s = .slice A l.length c ∧ IV w (.slice A l.length c) l from by obtain ⟨A, c, e, h⟩ := hv; exact ⟨A, c, e, A, c, rfl, h⟩)
  obtain ⟨R, hR⟩ : ∃ R, R = rightL m l := ⟨_, rfl⟩
  rw [← hR]
  obtain ⟨n, hl⟩ : ∃ n, l.length = n := ⟨_, rfl⟩
  rw [hl] at hv hn ⊢
  have HL := Lib.hid hl
  have HR := Lib.hid hR
  obtain ⟨w1, hw1⟩ : ∃ w1, w1 = w.alloc (.cells #[.int .i64 m, .slice A n c] 32) := ⟨_, rfl⟩
  obtain ⟨g, hg⟩ : ∃ g, g = w.heap.size := ⟨_, rfl⟩
  have BX := Lib.hid (show Box w1 g 32 #[.int .i64 m, .slice A n c] from by rw [hw1]; exact Box.at_ w _ _ hg)
  have hb1 : Below w.heap.size w w1 := by rw [hw1]; exact (Below.refl _ _).alloc (Nat.le_refl _) _
  have HV0 := Lib.hid (hv.on hb1)
  have HB0 := Lib.hid hb1
  clear hl hR hb1 hv
  have k0 := Box.cell BX.out 0 rfl
  have k1 := Box.cell BX.out 1 rfl
  have fls : ¬ (1 ≤ m ∧ m ≤ 100 ∧ (n : Int) ≤ m) → R = false := fun h => by
    rw [HR.out]
    cases h2 : rightL m l with
    | false => rfl
    | true =>
      rw [right_iff, HL.out] at h2
      exact absurd ⟨h2.1, h2.2.1, h2.2.2.1⟩ h
  have FLS := Lib.hid fls
  clear fls
  go_enter Try.func20, Try.ntmps20
  go_upto_region 1 with fail
  rw [← hg, ← hw1]
  clear hg hw1
  by_cases h1 : 1 ≤ m
  · by_cases h2 : m ≤ 100
    · by_cases h3 : (n : Int) ≤ m
      · have HM := Lib.hid (show 1 ≤ m ∧ m ≤ 100 ∧ (n : Int) ≤ m from ⟨h1, h2, h3⟩)
        have e1 : decide (m < 1) = false := by simp; omega
        have e2 : decide ((100 : Int) < m) = false := by simp; omega
        have e3 : decide (m < (n : Int)) = false := by simp; omega
        clear h1 h2 h3
        go_wp2
        go_loopw [3] (fun iv wr => ∃ (i : Nat), iv = .int .i64 i ∧ i ≤ n ∧ Hid (((l.take i).map It.a).Nodup) ∧ Below w1.heap.size w1 wr) (fun iv _ => (n - intOf iv).toNat)
        case atStart => exact ⟨0, rfl, by omega, (show List.Nodup _ from by simp), Below.refl _ _⟩
        case round =>
          obtain ⟨i, rfl, hi, HD, hbr⟩ := hrel
          clear k0 k1
          have k1 := Box.cell (BX.out.on hbr) 1 rfl
          by_cases hlt : i < n
          · obtain ⟨ad, rfl, hab, hca⟩ := (show Its wr wr.heap.size A l from by obtain ⟨A', c', e, h, _⟩ := HV0.out.on hbr; injection e with e1 _ _; rw [e1]; exact h).seeI (by rw [HL.out]; omega)
            have hil : i < l.length := by rw [HL.out]; exact hlt
            obtain ⟨x, hx⟩ : ∃ x, x = (l[i]'hil).a := ⟨_, rfl⟩
            have HX := Lib.hid hx
            have HIL := Lib.hid hil
            have c1 := (hca i hil).1
            rw [← hx] at c1
            have HBR := Lib.hid hbr
            have HCA := Lib.hid (show ∀ (j : Nat) (h : j < l.length), wr.cell? (ad.add (j * 3)) = some (.int .i64 l[j].a) from fun j h => (hca j h).1)
            clear hca hab hx
            go_wp2
            go_loopw [4] (fun jv wx => ∃ (j : Nat), jv = .int .i64 j ∧ j ≤ i ∧ Hid (∀ (k : Nat) (hk : k < l.length), k < j → x ≠ l[k].a) ∧ Below wr.heap.size wr wx) (fun jv _ => (i - intOf jv).toNat)
            case atStart => exact ⟨0, rfl, by omega, (show ∀ (k : Nat) (hk : k < l.length), k < 0 → x ≠ l[k].a from fun k _ h => absurd h (Nat.not_lt_zero _)), Below.refl _ _⟩
            case round =>
              obtain ⟨j, rfl, hj, HN, hbx⟩ := hrel
              by_cases hji : j < i
              · have hjl : j < l.length := by rw [HL.out]; omega
                have d1 := (hbx.cell (lt_of_cell (HCA.out j hjl))).trans (HCA.out j hjl)
                have c1' := (hbx.cell (lt_of_cell c1)).trans c1
                have k1' := Box.cell (BX.out.on (HBR.out.trans (hbx.mono HBR.out.size))) 1 rfl
                obtain ⟨z, hz⟩ : ∃ z, z = (l[j]'hjl).a := ⟨_, rfl⟩
                rw [← hz] at d1
                have hjn : (j : Int) < (n : Int) := by omega
                have hin : (i : Int) < (n : Int) := by omega
                by_cases hxz : x = z
                · have hbz : (x == z) = true := by simp [hxz]
                  have HE := Lib.hid (show R = false from by
                    rw [HR.out]
                    cases h2 : rightL m l with
                    | false => rfl
                    | true =>
                      rw [right_iff] at h2
                      exact absurd h2.2.2.2 (not_nodup HIL.out hjl hji (by rw [← HX.out, hxz, hz])))
                  have HBX := Lib.hid (HB0.out.trans ((HBR.out.trans (hbx.mono HBR.out.size)).mono HB0.out.size))
                  clear hz hxz
                  go_wp2
                  go_quiet (fail)
                  go_wp2
                  go_ret
                  rw [HE.out]
                  exact ⟨rfl, below_drewN HBX.out _⟩
                · have hbz : (x == z) = false := by simp [hxz]
                  have HN2 := Lib.hid (show ∀ (k : Nat) (hk : k < l.length), k < j + 1 → x ≠ l[k].a from fun k hk h => by
                    rcases Nat.lt_or_ge k j with h1 | h1
                    · exact HN.out k hk h1
                    · obtain rfl : k = j := by omega
                      rw [← hz]; exact hxz)
                  clear hz hxz
                  go_wp2
                  go_quiet (fail)
                  go_wp2
                  go_roundw
                  case rel => exact ⟨j + 1, by go_num, by omega, HN2.out, below_drewN hbx _⟩
                  case measure => simp [intOf]; omega
              · have HD2 := Lib.hid (nodup_upto HIL.out HD.out (fun k hk h => by rw [← HX.out]; exact HN.out k hk (by omega)))
                have HBX := Lib.hid (HBR.out.trans (hbx.mono HBR.out.size))
                clear hbx
                go_wp2
                go_roundw
                case rel => exact ⟨i + 1, by go_num, by omega, HD2.out, HBX.out⟩
                case measure => simp [intOf]; omega
          · have HE := Lib.hid (show R = true from by
              rw [HR.out, right_iff]
              have h := HD.out
              rw [List.take_of_length_le (by rw [HL.out]; omega)] at h
              exact ⟨HM.out.1, HM.out.2.1, by rw [HL.out]; exact HM.out.2.2, h⟩)
            have HBX := Lib.hid (HB0.out.trans (hbr.mono HB0.out.size))
            go_wp2
            go_ret
            rw [HE.out]
            exact ⟨rfl, HBX.out⟩
      · have HE := Lib.hid (FLS.out fun h => h3 h.2.2)
        have e1 : decide (m < 1) = false := by simp; omega
        have e2 : decide ((100 : Int) < m) = false := by simp; omega
        have e3 : decide (m < (n : Int)) = true := by simp; omega
        clear h1 h2 h3
        go_wp2
        go_ret
        rw [HE.out]
        exact ⟨rfl, HB0.out⟩
    · have HE := Lib.hid (FLS.out fun h => h2 h.2.1)
      have e1 : decide (m < 1) = false := by simp; omega
      have e2 : decide ((100 : Int) < m) = true := by simp; omega
      clear h1 h2
      go_wp2
      go_ret
      rw [HE.out]
      exact ⟨rfl, HB0.out⟩
  · have HE := Lib.hid (FLS.out fun h => h1 h.1)
    have e1 : decide (m < 1) = true := by simp; omega
    clear h1
    go_wp2
    go_ret
    rw [HE.out]
    exact ⟨rfl, HB0.out⟩

def firstR (l : List It) (x : It) : List It := x :: l.filter fun y => decide (y.a ≠ x.a)
set_option maxHeartbeats 4000000 in
set_option maxRecDepth 100000 in
theorem first_any {s : Value} {l : List It} (x : It) (w : World) (hv : IV w s l) (hn : l.length ≤ 1000) :
    Calls Try.prog 26 #[s, .agg #[.int .i64 x.a, .string x.t, .bool x.d]] w fun e w' => ∃ v', e = .returned v' ∧ w'.ownsRow w.heap.size 33 3 v' (firstR l x).length ((firstR l x).flatMap It.cells) ∧ Below w.heap.size w w' := by
  obtain ⟨A, c, rfl, hv⟩ := (show ∃ A c, s = .slice A l.length c ∧ IV w (.slice A l.length c) l from by obtain ⟨A, c, e, h⟩ := hv; exact ⟨A, c, e, A, c, rfl, h⟩)
  obtain ⟨n, hl⟩ : ∃ n, l.length = n := ⟨_, rfl⟩
  rw [hl] at hv hn ⊢
  have HL := Lib.hid hl
  obtain ⟨E, hE⟩ : ∃ E, E = firstR l x := ⟨_, rfl⟩
  rw [← hE]
  have HE := Lib.hid hE
  obtain ⟨xa, xt, xd⟩ := x
  simp only
  obtain ⟨w1, hw1⟩ : ∃ w1, w1 = w.alloc (.cells #[.int .i64 xa, .string xt, .bool xd] 33) := ⟨_, rfl⟩
  obtain ⟨w2, hw2⟩ : ∃ w2, w2 = w1.alloc (.cells #[.int .i64 xa, .string xt, .bool xd] 33) := ⟨_, rfl⟩
  obtain ⟨g, hg⟩ : ∃ g, g = w.heap.size := ⟨_, rfl⟩
  obtain ⟨q, hq⟩ : ∃ q, q = w1.heap.size := ⟨_, rfl⟩
  have hgq : g + 1 = q := by rw [hq, hw1, hg]; simp
  have hb1 : Below w.heap.size w w1 := by rw [hw1]; exact (Below.refl _ _).alloc (Nat.le_refl _) _
  have hb12 : Below w1.heap.size w1 w2 := by rw [hw2]; exact (Below.refl _ _).alloc (Nat.le_refl _) _
  have B1 := (show Box w1 g 33 #[.int .i64 xa, .string xt, .bool xd] from by rw [hw1]; exact Box.at_ w _ _ hg)
  have BX := Lib.hid (B1.on hb12)
  have HO2 := Lib.hid (show w2.ownsRow w1.heap.size 33 3 (.slice (some ⟨q, 0, none⟩) 1 1) 1 (([⟨xa, xt, xd⟩] : List It).flatMap It.cells) from by
    rw [hw2, hq]
    exact World.ownsRow_lit w1 #[.int .i64 xa, .string xt, .bool xd] 1 (Nat.le_refl _) (by decide) rfl)
  have HB1 := Lib.hid hb1
  have HB2 := Lib.hid (hb1.trans (hb12.mono hb1.size))
  have HV2 := Lib.hid (hv.on (hb1.trans (hb12.mono hb1.size)))
  have HBB := Lib.hid hb12
  have k0 := Box.cell B1 0 rfl
  have k1 := Box.cell B1 1 rfl
  have k2 := Box.cell B1 2 rfl
  have HV1 := Lib.hid (hv.on hb1)
  have BG := Lib.hid B1
  have HQ := Lib.hid hq
  have HW2 := Lib.hid hw2
  clear hl hE hv hb1 hb12 B1 hq hgq hw2 HV2 BX
  go_enter Try.func26, Try.ntmps26
  go_upto_region 1 with fail
  rw [← hg, ← hw1]
  clear hg hw1
  go_upto_region 2 with fail
  rw [← HQ.out, ← HW2.out]
  clear k0 k1 k2
  go_wp2
  go_loopw [5, 6] (fun ov iv wr => ∃ (k no : Nat), iv = .int .i64 k ∧ k ≤ n ∧ Hid (no = (firstR (l.take k) ⟨xa, xt, xd⟩).length ∧ no ≤ k + 1) ∧ Hid (wr.ownsRow w1.heap.size 33 3 ov no ((firstR (l.take k) ⟨xa, xt, xd⟩).flatMap It.cells)) ∧ Below w1.heap.size w1 wr) (fun _ iv _ => (n - intOf iv).toNat)
  case atStart => exact ⟨0, 1, rfl, by omega, ⟨by simp [firstR], by omega⟩, (show World.ownsRow _ _ _ _ _ _ _ from HO2.out), HBB.out⟩
  case round =>
    obtain ⟨k, no, rfl, hk, HNO, HO, hbr⟩ := hrel
    by_cases hlt : k < n
    · obtain ⟨ad, rfl, hab, hca⟩ := (show Its wr wr.heap.size A l from by obtain ⟨A', c', e, h, _⟩ := HV1.out.on hbr; injection e with e1 _ _; rw [e1]; exact h).seeI (by rw [HL.out]; omega)
      have hkl : k < l.length := by rw [HL.out]; exact hlt
      obtain ⟨c1, c2, c3⟩ := hca k hkl
      obtain ⟨y, hy⟩ : ∃ y, y = l[k]'hkl := ⟨_, rfl⟩
      rw [← hy] at c1 c2 c3
      have HST := Lib.hid (show firstR (l.take (k + 1)) ⟨xa, xt, xd⟩ = firstR (l.take k) ⟨xa, xt, xd⟩ ++ (if y.a = xa then [] else [y]) from by
        unfold firstR
        rw [List.take_succ_eq_append_getElem hkl, List.filter_append, ← hy]
        by_cases h : y.a = xa
        · simp [h]
        · simp [h])
      have HBR := Lib.hid hbr
      have k0 := Box.cell (BG.out.on hbr) 0 rfl
      clear hca hy hkl hab
      obtain ⟨ya, yt, yd⟩ := y
      simp only at c1 c2 c3 HST
      by_cases hxy : ya = xa
      · have hbz : (ya != xa) = false := by simp [hxy]
        have HNX := Lib.hid (show firstR (l.take (k + 1)) ⟨xa, xt, xd⟩ = firstR (l.take k) ⟨xa, xt, xd⟩ from by rw [HST.out, if_pos hxy, List.append_nil])
        clear hxy
        go_wp2
        go_quiet (fail)
        go_wp2
        go_roundw
        case rel =>
          refine ⟨k + 1, no, by go_num, by omega, ?_, ?_, below_drewN hbr _⟩
          · show _ ∧ _
            rw [HNX.out]; exact ⟨HNO.out.1, by have := HNO.out; omega⟩
          · show World.ownsRow _ _ _ _ _ _ _
            rw [HNX.out]; exact own_on HO.out (below_drewN (Below.refl _ _) _)
        case measure => simp [intOf]; omega
      · have hbz : (ya != xa) = true := by simp [hxy]
        have HNX := Lib.hid (show firstR (l.take (k + 1)) ⟨xa, xt, xd⟩ = firstR (l.take k) ⟨xa, xt, xd⟩ ++ [⟨ya, yt, yd⟩] from by rw [HST.out, if_neg hxy])
        clear hxy
        go_wp2
        go_quiet (fail)
        obtain ⟨wq, hwq⟩ : ∃ wq, wq = wr.drewN nq := ⟨_, rfl⟩
        rw [← hwq]
        have hbq : Below wr.heap.size wr wq := by rw [hwq]; exact below_drewN (Below.refl _ _) _
        have y1 := (hbq.cell (lt_of_cell c1)).trans c1
        have y2 := (hbq.cell (lt_of_cell c2)).trans c2
        have y3 := (hbq.cell (lt_of_cell c3)).trans c3
        have HO2 := Lib.hid (own_on HO.out hbq)
        have HBR2 := Lib.hid (HBR.out.trans (hbq.mono HBR.out.size))
        have hno : no ≤ 1001 := by have := HNO.out; omega
        clear hwq hbq c1 c2 c3 k0 hbr
        go_wp2_with (at_builtin; refine push_it ritem_info Try.underlying30 _ rfl _ _ rfl w1.heap.size _ no _ rfl (own_on HO2.out ((Below.refl _ _).alloc (Nat.le_refl _) _)) wq.heap.size ⟨ya, yt, yd⟩ rfl (Box.fresh _ _ _) (by omega) (by have := HBR2.out.size; simp; omega) ?_)
        intro ov' w12 hown hgr hat
        have hb1 : Below wq.heap.size wq (wq.alloc (.cells #[.int .i64 ya, .string yt, .bool yd] 33)) := (Below.refl _ _).alloc (Nat.le_refl _) _
        have HBR3 := Lib.hid ((HBR2.out.trans (hb1.mono HBR2.out.size)).grown hgr (by have := HBR2.out.size; simp; omega) (fun q hq => (own_lt HO2.out hq).1))
        have HO3 := Lib.hid (show w12.ownsRow w1.heap.size 33 3 ov' (no + 1) ((firstR (l.take (k + 1)) ⟨xa, xt, xd⟩).flatMap It.cells) from by
          rw [HNX.out, List.flatMap_append]
          simpa using hown)
        clear hown hgr hat hb1 y1 y2 y3
        go_wp2
        go_roundw
        case rel =>
          refine ⟨k + 1, no + 1, by go_num, by omega, ?_, HO3.out, HBR3.out⟩
          show _ ∧ _
          rw [HNX.out, List.length_append]
          have := HNO.out
          exact ⟨by simp; omega, by omega⟩
        case measure => simp [intOf]; omega
    · have HEQ := Lib.hid (show firstR (l.take k) ⟨xa, xt, xd⟩ = E from by rw [HE.out, List.take_of_length_le (by rw [HL.out]; omega)])
      have HBX := Lib.hid (HB1.out.trans (hbr.mono HB1.out.size))
      go_wp2
      go_ret
      rw [← HEQ.out, ← HNO.out.1]
      exact ⟨_, rfl, own_more HO.out HB1.out.size, HBX.out⟩

end Go.Proofs.Ythoffknkpogfhaa
