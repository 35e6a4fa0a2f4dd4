/- The walks of record and Parse: the records that stand in pieces. -/
import Derived.Test.YtdgjnjhmjgdhnaaDoorWPiece
namespace Go.Proofs.YtdgjnjhmjgdhnaaDoor
open Go.RowKit

def recT (o : Option (List UInt8)) : ByteArray := ⟨(o.getD []).toArray⟩
def dueOf (i a d : Nat) : Option Nat := if i = a then none else some d
theorem drop_get (l : List ByteArray) (i : Nat) (h : i < l.length) : l.drop i = l[i] :: l.drop (i + 1) := List.drop_eq_getElem_cons h

set_option maxHeartbeats 4000000 in
set_option maxRecDepth 100000 in
theorem record_any (g a : Nat) (A : Option Addr) (c : Nat) (l : List ByteArray) (w : World) (hA : Strs w w.heap.size A l) (hn : l.length ≤ 65535) (hs : ∀ x ∈ l, x.size ≤ maxLen) (hg : g ≤ 2147483647) (ha : a ≤ l.length) :
    Calls Tryd.prog 35 #[.int .i64 g, .int .i64 a, .slice A l.length c] w fun e w' => e = .returned (.tuple #[.string (recT (recF g a none (l.drop a))), .bool (recF g a none (l.drop a)).isSome]) ∧ Below w.heap.size w w' := by
  obtain ⟨o, ho⟩ : ∃ o, o = recF g a none (l.drop a) := ⟨_, rfl⟩
  rw [← ho]
  have HO := Lib.hid ho
  have HA := Lib.hid hA
  have HS := Lib.hid hs
  have H0 := Lib.hid (show o = (recF g a (dueOf a a 0) (l.drop a)).map (([] : List UInt8) ++ ·) by
    rw [ho]
    unfold dueOf
    rw [if_pos rfl]
    cases recF g a none (l.drop a) <;> rfl)
  generalize hl : l.length = n at *
  have HL := Lib.hid hl
  clear ho hA hs hl
  go_enter Tryd.func35, Tryd.ntmps35
  go_wp2
  go_loopw [8, 9, 10] (fun t u i wr => ∃ (k d : Nat) (r : ByteArray), t = .string r ∧ u = .int .i64 d ∧ i = .int .i64 k ∧ a ≤ k ∧ k ≤ n ∧ d ≤ 1000 ∧ r.size ≤ 24 * (k - a) ∧ o = (recF g k (dueOf k a d) (l.drop k)).map (r.data.toList ++ ·) ∧ Below w.heap.size w wr) (fun _ _ i _ => (n - intOf i).toNat)
  case atStart => exact ⟨a, 0, ⟨#[]⟩, rfl, rfl, rfl, by omega, by omega, by omega, by show (0 : Nat) ≤ _; omega, H0.out, Below.refl _ _⟩
  case round =>
    obtain ⟨k, d, r, rfl, rfl, rfl, hak, hkn, hd, hrz, hrec, hbr⟩ := hrel
    have HR := Lib.hid hrec
    have HB := Lib.hid hbr
    clear hrec H0
    by_cases hlt : k < n
    · obtain ⟨a1, rfl, hab, hca⟩ := (HA.out.below hbr) (by rw [HL.out]; omega)
      have c1 := hca k (by rw [HL.out]; omega)
      have hm := HS.out _ (List.getElem_mem (by rw [HL.out]; omega : k < l.length))
      have hdr := drop_get l k (by rw [HL.out]; omega)
      obtain ⟨x, hx⟩ : ∃ x, x = l[k]'(by rw [HL.out]; omega) := ⟨_, rfl⟩
      rw [← hx] at c1 hm hdr
      have HD := Lib.hid hdr
      clear hx hca hdr hbr
      have hp := Lib.hid (fun wx => piece_any g k x wx hg (by omega) hm)
      cases hb : rdB g k x.data.toList with
      | false =>
        have HN := Lib.hid (show o = none by
          have h := HR.out
          rw [HD.out, recF_bad (by rw [hb]; rfl)] at h
          exact h)
        rw [(rd_no hb).1, (rd_no hb).2, hb] at hp
        clear hb
        go_wp2_with fail
        refine (hp.out _).mono ?_
        rintro e w1 ⟨rfl, hb1⟩
        have HB1 := Lib.hid (HB.out.trans (hb1.mono HB.out.size))
        clear hb1
        go_wp2
        exact bodyPost_ret (v := .tuple #[.string ⟨#[]⟩, .bool false]) (by simp [results, Tryd.results35, go_sem]) rfl ⟨by rw [HN.out]; rfl, HB1.out⟩
      | true =>
        obtain ⟨q1, q2, _⟩ := rd_parts hb
        have hpl := part_len q1
        have e1 : rdN g k x.data.toList = leftN x.data.toList := by unfold rdN; rw [hb]; rfl
        have e2 : rdS g k x.data.toList = ⟨(partL x.data.toList).toArray⟩ := by unfold rdS; rw [hb]; rfl
        rw [e1, e2, hb] at hp
        obtain ⟨y, hy⟩ : ∃ y, y = leftN x.data.toList := ⟨_, rfl⟩
        obtain ⟨p, hpp⟩ : ∃ p, p = (⟨(partL x.data.toList).toArray⟩ : ByteArray) := ⟨_, rfl⟩
        have hpz : p.size = min y 24 := by
          rw [hpp, hy, ← hpl]
          show (partL x.data.toList).toArray.size = _
          rw [List.size_toArray]
        have HP := Lib.hid (show p.data.toList = partL x.data.toList by rw [hpp])
        rw [← hy, ← hpp] at hp
        rw [← hy] at q2
        have HY := Lib.hid hy
        have HBB := Lib.hid hb
        clear hy hpp hb e1 e2 hpl q1
        have hrp : r.size + p.size ≤ 2000000 := by omega
        by_cases hka : k = a
        · have hd3 : decide ((a : Int) < k) = false := decide_eq_false (by omega)
          have hd4 : decide (a < k) = false := decide_eq_false (by omega)
          have HKA := Lib.hid hka
          clear hka
          have HC := Lib.hid (show (rdB g k x.data.toList && dueB (dueOf k a d) (leftN x.data.toList)) = true by
            rw [HBB.out, ← HY.out]
            unfold dueOf; rw [if_pos HKA.out]; rfl)
          by_cases h24 : y ≤ 24
          · have HN := Lib.hid (show o = some (r.data.toList ++ p.data.toList) by
              have h := HR.out
              rw [HD.out, recF_end HC.out (by rw [← HY.out]; exact h24), ← HP.out] at h
              exact h)
            have hd1 : decide ((y : Int) ≤ 24) = true := decide_eq_true (by omega)
            have hd2 : decide (y ≤ 24) = true := decide_eq_true h24
            obtain ⟨z, hz⟩ : ∃ z, z = r ++ p := ⟨_, rfl⟩
            have HZ := Lib.hid (show recT (some (r.data.toList ++ p.data.toList)) = z by
              rw [hz]
              apply ByteArray.ext
              simp [recT])
            go_wp2_with fail
            refine (hp.out _).mono ?_
            rintro e w1 ⟨rfl, hb1⟩
            have HB1 := Lib.hid (HB.out.trans (hb1.mono HB.out.size))
            clear hb1
            go_wp2
            rw [← hz]
            exact bodyPost_ret (v := .tuple #[.string z, .bool true]) (by simp [results, Tryd.results35, go_sem]) rfl ⟨by rw [HN.out, HZ.out]; rfl, HB1.out⟩
          · have hd1 : decide ((y : Int) ≤ 24) = false := decide_eq_false (by omega)
            have hd2 : decide (y ≤ 24) = false := decide_eq_false h24
            have hw1 : IntKind.i64.wrap ((y : Int) - 24) = ((y - 24 : Nat) : Int) := by rw [IntWalk.i64_in _ (by omega)]; omega
            go_wp2_with fail
            refine (hp.out _).mono ?_
            rintro e w1 ⟨rfl, hb1⟩
            have HB1 := Lib.hid (HB.out.trans (hb1.mono HB.out.size))
            clear hb1
            go_wp2
            go_roundw
            case rel =>
              refine ⟨k + 1, y - 24, r ++ p, rfl, by first | rfl | (congr 1; omega), by go_num, by omega, by omega, by omega, by rw [ByteArray.size_append]; omega, ?_, HB1.out⟩
              have h := HR.out
              rw [HD.out, recF_on HC.out (by rw [← HY.out]; omega), ← HY.out, ← HP.out, Option.map_map] at h
              rw [h]
              unfold dueOf
              rw [if_neg (by omega)]
              congr 1
              funext m
              simp
            case measure => simp [intOf]; omega
        · have hd3 : decide ((a : Int) < k) = true := decide_eq_true (by omega)
          have hd4 : decide (a < k) = true := decide_eq_true (by omega)
          by_cases hyd : y = d
          · have hne : ((y : Int) != d) = false := by simp; omega
            have hne2 : ((y : Int) == d) = true := by simp; omega
            have HC := Lib.hid (show (rdB g k x.data.toList && dueB (dueOf k a d) (leftN x.data.toList)) = true by
              rw [HBB.out, ← HY.out]
              unfold dueOf; rw [if_neg hka, hyd]; simp [dueB])
            by_cases h24 : y ≤ 24
            · have HN := Lib.hid (show o = some (r.data.toList ++ p.data.toList) by
                have h := HR.out
                rw [HD.out, recF_end HC.out (by rw [← HY.out]; exact h24), ← HP.out] at h
                exact h)
              have hd1 : decide ((y : Int) ≤ 24) = true := decide_eq_true (by omega)
              have hd2 : decide (y ≤ 24) = true := decide_eq_true h24
              obtain ⟨z, hz⟩ : ∃ z, z = r ++ p := ⟨_, rfl⟩
              have HZ := Lib.hid (show recT (some (r.data.toList ++ p.data.toList)) = z by
                rw [hz]
                apply ByteArray.ext
                simp [recT])
              go_wp2_with fail
              refine (hp.out _).mono ?_
              rintro e w1 ⟨rfl, hb1⟩
              have HB1 := Lib.hid (HB.out.trans (hb1.mono HB.out.size))
              clear hb1
              go_wp2
              rw [← hz]
              exact bodyPost_ret (v := .tuple #[.string z, .bool true]) (by simp [results, Tryd.results35, go_sem]) rfl ⟨by rw [HN.out, HZ.out]; rfl, HB1.out⟩
            · have hd1 : decide ((y : Int) ≤ 24) = false := decide_eq_false (by omega)
              have hd2 : decide (y ≤ 24) = false := decide_eq_false h24
              have hw1 : IntKind.i64.wrap ((y : Int) - 24) = ((y - 24 : Nat) : Int) := by rw [IntWalk.i64_in _ (by omega)]; omega
              go_wp2_with fail
              refine (hp.out _).mono ?_
              rintro e w1 ⟨rfl, hb1⟩
              have HB1 := Lib.hid (HB.out.trans (hb1.mono HB.out.size))
              clear hb1
              go_wp2
              go_roundw
              case rel =>
                refine ⟨k + 1, y - 24, r ++ p, rfl, by first | rfl | (congr 1; omega), by go_num, by omega, by omega, by omega, by rw [ByteArray.size_append]; omega, ?_, HB1.out⟩
                have h := HR.out
                rw [HD.out, recF_on HC.out (by rw [← HY.out]; omega), ← HY.out, ← HP.out, Option.map_map] at h
                rw [h]
                unfold dueOf
                rw [if_neg (by omega)]
                congr 1
                funext m
                simp
              case measure => simp [intOf]; omega
          · have hne : ((y : Int) != d) = true := by simp; omega
            have hne2 : ((y : Int) == d) = false := by simp; omega
            have HN := Lib.hid (show o = none by
              have h := HR.out
              rw [HD.out, recF_bad (by rw [← HY.out]; unfold dueOf; rw [if_neg hka]; simp [dueB]; omega)] at h
              exact h)
            go_wp2_with fail
            refine (hp.out _).mono ?_
            rintro e w1 ⟨rfl, hb1⟩
            have HB1 := Lib.hid (HB.out.trans (hb1.mono HB.out.size))
            clear hb1
            go_wp2
            exact bodyPost_ret (v := .tuple #[.string ⟨#[]⟩, .bool false]) (by simp [results, Tryd.results35, go_sem]) rfl ⟨by rw [HN.out]; rfl, HB1.out⟩
    · have hkn2 : k = n := by omega
      have HN := Lib.hid (show o = none by
        have h := HR.out
        rw [List.drop_of_length_le (by rw [HL.out]; omega)] at h
        exact h)
      go_wp2
      exact bodyPost_ret (v := .tuple #[.string ⟨#[]⟩, .bool false]) (by simp [results, Tryd.results35, go_sem]) rfl ⟨by rw [HN.out]; rfl, HB.out⟩

end Go.Proofs.YtdgjnjhmjgdhnaaDoor
