/- The walk of the law PackJoins, out of the contracts: it returns true, whatever the texts; nothing that was there changes. -/
import Derived.Test.YtngiadcbmfbonaaLTexts
import Derived.Test.YtngiadcbmfbonaaAppend
namespace Go.Proofs.Ytngiadcbmfbonaa
open Go.RowKit

theorem cat_append (xs ys : List ByteArray) : cat (xs ++ ys) = cat xs ++ cat ys := by unfold cat; rw [List.flatMap_append]

theorem small_ok2 {t : ByteArray} (h : t.size ≤ 300) : textOk t = true := by simp only [textOk, decide_eq_true_eq]; omega
theorem small_all2 {ss : List ByteArray} (h : ∀ t ∈ ss, t.size ≤ 300) : allOk ss = true := by
  unfold allOk; rw [List.all_eq_true]; intro t ht; exact small_ok2 (h t ht)
theorem small_texts {ss : List ByteArray} (h : ∀ t ∈ ss, t.size ≤ 300) : textsS ss = ⟨(cat ss).toArray⟩ ∧ textsE ss = 0 := by
  rw [textsS, textsE, if_pos (small_all2 h), if_pos (small_all2 h)]; exact ⟨rfl, rfl⟩

theorem own_empty (w : World) : (w.alloc (.cells #[] 9)).ownsRow w.heap.size 9 1 (.slice (some ⟨w.heap.size, 0, none⟩) 0 0) 0 [] :=
  World.ownsRow_lit (base := w.heap.size) (e := 9) (size := 1) w #[] 0 (Nat.le_refl _) (by unfold maxLen; omega) rfl

/-- What two appends make, as one list. -/
theorem joined {w w1 w2 : World} {n m base : Nat} {xs ys : List ByteArray} {v1 v2 : Value} (hb : Below base w w1) (hbs : base ≤ w1.heap.size) (h1 : w1.ownsRow base 9 1 v1 (0 + n) ([] ++ xs.map Value.string)) (hg : w1.grownBy w2 v1.ownBlock)
    (h2 : w2.ownsRow base 9 1 v2 (0 + n + m) (([] ++ xs.map Value.string) ++ ys.map Value.string)) (hn : xs.length = n) (hm : ys.length = m) :
    ∃ A c, v2 = .slice A (n + m) c ∧ Strs w2 w2.heap.size A (xs ++ ys) ∧ Below base w w2 := by
  have e : 0 + n + m = (xs ++ ys).length := by rw [List.length_append]; omega
  have h3 : w2.ownsRow base 9 1 v2 (xs ++ ys).length ((xs ++ ys).map Value.string) := by
    rw [← e]; simpa using h2
  obtain ⟨A, c, hv⟩ := own_shape h3
  subst hv
  refine ⟨A, c, by rw [← e, Nat.zero_add], strs_of_own h3, hb.grown hg hbs (fun k hk => (h1.lt k hk).1)⟩

set_option maxHeartbeats 2000000 in
set_option maxRecDepth 100000 in
theorem joins_walk (A B : Option Addr) (c d : Nat) (xs ys : List ByteArray) (w : World) (hA : Strs w w.heap.size A xs) (hB : Strs w w.heap.size B ys) (hn : xs.length ≤ maxLen) (hm : ys.length ≤ maxLen) (hx : ∀ t ∈ xs, t.size ≤ maxLen) (hy : ∀ t ∈ ys, t.size ≤ maxLen) (hc0 : A = none → c = 0) (hd0 : B = none → d = 0) :
    Calls Try.prog 8 #[.slice A xs.length c, .slice B ys.length d] w fun e w' => e = .returned (.bool true) ∧ Below w.heap.size w w' := by
  have HA := Lib.hid hA
  have HC := Lib.hid hc0
  have HD := Lib.hid hd0
  have HB := Lib.hid hB
  have HX := Lib.hid hx
  have HY := Lib.hid hy
  unfold maxLen at hn hm
  clear hA hB hx hy hc0 hd0
  generalize hl : xs.length = n at *
  generalize hl2 : ys.length = m at *
  have HL := Lib.hid hl
  have HL2 := Lib.hid hl2
  clear hl hl2
  by_cases h30 : 30 < n
  · go_enter Try.func8, Try.ntmps8
    go_wp2_with fail
    refine (awake_true _).mono ?_
    rintro e w5 ⟨rfl, hb5⟩
    go_wp2
    go_ret
    exact ⟨rfl, hb5⟩
  by_cases h31 : 30 < m
  · have hd : ¬ (30 : Int) < n := by omega
    go_enter Try.func8, Try.ntmps8
    go_wp2_with fail
    refine (awake_true _).mono ?_
    rintro e w5 ⟨rfl, hb5⟩
    go_wp2
    go_ret
    exact ⟨rfl, hb5⟩
  have hd1 : decide ((30 : Int) < n) = false := by simp; omega
  have hd2 : decide ((30 : Int) < m) = false := by simp; omega
  go_enter Try.func8, Try.ntmps8
  have hb00 : Below w.heap.size w (w.alloc (.cells #[] 9)) := (Below.refl _ _).alloc (Nat.le_refl _) _
  have R1 := Lib.hid (HA.out.below hb00)
  have R2 := Lib.hid (own_empty w)
  clear hb00
  go_wp2_with (first
    | (at_builtin
       refine append_strs _ rfl (.tmp 22) (.tmp 23) rfl w.heap.size (.slice (some ⟨w.heap.size, 0, none⟩) 0 0) 0 [] rfl R2.out w.heap.size A n c xs rfl HL.out R1.out HC.out (by omega) (by simp) ?_
       intro v1 w1 hown1 hg1
       have hbw1 : Below w.heap.size w w1 := ((Below.refl _ w).alloc (Nat.le_refl _) _).grown hg1 (by simp) (by simp [Value.ownBlock]))
    | (at_builtin
       refine append_strs _ rfl (.tmp 24) (.tmp 25) rfl w.heap.size v1 (0 + n) ([] ++ xs.map Value.string) rfl hown1 w.heap.size B m d ys rfl HL2.out (HB.out.below hbw1) HD.out (by omega) hbw1.size ?_
       intro v2 w2 hown2 hg2
       obtain ⟨A2, c2, rfl, hS2, hb02⟩ := joined hbw1 hbw1.size hown1 hg2 hown2 HL.out HL2.out))
  have H2 := Lib.hid hS2
  have HXY := Lib.hid (show ∀ t ∈ xs ++ ys, t.size ≤ maxLen by
    intro t ht
    rcases List.mem_append.1 ht with h | h
    · exact HX.out t h
    · exact HY.out t h)
  have HLL := Lib.hid (show (xs ++ ys).length = n + m by rw [List.length_append, HL.out, HL2.out])
  clear hown1 hg1 hbw1 hown2 hg2 hS2 R1 R2
  go_loopw [28] (fun i wr => ∃ (k : Nat), i = .int .i64 k ∧ k ≤ n + m ∧ (∀ t ∈ (xs ++ ys).take k, t.size ≤ 300) ∧ Below w2.heap.size w2 wr ∧ Below w.heap.size w wr) (fun i _ => ((n + m : Nat) - intOf i).toNat)
  case atStart => exact ⟨0, rfl, by omega, by simp, Below.refl _ _, hb02⟩
  case round =>
    obtain ⟨k, rfl, hk, hall, hb2r, hbr⟩ := hrel
    have HAL := Lib.hid hall
    clear hall
    by_cases hlt : k < n + m
    · obtain ⟨a1, rfl, hab, hca⟩ := (H2.out.below hb2r) (by rw [HLL.out]; omega)
      have c1 := hca k (by rw [HLL.out]; omega)
      have hxm := HXY.out _ (List.getElem_mem (by rw [HLL.out]; omega : k < (xs ++ ys).length))
      obtain ⟨x, hx⟩ : ∃ x, x = (xs ++ ys)[k]'(by rw [HLL.out]; omega) := ⟨_, rfl⟩
      rw [← hx] at c1 hxm
      have HX1 := Lib.hid hx
      unfold maxLen at hxm
      clear hx hca
      by_cases hxo : 300 < x.size
      · go_wp2_with fail
        refine (awake_true _).mono ?_
        rintro e w5 ⟨rfl, hb5⟩
        go_wp2
        go_ret
        exact ⟨rfl, hbr.trans (hb5.mono hbr.size)⟩
      · go_wp2
        go_roundw
        case rel => exact ⟨k + 1, by go_num, by omega, all_take (p := fun t => t.size ≤ 300) (by rw [HLL.out]; omega) HAL.out (by rw [← HX1.out]; omega), hb2r, hbr⟩
        case measure => simp [intOf]; omega
    · have hsm : ∀ t ∈ xs ++ ys, t.size ≤ 300 := by
        have h := HAL.out
        rwa [List.take_of_length_le (by rw [HLL.out]; omega)] at h
      have tx := small_texts (ss := xs) (fun t ht => hsm t (List.mem_append_left _ ht))
      have ty := small_texts (ss := ys) (fun t ht => hsm t (List.mem_append_right _ ht))
      have tz := small_texts hsm
      rw [cat_append] at tz
      have lx := cat_length xs
      have ly := cat_length ys
      rw [HL.out] at lx
      rw [HL2.out] at ly
      generalize cat xs = cx at *
      generalize cat ys = cy at *
      have TX1 := Lib.hid tx.1
      have TX2 := Lib.hid tx.2
      have TY1 := Lib.hid ty.1
      have TY2 := Lib.hid ty.2
      have TZ1 := Lib.hid tz.1
      have TZ2 := Lib.hid tz.2
      clear hsm tx ty tz HAL hb2r hb02
      go_wp2_with fail
      have hcl := texts_any A c xs wr ((HA.out.below hbr).more hbr.size) (by rw [HL.out]; omega) HX.out
      rw [HL.out, TX1.out, TX2.out] at hcl
      refine hcl.mono ?_
      clear hcl
      rintro e w3 ⟨rfl, hb3⟩
      have hb03 : Below w.heap.size w w3 := hbr.trans (hb3.mono hbr.size)
      clear hb3
      go_wp2_with fail
      have hcl := texts_any B d ys w3 ((HB.out.below hb03).more hb03.size) (by rw [HL2.out]; omega) HY.out
      rw [HL2.out, TY1.out, TY2.out] at hcl
      refine hcl.mono ?_
      clear hcl
      rintro e w4 ⟨rfl, hb4⟩
      have hb04 : Below w.heap.size w w4 := hb03.trans (hb4.mono hb03.size)
      clear hb4 hb03
      have hb00 : Below w.heap.size w (w4.alloc (.cells #[] 9)) := hb04.alloc hb04.size _
      have R1 := Lib.hid (HA.out.below hb00)
      have R2 := Lib.hid (own_empty w4)
      have hsz4 := hb04.size
      clear hb00
      go_wp2_with (first
        | (at_builtin
           refine append_strs _ rfl (.tmp 48) (.tmp 49) rfl w4.heap.size (.slice (some ⟨w4.heap.size, 0, none⟩) 0 0) 0 [] rfl R2.out w.heap.size A n c xs rfl HL.out R1.out HC.out (by omega) (by simp) ?_
           intro v5 w5 hown5 hg5
           have hbw5 : Below w4.heap.size w4 w5 := ((Below.refl _ w4).alloc (Nat.le_refl _) _).grown hg5 (by simp) (by simp [Value.ownBlock]))
        | (at_builtin
           refine append_strs _ rfl (.tmp 50) (.tmp 51) rfl w4.heap.size v5 (0 + n) ([] ++ xs.map Value.string) rfl hown5 w.heap.size B m d ys rfl HL2.out (HB.out.below (hb04.trans (hbw5.mono hsz4))) HD.out (by omega) hbw5.size ?_
           intro v6 w6 hown6 hg6
           obtain ⟨A6, c6, rfl, hS6, hb46⟩ := joined hbw5 hbw5.size hown5 hg6 hown6 HL.out HL2.out))
      have hb06 : Below w.heap.size w w6 := hb04.trans (hb46.mono hsz4)
      have hcl := texts_any A6 c6 (xs ++ ys) w6 hS6 (by rw [HLL.out]; omega) HXY.out
      rw [HLL.out, TZ1.out, TZ2.out] at hcl
      refine hcl.mono ?_
      clear hcl hown5 hg5 hbw5 hown6 hg6 hS6 R1 R2
      rintro e w7 ⟨rfl, hb7⟩
      have hb07 : Below w.heap.size w w7 := hb06.trans (hb7.mono hb06.size)
      clear hb06 hb7 hb46 hb04
      have hcc : ((⟨cx.toArray⟩ : ByteArray) ++ ⟨cy.toArray⟩).toList = cx ++ cy := by rw [ByteArray.toList_eq, data_append]
      go_wp2_with fail
      refine (awake_true _).mono ?_
      rintro e w8 ⟨rfl, hb8⟩
      go_wp2
      go_ret
      exact ⟨rfl, hb07.trans (hb8.mono hb07.size)⟩

end Go.Proofs.Ytngiadcbmfbonaa
