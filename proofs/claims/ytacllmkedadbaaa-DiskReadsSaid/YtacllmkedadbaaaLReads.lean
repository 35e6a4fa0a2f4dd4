/- The walk of the law DiskReads. -/
import Derived.Test.YtacllmkedadbaaaAwake
namespace Go.Proofs.Ytacllmkedadbaaa
open Go.RowKit

/-- What each slot of the line holds that tells whether a disk that could not be put to is the same. -/
def ReadsV5 (D : Value) (S : List ByteArray) (V : List Wr) (t : Nat) (v : Value) (w : World) : Prop :=
  match t with
  | 42 => v = D
  | 43 => v = D
  | 44 => DV w v S V
  | 45 => v = .bool true
  | 46 => v = .bool true
  | 47 => v = .bool true
  | 48 => v = .bool true
  | 6 => v = .bool true
  | _ => True
theorem ReadsV5.on {D : Value} {S : List ByteArray} {V : List Wr} {t : Nat} {v : Value} {w w' : World} (h : ReadsV5 D S V t v w) (hb : Below w.heap.size w w') : ReadsV5 D S V t v w' := by
  unfold ReadsV5 at *
  split at h <;> first | exact h | exact DV.on h hb

theorem reads_at (S : List ByteArray) (V : List Wr) (a : Nat) (l : List ByteArray) (hl : a + l.length ≤ S.length) (i : Nat) (h : i < S.length) :
    (doneL S (V ++ putL a l))[i]'(by rw [done_len]; exact h) = if h2 : a ≤ i ∧ i < a + l.length then l[i - a]'(by omega) else (doneL S V)[i]'(by rw [done_len]; exact h) := by
  simp only [done_append]
  exact done_put (doneL S V) a l (by rw [done_len]; exact hl) i (by rw [done_len]; exact h)

set_option maxHeartbeats 8000000 in
set_option maxRecDepth 100000 in
theorem reads_walk (v0 : Value) (S : List ByteArray) (V : List Wr) (a : Int) (t0 : Value) (l : List ByteArray) (w : World) (hv : DV w v0 S V) (ht : SV w t0 l) (hn : S.length ≤ maxLen) (hm : V.length ≤ maxLen) (h24 : V.length * 24 ≤ 140737488355328) (hq : l.length ≤ maxLen) :
    Calls Try.prog 4 #[v0, .int .i64 a, t0] w fun e w' => e = .returned (.bool true) ∧ Below w.heap.size w w' := by
  unfold maxLen at hn hm hq
  obtain ⟨A, c, B, d, rfl, hA, hB⟩ := hv
  obtain ⟨T, tc, rfl, hT⟩ := ht
  have hb0 : Below w.heap.size w (w.alloc (.cells #[.slice A S.length c, .slice B V.length d] 25)) := (Below.refl _ _).alloc (Nat.le_refl _) _
  have HV := Lib.hid ((show DV w (.agg #[.slice A S.length c, .slice B V.length d]) S V from ⟨A, c, B, d, rfl, hA, hB⟩).on hb0)
  have HT := Lib.hid ((show SV w (.slice T l.length tc) l from ⟨T, tc, rfl, hT⟩).on hb0)
  have HD := Lib.hid (show DBlk (w.alloc (.cells #[.slice A S.length c, .slice B V.length d] 25)) w.heap.size A S.length c B V.length d from Box.fresh _ _ _)
  have HB := Lib.hid hb0
  have H24 := Lib.hid h24
  generalize hsl : S.length = n at *
  generalize hvl : V.length = m at *
  generalize hll : l.length = q at *
  have HSL := Lib.hid hsl
  have HVL := Lib.hid hvl
  have HLL := Lib.hid hll
  clear hA hB hT hb0 hsl hvl hll h24
  go_enter Try.func4, Try.ntmps4
  go_wp2_with fail
  refine (ref_dv HV.out (by rw [HVL.out]; exact H24.out)).mono ?_
  rintro e w1 ⟨v1, rfl, hv1, hb1⟩
  have HV := Lib.hid (HV.out.on hb1)
  have HT := Lib.hid (HT.out.on hb1)
  have HD := Lib.hid (show DBlk w1 w.heap.size A n c B m d from Box.on HD.out hb1)
  have HB := Lib.hid (HB.out.trans (hb1.mono HB.out.size))
  have hsm := small_dv hv1
  rw [HSL.out, HVL.out] at hsm
  clear hb1 hv1
  go_wp2_with fail
  refine hsm.mono ?_
  clear hsm
  rintro e w2 ⟨rfl, hb2⟩
  have HV := Lib.hid (HV.out.on hb2)
  have HT := Lib.hid (HT.out.on hb2)
  have HD := Lib.hid (show DBlk w2 w.heap.size A n c B m d from Box.on HD.out hb2)
  have HB := Lib.hid (HB.out.trans (hb2.mono HB.out.size))
  clear hb2
  cases hsb : smallB n m with
  | false =>
    clear hsb
    go_wp2_with fail
    refine (awake_true _).mono ?_
    rintro e w9 ⟨rfl, hb9⟩
    go_wp2
    go_ret
    exact ⟨rfl, HB.out.trans (hb9.mono HB.out.size)⟩
  | true =>
  have hsm : n ≤ 100 ∧ m ≤ 60 := by unfold smallB at hsb; simpa using hsb
  obtain ⟨hn1, hm1⟩ := hsm
  clear hsb
  by_cases hq1 : 60 < q
  · have hq2 : (60 : Int) < q := by omega
    go_wp2_with fail
    refine (awake_true _).mono ?_
    rintro e w9 ⟨rfl, hb9⟩
    go_wp2
    go_ret
    exact ⟨rfl, HB.out.trans (hb9.mono HB.out.size)⟩
  have hq2 : decide ((60 : Int) < q) = false := decide_eq_false (by omega)
  obtain ⟨k0, k1⟩ := DBlk.cells HD.out
  have hz := Box.lt HD.out
  have hrt := right_dv HV.out (by rw [HSL.out]; omega) (by rw [HVL.out]; omega)
  go_wp2_with fail
  refine hrt.mono ?_
  clear hrt k0 k1 hz
  rintro e w3 ⟨rfl, hb3⟩
  have HV := Lib.hid (HV.out.on hb3)
  have HT := Lib.hid (HT.out.on hb3)
  have HD := Lib.hid (show DBlk w3 w.heap.size A n c B m d from Box.on HD.out hb3)
  have HB := Lib.hid (HB.out.trans (hb3.mono HB.out.size))
  clear hb3
  cases hrb : rightB S V with
  | false =>
    clear hrb
    go_wp2_with fail
    refine (awake_true _).mono ?_
    rintro e w9 ⟨rfl, hb9⟩
    go_wp2
    go_ret
    exact ⟨rfl, HB.out.trans (hb9.mono HB.out.size)⟩
  | true =>
  have HR := Lib.hid hrb
  clear hrb
  obtain ⟨k0, k1⟩ := DBlk.cells HD.out
  have hz := Box.lt HD.out
  cases hok : (fillB l && hasB n a q) with
  | false =>
    have hbad : fillB l = false ∨ hasB S.length a l.length = false := by
      rw [HSL.out, HLL.out]
      rwa [Bool.and_eq_false_iff] at hok
    have hput := put_dv_bad HV.out HT.out (by rw [HVL.out]; omega) (by rw [HLL.out]; omega) HR.out hbad
    clear hok hbad
    go_wp2_with fail
    refine hput.mono ?_
    clear hput k0 k1
    rintro e w4 ⟨rfl, hb4⟩
    have HV := Lib.hid (HV.out.on hb4)
    have HD := Lib.hid (show DBlk w4 w.heap.size A n c B m d from Box.on HD.out hb4)
    have HB := Lib.hid (HB.out.trans (hb4.mono HB.out.size))
    clear hb4 hz
    have hb5 : Below w4.heap.size w4 (w4.alloc (.cells #[.slice A n c, .slice B m d] 25)) := (Below.refl _ _).alloc (Nat.le_refl _) _
    have HE := Lib.hid (show DBlk (w4.alloc (.cells #[.slice A n c, .slice B m d] 25)) w4.heap.size A n c B m d from Box.fresh _ _ _)
    have HV := Lib.hid (HV.out.on hb5)
    have HD := Lib.hid (show DBlk _ w.heap.size A n c B m d from Box.on HD.out hb5)
    have HB := Lib.hid (HB.out.trans (hb5.mono HB.out.size))
    clear hb5
    go_wp2
    generalize hw0 : w4.alloc (.cells #[.slice A n c, .slice B m d] 25) = w5 at *
    clear hw0
    have HC1 := Lib.hid (show ∀ wx, Below w5.heap.size w5 wx → wx.cell? ⟨w.heap.size, 0, none⟩ = some (.slice A n c) ∧ wx.cell? ⟨w.heap.size, 1, none⟩ = some (.slice B m d) from fun wx h => DBlk.cells (Box.on HD.out h))
    have HC2 := Lib.hid (show ∀ wx, Below w5.heap.size w5 wx → wx.cell? ⟨w4.heap.size, 0, none⟩ = some (.slice A n c) ∧ wx.cell? ⟨w4.heap.size, 1, none⟩ = some (.slice B m d) from fun wx h => DBlk.cells (Box.on HE.out h))
    refine wp_region_inv [42, 43, 44, 45, 46, 47, 48, 6] (by kernel_rfl) (by kernel_rfl) (fun w' => Below w5.heap.size w5 w') (fun wa wb => Below wa.heap.size wa wb) (ReadsV5 (.agg #[.slice A n c, .slice B m d]) S V) (by kernel_rfl) (fun wa wb h1 h2 => h2.trans (h1.mono h2.size)) (fun t v wa wb h1 h2 => h2.on h1) (Below.refl _ _).drew (steps_of ?_) ?_
    · refine Steps1.cons (fun ax wx hS hG => ?_) (Steps1.cons (fun ax wx hS hG => ?_) (Steps1.cons (fun ax wx hS hG => ?_) (Steps1.cons (fun ax wx hS hG => ?_) (Steps1.cons (fun ax wx hS hG => ?_) (Steps1.cons (fun ax wx hS hG => ?_) (Steps1.cons (fun ax wx hS hG => ?_) (Steps1.cons (fun ax wx hS hG => ?_) Steps1.nil)))))))
      · have q7 := hG.old 7 (by kernel_rfl) (by kernel_rfl)
        obtain ⟨z0, z1⟩ := HC2.out wx hS
        refine step_value (v := (.agg #[.slice A n c, .slice B m d])) (w' := wx) rfl rfl ?_ (Below.refl _ _) (fun d hd => by cases hd; exact rfl)
        go_simp
      · have q3 := hG.old 3 (by kernel_rfl) (by kernel_rfl)
        obtain ⟨z0, z1⟩ := HC1.out wx hS
        refine step_value (v := (.agg #[.slice A n c, .slice B m d])) (w' := wx) rfl rfl ?_ (Below.refl _ _) (fun d hd => by cases hd; exact rfl)
        go_simp
      · obtain ⟨_, q43, rfl⟩ := hG.new 43 (by kernel_rfl) (by kernel_rfl)
        refine step_call (w1 := wx) (f := 12) (args := #[.agg #[.slice A n c, .slice B m d]]) rfl rfl ?_ ((ref_dv (HV.out.on hS) (by rw [HVL.out]; omega)).mono ?_)
        · go_simp
        · rintro e w' ⟨v', rfl, hv, hq⟩
          exact ⟨_, rfl, hq, fun d hd => by cases hd; exact hv⟩
      · obtain ⟨_, q42, rfl⟩ := hG.new 42 (by kernel_rfl) (by kernel_rfl)
        obtain ⟨v1, q44, h1⟩ := hG.new 44 (by kernel_rfl) (by kernel_rfl)
        have h2 : DV wx v1 S V := h1
        refine step_call (w1 := wx) (f := 14) (args := #[.agg #[.slice A n c, .slice B m d], v1]) rfl rfl ?_ ((same_eq (HV.out.on hS) h2 (by rw [HSL.out]; omega) (by rw [HVL.out]; omega)).mono ?_)
        · clear h1 h2
          go_simp
        · rintro e w' ⟨rfl, hq⟩
          exact ⟨_, rfl, hq, fun d hd => by cases hd; exact rfl⟩
      · obtain ⟨_, q45, rfl⟩ := hG.new 45 (by kernel_rfl) (by kernel_rfl)
        refine step_value (v := .bool true) (w' := wx) rfl rfl ?_ (Below.refl _ _) (fun d hd => by cases hd; exact rfl)
        go_simp
      · obtain ⟨_, q46, rfl⟩ := hG.new 46 (by kernel_rfl) (by kernel_rfl)
        refine step_call (w1 := wx) (f := 8) (args := #[]) rfl (by simp [Region.wanted, yielded, q46]) ?_ ((awake_true wx).mono ?_)
        · go_simp
        · rintro e w' ⟨rfl, hq⟩
          exact ⟨_, rfl, hq, fun d hd => by cases hd; exact rfl⟩
      · obtain ⟨_, q46, rfl⟩ := hG.new 46 (by kernel_rfl) (by kernel_rfl)
        obtain ⟨_, q47, rfl⟩ := hG.new 47 (by kernel_rfl) (by kernel_rfl)
        refine step_value (v := .bool true) (w' := wx) rfl rfl ?_ (Below.refl _ _) (fun d hd => by cases hd; exact rfl)
        go_simp
      · obtain ⟨_, q48, rfl⟩ := hG.new 48 (by kernel_rfl) (by kernel_rfl)
        refine step_value (v := .bool true) (w' := wx) rfl rfl ?_ (Below.refl _ _) (fun d hd => by cases hd; exact rfl)
        go_simp
    intro f w6 hS6 hV6
    have hv6 : f 6 = .bool true := hV6 6 (by decide)
    simp only [puts, Act.put, List.setIfInBounds_toArray, List.set_cons_succ, List.set_cons_zero]
    clear hV6
    rw [hv6]
    go_wp2
    go_ret
    exact ⟨rfl, HB.out.trans (hS6.mono HB.out.size)⟩
  | true =>
    rw [Bool.and_eq_true] at hok
    obtain ⟨hf, hh⟩ := hok
    have hh2 := hh
    unfold hasB at hh2
    simp only [decide_eq_true_eq] at hh2
    obtain ⟨a1, a2, _, a4⟩ := hh2
    obtain ⟨b, rfl⟩ := Int.eq_ofNat_of_zero_le a1
    have hbq : b + q ≤ n := by omega
    have hput := put_dv_ok (a := (b : Int)) HV.out HT.out (by rw [HVL.out]; omega) (by rw [HLL.out]; omega) HR.out hf (by rw [HSL.out, HLL.out]; exact hh)
    have HR2 := Lib.hid (put_right HR.out hf (by rw [HSL.out, HLL.out]; exact hh))
    have HPL := Lib.hid (show (V ++ putL b l).length = m + q by rw [List.length_append, put_len, HVL.out, HLL.out])
    have HAT := Lib.hid (fun (i : Nat) (h : i < S.length) => reads_at S V b l (by rw [HSL.out, HLL.out]; exact hbq) i h)
    generalize V ++ putL b l = P at *
    clear hf hh a1 a2 a4
    go_wp2_with fail
    refine hput.mono ?_
    clear hput k0 k1
    rintro e w4 ⟨v4, rfl, hv4, hb4⟩
    obtain ⟨A4, c4, B4, d4, rfl, hA4, hB4⟩ := hv4
    rw [HSL.out, HPL.out]
    have HP := Lib.hid (show DV w4 (.agg #[.slice A4 n c4, .slice B4 (m + q) d4]) S P from ⟨A4, c4, B4, d4, by rw [HSL.out, HPL.out], hA4, hB4⟩)
    have HV := Lib.hid (HV.out.on hb4)
    have HT := Lib.hid (HT.out.on hb4)
    have HD := Lib.hid (show DBlk w4 w.heap.size A n c B m d from Box.on HD.out hb4)
    have HB := Lib.hid (HB.out.trans (hb4.mono HB.out.size))
    clear hb4 hz hA4 hB4
    have hb5 : Below w4.heap.size w4 (w4.alloc (.cells #[.slice A4 n c4, .slice B4 (m + q) d4] 25)) := (Below.refl _ _).alloc (Nat.le_refl _) _
    have HE := Lib.hid (show DBlk (w4.alloc (.cells #[.slice A4 n c4, .slice B4 (m + q) d4] 25)) w4.heap.size A4 n c4 B4 (m + q) d4 from Box.fresh _ _ _)
    have HV := Lib.hid (HV.out.on hb5)
    have HT := Lib.hid (HT.out.on hb5)
    have HP := Lib.hid (HP.out.on hb5)
    have HD := Lib.hid (show DBlk _ w.heap.size A n c B m d from Box.on HD.out hb5)
    have HB := Lib.hid (HB.out.trans (hb5.mono HB.out.size))
    clear hb5
    have hfl := flush_dv HP.out (by rw [HPL.out]; omega) HR2.out
    have HMQ := Lib.hid (show m + q ≤ 120 by omega)
    generalize hmq : m + q = mq at *
    go_wp2_with fail
    refine hfl.mono ?_
    clear hfl
    rintro e w5 ⟨v5, rfl, hv5, hb5⟩
    obtain ⟨A5, c5, B5, d5, rfl, hA5, hB5⟩ := hv5
    rw [done_len, HSL.out, show ([] : List Wr).length = 0 from rfl]
    have HF := Lib.hid (show DV w5 (.agg #[.slice A5 n c5, .slice B5 0 d5]) (doneL S P) [] from ⟨A5, c5, B5, d5, by rw [done_len, HSL.out]; rfl, hA5, hB5⟩)
    have HR3 := Lib.hid (done_right HR2.out (fun x hx => hx))
    have HV := Lib.hid (HV.out.on hb5)
    have HT := Lib.hid (HT.out.on hb5)
    have HP := Lib.hid (HP.out.on hb5)
    have HD := Lib.hid (show DBlk w5 w.heap.size A n c B m d from Box.on HD.out hb5)
    have HE := Lib.hid (show DBlk w5 w4.heap.size A4 n c4 B4 mq d4 from Box.on HE.out hb5)
    have HB := Lib.hid (HB.out.trans (hb5.mono HB.out.size))
    clear hb5 hA5 hB5
    have hb6 : Below w5.heap.size w5 (w5.alloc (.cells #[.slice A5 n c5, .slice B5 0 d5] 25)) := (Below.refl _ _).alloc (Nat.le_refl _) _
    have HG := Lib.hid (show DBlk (w5.alloc (.cells #[.slice A5 n c5, .slice B5 0 d5] 25)) w5.heap.size A5 n c5 B5 0 d5 from Box.fresh _ _ _)
    have HV := Lib.hid (HV.out.on hb6)
    have HT := Lib.hid (HT.out.on hb6)
    have HP := Lib.hid (HP.out.on hb6)
    have HF := Lib.hid (HF.out.on hb6)
    obtain ⟨k0, k1⟩ := DBlk.cells HD.out
    have hz := Box.lt HD.out
    have HD := Lib.hid (show DBlk _ w.heap.size A n c B m d from Box.on HD.out hb6)
    have HE := Lib.hid (show DBlk _ w4.heap.size A4 n c4 B4 mq d4 from Box.on HE.out hb6)
    have HB := Lib.hid (HB.out.trans (hb6.mono HB.out.size))
    clear hb6
    go_wp2
    clear k0 k1
    go_loopw [54] (fun i wr => ∃ (k : Nat), i = .int .i64 k ∧ k ≤ n ∧ (DV wr (.agg #[.slice A n c, .slice B m d]) S V ∧ SV wr (.slice T q tc) l ∧ DV wr (.agg #[.slice A4 n c4, .slice B4 mq d4]) S P ∧ DV wr (.agg #[.slice A5 n c5, .slice B5 0 d5]) (doneL S P) []) ∧ (DBlk wr w.heap.size A n c B m d ∧ DBlk wr w4.heap.size A4 n c4 B4 mq d4 ∧ DBlk wr w5.heap.size A5 n c5 B5 0 d5) ∧ Below w.heap.size w wr) (fun i _ => (n - intOf i).toNat)
    case atStart => exact ⟨0, rfl, by omega, ⟨HV.out, HT.out, HP.out, HF.out⟩, ⟨HD.out, HE.out, HG.out⟩, HB.out⟩
    clear HV HT HP HF HD HE HG HB hz
    case round =>
      obtain ⟨k, rfl, hk, ⟨hv, ht, hp, hf⟩, ⟨hd, he, hg⟩, hbr⟩ := hrel
      have HV := Lib.hid hv
      have HT := Lib.hid ht
      have HP := Lib.hid hp
      have HF := Lib.hid hf
      have HD := Lib.hid hd
      have HE := Lib.hid he
      have HG := Lib.hid hg
      have HB := Lib.hid hbr
      clear hv ht hp hf hd he hg hbr
      by_cases hlt : k < n
      · have HK := Lib.hid (show k < S.length by rw [HSL.out]; exact hlt)
        have hat := HAT.out k HK.out
        obtain ⟨k0, k1⟩ := DBlk.cells HE.out
        have hz := Box.lt HE.out
        have hr1 := read_one HP.out (by rw [HPL.out]; have := HMQ.out; omega) HR2.out HK.out
        have hr2 : ∀ wx, Below wr.heap.size wr wx → _ := fun wx h => read_one (HF.out.on h) (by simp) HR3.out (by rw [done_len]; exact HK.out)
        have hr3 : ∀ wx, Below wr.heap.size wr wx → _ := fun wx h => read_one (HV.out.on h) (by rw [HVL.out]; omega) HR.out HK.out
        simp only [done_nil] at hr2
        generalize (doneL S P)[k]'(by rw [done_len]; exact HK.out) = s at *
        generalize (doneL S V)[k]'(by rw [done_len]; exact HK.out) = was at *
        have HR2' := Lib.hid hr2
        have HR3' := Lib.hid hr3
        have HAT' := Lib.hid hat
        clear hr2 hr3 hat
        go_wp2_with fail
        refine hr1.mono ?_
        clear hr1 k0 k1 hz
        rintro e w6 ⟨rfl, hb6⟩
        have hr2 := HR2'.out w6 hb6
        have HG6 := Lib.hid (show DBlk w6 w5.heap.size A5 n c5 B5 0 d5 from Box.on HG.out hb6)
        have HB6 := Lib.hid hb6
        obtain ⟨k0, k1⟩ := DBlk.cells HG6.out
        have hz := Box.lt HG6.out
        clear hb6
        go_wp2_with fail
        refine hr2.mono ?_
        clear hr2 k0 k1 hz
        rintro e w7 ⟨rfl, hb7⟩
        have HB7 := Lib.hid (HB6.out.trans (hb7.mono HB6.out.size))
        have hr3 := HR3'.out w7 HB7.out
        have HD7 := Lib.hid (show DBlk w7 w.heap.size A n c B m d from Box.on HD.out HB7.out)
        obtain ⟨k0, k1⟩ := DBlk.cells HD7.out
        have hz := Box.lt HD7.out
        clear hb7
        go_wp2_with fail
        refine hr3.mono ?_
        clear hr3 k0 k1 hz
        rintro e w8 ⟨rfl, hb8⟩
        have HB8 := Lib.hid (HB7.out.trans (hb8.mono HB7.out.size))
        have HBW := Lib.hid (HB.out.trans (HB8.out.mono HB.out.size))
        clear hb8
        have HEND := Lib.hid (show (DV w8 (.agg #[.slice A n c, .slice B m d]) S V ∧ SV w8 (.slice T q tc) l ∧ DV w8 (.agg #[.slice A4 n c4, .slice B4 mq d4]) S P ∧ DV w8 (.agg #[.slice A5 n c5, .slice B5 0 d5]) (doneL S P) []) ∧ (DBlk w8 w.heap.size A n c B m d ∧ DBlk w8 w4.heap.size A4 n c4 B4 mq d4 ∧ DBlk w8 w5.heap.size A5 n c5 B5 0 d5) ∧ Below w.heap.size w w8 from ⟨⟨HV.out.on HB8.out, HT.out.on HB8.out, HP.out.on HB8.out, HF.out.on HB8.out⟩, ⟨Box.on HD.out HB8.out, Box.on HE.out HB8.out, Box.on HG.out HB8.out⟩, HBW.out⟩)
        have hwr : IntKind.i64.wrap ((b : Int) + q) = (b : Int) + q := IntWalk.i64_in _ (by omega)
        by_cases hin : b ≤ k ∧ k < b + q
        · have hwr2 : IntKind.i64.wrap ((k : Int) - b) = ((k - b : Nat) : Int) := by rw [IntWalk.i64_in _ (by omega)]; omega
          have g1 : decide ((b : Int) ≤ k) = true := decide_eq_true (by omega)
          have g2 : decide ((k : Int) < b + q) = true := decide_eq_true (by omega)
          have hx1 : ∃ ad, T = some ad ∧ ad.block < w8.heap.size ∧ w8.cell? (ad.add (k - b)) = some (.string s) := by
            obtain ⟨T8, tc8, he8, hT8⟩ := HEND.out.1.2.1
            injection he8 with he8 _ _
            subst he8
            obtain ⟨ad, rfl, hab, hca⟩ := hT8 (by rw [HLL.out]; omega)
            have x1 := hca (k - b) (by rw [HLL.out]; omega)
            have hsx : s = l[k - b]'(by rw [HLL.out]; omega) := by
              have h := HAT'.out
              rw [dif_pos (by rw [HLL.out]; exact hin)] at h
              exact h
            rw [← hsx] at x1
            exact ⟨ad, rfl, hab, x1⟩
          obtain ⟨ad, rfl, hab, x1⟩ := hx1
          have hss := str_eq (x := s) rfl
          have hkq : k - b < q := by omega
          go_wp2
          go_roundw
          case rel => exact ⟨k + 1, by go_num, by omega, HEND.out⟩
          case measure => simp [intOf]; omega
        · have hsx : s = was := by
            have h := HAT'.out
            rwa [dif_neg (by rw [HLL.out]; exact hin)] at h
          subst hsx
          have hss := str_eq (x := s) rfl
          by_cases hge : b ≤ k
          · have g1 : decide ((b : Int) ≤ k) = true := decide_eq_true (by omega)
            have g2 : decide ((k : Int) < b + q) = false := decide_eq_false (by omega)
            go_wp2
            go_roundw
            case rel => exact ⟨k + 1, by go_num, by omega, HEND.out⟩
            case measure => simp [intOf]; omega
          · have g1 : decide ((b : Int) ≤ k) = false := decide_eq_false (by omega)
            go_wp2
            go_roundw
            case rel => exact ⟨k + 1, by go_num, by omega, HEND.out⟩
            case measure => simp [intOf]; omega
      · obtain ⟨k0, k1⟩ := DBlk.cells HG.out
        obtain ⟨m0, m1⟩ := DBlk.cells HE.out
        obtain ⟨n0, n1⟩ := DBlk.cells HD.out
        have hz1 := Box.lt HG.out
        have hz2 := Box.lt HE.out
        have hz3 := Box.lt HD.out
        have hwr : IntKind.i64.wrap ((m : Int) + q) = (mq : Int) := by rw [IntWalk.i64_in _ (by omega)]; omega
        go_wp2_with fail
        refine (awake_true _).mono ?_
        rintro e w9 ⟨rfl, hb9⟩
        go_wp2
        go_ret
        exact ⟨rfl, HB.out.trans (hb9.mono HB.out.size)⟩

end Go.Proofs.Ytacllmkedadbaaa
