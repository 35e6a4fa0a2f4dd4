/- The walk of Read: what sectors tell. -/
import Derived.Test.YthcolmdfpciolaaWWrite
namespace Go.Proofs.Ythcolmdfpciolaa
open Go.RowKit

theorem join_row {v : Value} {l : List ByteArray} {w : World} (h : RowV w v l) (h0 : 0 < l.length) (hf : fillB l = true) (hl : l.length ≤ 1000000) :
    Calls Try.prog 48 #[v, .string ⟨#[]⟩] w fun e w' => e = .returned (.string (flatS l)) ∧ Below w.heap.size w w' := by
  obtain ⟨A, c, rfl, hs, hc⟩ := h
  obtain ⟨hlc, g, rfl⟩ := hc h0
  obtain ⟨ad, he, hab, hca⟩ := hs h0
  injection he with he
  subst he
  have hfl := flat_size (l := l) (fun x hx => fill_mem hf hx)
  have hj := Try.strings_Join g 0 c l ⟨#[]⟩ w (fun j x hx => by
    obtain ⟨hj, rfl⟩ := List.getElem?_eq_some_iff.1 hx
    have := hca j hj
    cases j <;> simpa [Addr.add] using this) hab (by omega) hlc (by
      show (Lib.join _ []).length ≤ _
      rw [join_flat, hfl]
      omega)
  have e : (⟨(Lib.join (l.map (·.data.toList)) (⟨#[]⟩ : ByteArray).data.toList).toArray⟩ : ByteArray) = flatS l := by
    show (⟨(Lib.join _ []).toArray⟩ : ByteArray) = _
    rw [join_flat]
    rfl
  rw [e] at hj
  exact hj
theorem flat_secs (t : List UInt8) : flatS (secsL t) = ⟨(padL (bytesL t)).toArray⟩ := by
  unfold flatS secsL
  rw [cut_flat]

/-- What the sectors that were read are, and tell. -/
def readS (S : List ByteArray) (W : List Wr) (a k : Nat) : ByteArray := flatS (((doneL S W).drop a).take k)
theorem read_size {S : List ByteArray} {W : List Wr} {a k : Nat} (hR : rightB S W = true) (hak : a + k ≤ S.length) : (readS S W a k).size = 32 * k := by
  obtain ⟨r1, r2, r3, r4⟩ := right_parts hR
  have hf := done_fill r3 (fun x hx => ⟨(r4 x hx).1, (r4 x hx).2.1⟩)
  have h := flat_size (l := ((doneL S W).drop a).take k) (fun x hx => fill_mem hf (List.mem_of_mem_drop (List.mem_of_mem_take hx)))
  show (((((doneL S W).drop a).take k).map (·.data.toList)).flatten).toArray.size = _
  rw [List.size_toArray, h, List.length_take, List.length_drop, done_len]
  omega

theorem text_of (s : ByteArray) (z : Nat) (hz : z = sizeOf4 s.data.toList) (h : z + 7 ≤ s.size) : (s.extract 7 (7 + z)).data.toList = textOf s.data.toList ∧ (s.extract 7 (7 + z)).size = z := by
  refine ⟨?_, by rw [ByteArray.size_extract]; omega⟩
  unfold textOf
  rw [ByteArray.data_extract, Array.toList_extract, List.extract_eq_take_drop, ← hz, Nat.add_sub_cancel_left]

set_option maxHeartbeats 2000000 in
theorem tell_any {v : Value} {S : List ByteArray} {W : List Wr} {a k : Nat} {w : World} (h : DV w v S W) (hm : W.length ≤ 1000000) (hR : rightB S W = true) (hak : a + k ≤ S.length) :
    Calls Try.prog 28 #[v, .int .i64 a, .int .i64 k] w fun e w' => e = .returned (.tuple #[.string ⟨(tellT (readS S W a k).data.toList k).toArray⟩, .int .i64 (tellE (readS S W a k).data.toList k)]) ∧ Below w.heap.size w w' := by
  have hS512 : S.length ≤ 512 := (right_parts hR).2.1
  have hss := read_size hR hak
  have HRD := Lib.hid (fun (wx : World) (hb : Below w.heap.size w wx) => read_dv (a := a) (k := k) (h.on hb) hm hR hak)
  obtain ⟨s, hs⟩ : ∃ s, s = readS S W a k := ⟨_, rfl⟩
  unfold readS at HRD
  rw [← hs] at hss
  rw [show flatS (((doneL S W).drop a).take k) = s from hs.symm] at HRD
  have HS := Lib.hid hs
  clear hs
  have hk : k ≤ 512 := by omega
  obtain ⟨A, c, B, d, rfl, hA, hB⟩ := h
  have HB0 := Lib.hid ((Below.refl w.heap.size w).alloc (Nat.le_refl _) (.cells #[.slice A S.length c, .slice B W.length d] 25))
  generalize S.length = n at *
  generalize W.length = m at *
  clear hA hB hR hak hm hS512
  have hrd := HRD.out _ HB0.out
  have Q : ∀ r : Value, r = .tuple #[.string ⟨(tellT s.data.toList k).toArray⟩, .int .i64 (tellE s.data.toList k)] → r = .tuple #[.string ⟨(tellT (readS S W a k).data.toList k).toArray⟩, .int .i64 (tellE (readS S W a k).data.toList k)] := fun r hr => by rw [hr, HS.out]
  have HQ := Lib.hid Q
  clear Q HRD
  obtain ⟨z, hz⟩ : ∃ z, z = sizeOf4 s.data.toList := ⟨_, rfl⟩
  by_cases h0 : k = 0
  · subst h0
    have HE := Lib.hid (show tellT s.data.toList 0 = [] ∧ tellE s.data.toList 0 = 2 by
      have hf : formB s.data.toList 0 = false := by unfold formB; rw [decide_eq_false (by simp [hss])]; rfl
      unfold tellT tellE
      rw [hf]
      exact ⟨rfl, rfl⟩)
    go_enter Try.func28, Try.ntmps28
    go_wp2_with fail
    refine hrd.mono ?_
    rintro e w1 ⟨rfl, hb1⟩
    go_wp2_with fail
    refine (take_short s 4 _ (by omega) (by omega) (by omega)).mono ?_
    rintro e w2 ⟨rfl, hb2⟩
    go_wp2
    go_ret2
    exact ⟨congrArg _ (HQ.out _ (by rw [HE.out.1, HE.out.2]; rfl)), HB0.out.trans (hb1.mono HB0.out.size) |>.trans (hb2.mono (by have h1 := hb1.size; have h2 := HB0.out.size; omega))⟩
  · have HTK := Lib.hid (fun wx => take_ok s 4 wx (by omega) (by omega) (by omega))
    unfold sizeOf4 at hz
    rw [← hz] at HTK
    have hzl : z < 4294967296 := by
      rw [hz]
      refine Nat.lt_of_lt_of_le (val_lt _) ?_
      rw [List.length_take]
      exact Nat.le_trans (Nat.pow_le_pow_right (by decide) (show min 4 s.data.toList.length ≤ 4 by omega)) (by decide)
    have HZ := Lib.hid (show z = sizeOf4 s.data.toList from hz)
    clear hz
    by_cases h1 : z ≤ 65535
    · by_cases h2 : needN z = k
      · have hroom := need_room z
        have HF := Lib.hid (show formB s.data.toList k = true by
          unfold formB
          rw [← HZ.out, decide_eq_true h1, decide_eq_true h2, decide_eq_true (by simp [hss]; omega)]
          rfl)
        have hgt : decide ((65535 : Int) < z) = false := decide_eq_false (by omega)
        obtain ⟨htx, htz⟩ := text_of s z HZ.out (by omega)
        have hx1 : z + 7 ≤ s.size := by omega
        obtain ⟨tx, hx⟩ : ∃ tx, tx = s.extract 7 (7 + z) := ⟨_, rfl⟩
        rw [← hx] at htx htz
        have HX := Lib.hid hx
        have HTX := Lib.hid htx
        have HSC := Lib.hid (fun wx => secs_any tx wx (by omega))
        rw [htx] at HSC
        clear hx htx hroom
        go_enter Try.func28, Try.ntmps28
        go_wp2_with fail
        refine hrd.mono ?_
        rintro e w1 ⟨rfl, hb1⟩
        have HB1 := Lib.hid (HB0.out.trans (hb1.mono HB0.out.size))
        clear hb1
        go_wp2_with fail
        refine (HTK.out _).mono ?_
        rintro e w2 ⟨rfl, hb2⟩
        have HB2 := Lib.hid (HB1.out.trans (hb2.mono HB1.out.size))
        clear hb2 HB1
        go_wp2_with fail
        refine (need_in z _ h1).mono ?_
        rintro e w3 ⟨rfl, rfl⟩
        rw [h2]
        go_wp2_with fail
        rw [← HX.out]
        refine (HSC.out _).mono ?_
        rintro e w4 ⟨v4, rfl, hv4, hb4⟩
        have HB4 := Lib.hid (HB2.out.trans (hb4.mono HB2.out.size))
        have hj := join_row hv4 (by rw [secs_len]; exact need_pos _) (secs_fill _) (by rw [secs_len]; have := need_room (textOf s.data.toList).length; have : (textOf s.data.toList).length = z := by rw [← HTX.out, ← htz]; simp
                                                                                       omega)
        rw [flat_secs] at hj
        clear hv4 hb4 HB2
        by_cases h3 : padL (bytesL (textOf s.data.toList)) = s.data.toList
        · have HE := Lib.hid (show tellT s.data.toList k = textOf s.data.toList ∧ tellE s.data.toList k = 0 by
            have hs : sumB s.data.toList = true := decide_eq_true h3
            unfold tellT tellE
            rw [HF.out, hs]
            exact ⟨rfl, rfl⟩)
          have e3 : (⟨(padL (bytesL (textOf s.data.toList))).toArray⟩ : ByteArray) = s := by rw [h3]
          rw [e3] at hj
          have hss2 := str_eq (x := s) rfl
          clear e3 h3
          go_wp2_with fail
          refine hj.mono ?_
          rintro e w5 ⟨rfl, hb5⟩
          go_wp2
          go_ret2
          refine ⟨congrArg _ (HQ.out _ ?_), HB4.out.trans (hb5.mono HB4.out.size)⟩
          rw [HE.out.1, HE.out.2, ← HTX.out]
          rfl
        · have HE := Lib.hid (show tellT s.data.toList k = [] ∧ tellE s.data.toList k = 4 by
            have hs : sumB s.data.toList = false := decide_eq_false h3
            unfold tellT tellE
            rw [HF.out, hs]
            exact ⟨rfl, rfl⟩)
          have e3 : (⟨(padL (bytesL (textOf s.data.toList))).toArray⟩ : ByteArray) ≠ s := fun e => h3 (by have := congrArg (fun x => x.data.toList) e; simpa using this)
          have hss2 := str_ne e3
          generalize (⟨(padL (bytesL (textOf s.data.toList))).toArray⟩ : ByteArray) = ps at *
          clear e3 h3
          go_wp2_with fail
          refine hj.mono ?_
          rintro e w5 ⟨rfl, hb5⟩
          go_wp2
          go_ret2
          exact ⟨congrArg _ (HQ.out _ (by rw [HE.out.1, HE.out.2]; rfl)), HB4.out.trans (hb5.mono HB4.out.size)⟩
      · skip
        have HE := Lib.hid (show tellT s.data.toList k = [] ∧ tellE s.data.toList k = 2 by
          have hf : formB s.data.toList k = false := by
            unfold formB
            rw [← HZ.out, decide_eq_false (show ¬ needN z = k from h2)]
            simp
          unfold tellT tellE
          rw [hf]
          exact ⟨rfl, rfl⟩)
        have hgt : decide ((65535 : Int) < z) = false := decide_eq_false (by omega)
        have hne : ((needN z : Int) == (k : Int)) = false := by rw [beq_eq_false_iff_ne]; omega
        go_enter Try.func28, Try.ntmps28
        go_wp2_with fail
        refine hrd.mono ?_
        rintro e w1 ⟨rfl, hb1⟩
        have HB1 := Lib.hid (HB0.out.trans (hb1.mono HB0.out.size))
        clear hb1
        go_wp2_with fail
        refine (HTK.out _).mono ?_
        rintro e w2 ⟨rfl, hb2⟩
        have HB2 := Lib.hid (HB1.out.trans (hb2.mono HB1.out.size))
        clear hb2 HB1
        go_wp2_with fail
        refine (need_in z _ h1).mono ?_
        rintro e w3 ⟨rfl, rfl⟩
        generalize needN z = nz at *
        go_wp2
        go_ret2
        exact ⟨congrArg _ (HQ.out _ (by rw [HE.out.1, HE.out.2]; rfl)), HB2.out⟩
    · skip
      have HE := Lib.hid (show tellT s.data.toList k = [] ∧ tellE s.data.toList k = 2 by
        have hf : formB s.data.toList k = false := by
          unfold formB
          rw [← HZ.out, decide_eq_false (show ¬ z ≤ 65535 from h1)]
          simp
        unfold tellT tellE
        rw [hf]
        exact ⟨rfl, rfl⟩)
      have hgt : decide ((65535 : Int) < z) = true := decide_eq_true (by omega)
      go_enter Try.func28, Try.ntmps28
      go_wp2_with fail
      refine hrd.mono ?_
      rintro e w1 ⟨rfl, hb1⟩
      have HB1 := Lib.hid (HB0.out.trans (hb1.mono HB0.out.size))
      clear hb1
      go_wp2_with fail
      refine (HTK.out _).mono ?_
      rintro e w2 ⟨rfl, hb2⟩
      have HB2 := Lib.hid (HB1.out.trans (hb2.mono HB1.out.size))
      clear hb2 HB1
      go_wp2
      go_ret2
      exact ⟨congrArg _ (HQ.out _ (by rw [HE.out.1, HE.out.2]; rfl)), HB2.out⟩

end Go.Proofs.Ythcolmdfpciolaa
