/- The walk of the law DiskCrashes. -/
import Derived.Test.YtacllmkedadbaaaAwake
namespace Go.Proofs.Ytacllmkedadbaaa
open Go.RowKit

theorem flat_true (j : Nat) : (List.replicate j true).flatMap boolC = List.replicate j (Value.bool true) := by
  induction j with
  | zero => rfl
  | succ j ih => rw [List.replicate_succ, List.flatMap_cons, ih]; rfl
theorem bool_info : (Try.prog.info? 4).map (fun i => (i.zero, i.size, i.bytes)) = some (some (.bool false), 1, 1) := by kernel_rfl

/-- What each slot of the last line holds. -/
def CrashV (A : Option Addr) (n c : Nat) (B : Option Addr) (j d : Nat) (A6 : Option Addr) (c6 : Nat) (B6 : Option Addr) (d6 : Nat) (K : Option Addr) (q kc : Nat) (Av : Option Addr) (cv g0 : Nat) (S : List ByteArray) (V : List Wr) (t : Nat) (v : Value) (w : World) : Prop :=
  match t with
  | 99 => v = .agg #[.slice A n c, .slice B j d]
  | 100 => v = .slice Av j cv
  | 101 => DV w v (doneL S V) []
  | 102 => v = .agg #[.slice A n c, .slice B j d]
  | 103 => DV w v (doneL S V) []
  | 104 => DV w v (doneL S V) []
  | 105 => v = .bool true
  | 106 => v = .bool true
  | 107 => v = .agg #[.slice A6 n c6, .slice B6 0 d6]
  | 108 => v = .pointer (some ⟨g0, 0, none⟩)
  | 109 => v = .slice A n c
  | 110 => v = .agg #[.slice A n c, .slice none 0 0]
  | 111 => v = .bool true
  | 112 => v = .bool true
  | 113 => v = .bool true
  | 114 => v = .agg #[.slice A n c, .slice B j d]
  | 115 => DV w v (doneL S V) []
  | 116 => v = .slice K q kc
  | 117 => DV w v (doneL S V) []
  | 118 => v = .agg #[.slice A n c, .slice B j d]
  | 119 => DV w v (doneL S V) []
  | 120 => DV w v (doneL S V) []
  | 121 => v = .bool true
  | 122 => v = .bool true
  | 123 => v = .bool true
  | 124 => v = .bool true
  | 125 => v = .bool true
  | 4 => v = .bool true
  | _ => True
theorem CrashV.on {A : Option Addr} {n c : Nat} {B : Option Addr} {j d : Nat} {A6 : Option Addr} {c6 : Nat} {B6 : Option Addr} {d6 : Nat} {K : Option Addr} {q kc : Nat} {Av : Option Addr} {cv g0 : Nat} {S : List ByteArray} {V : List Wr} {t : Nat} {v : Value} {w w' : World} (h : CrashV A n c B j d A6 c6 B6 d6 K q kc Av cv g0 S V t v w) (hb : Below w.heap.size w w') : CrashV A n c B j d A6 c6 B6 d6 K q kc Av cv g0 S V t v w' := by
  unfold CrashV at *
  split at h <;> first | exact h | exact DV.on h hb

/-- Whether a text is what was there, or what one of these writes has. -/
def okB (i : Nat) (s t : ByteArray) (V : List Wr) : Bool := decide (s = t) || V.any fun x => decide (x.a = i) && decide (x.tx = s)
theorem ok_take (i : Nat) (s t : ByteArray) (V : List Wr) (k : Nat) (h : k < V.length) : okB i s t (V.take (k + 1)) = (okB i s t (V.take k) || (decide (V[k].a = i) && decide (V[k].tx = s))) := by
  unfold okB
  rw [List.take_succ_eq_append_getElem h, List.any_append, Bool.or_assoc]
  simp
theorem ok_done (S : List ByteArray) (V U : List Wr) (hU : ∀ x ∈ U, x ∈ V) (i : Nat) (h : i < S.length) (hV : ∀ x ∈ V, 0 ≤ x.a) : okB i ((doneL S U)[i]'(by rw [done_len]; exact h)) S[i] V = true := by
  unfold okB
  rw [Bool.or_eq_true]
  rcases done_one S U i h (fun x hx => hV x (hU x hx)) with h1 | ⟨x, hx, h1, h2⟩
  · exact .inl (decide_eq_true h1)
  · refine .inr (List.any_eq_true.2 ⟨x, hU x hx, ?_⟩)
    simp [h1, h2]

set_option maxHeartbeats 8000000 in
set_option maxRecDepth 100000 in
theorem crashes_walk (v0 : Value) (S : List ByteArray) (V : List Wr) (k0 : Value) (ks : List Bool) (w : World) (hv : DV w v0 S V) (hk : BV w k0 ks) (hn : S.length ≤ maxLen) (hm : V.length ≤ maxLen) (h24 : V.length * 24 ≤ 140737488355328) (hq : ks.length ≤ maxLen) :
    Calls Try.prog 5 #[v0, k0] w fun e w' => e = .returned (.bool true) ∧ Below w.heap.size w w' := by
  unfold maxLen at hn hm hq
  obtain ⟨A, c, B, d, rfl, hA, hB⟩ := hv
  obtain ⟨K, kc, rfl, hK⟩ := hk
  have hb0 : Below w.heap.size w (w.alloc (.cells #[.slice A S.length c, .slice B V.length d] 25)) := (Below.refl _ _).alloc (Nat.le_refl _) _
  have HV0 := Lib.hid (show DV w (.agg #[.slice A S.length c, .slice B V.length d]) S V from ⟨A, c, B, d, rfl, hA, hB⟩)
  have HV := Lib.hid (HV0.out.on hb0)
  have HK0 := Lib.hid (show BV w (.slice K ks.length kc) ks from ⟨K, kc, rfl, hK⟩)
  have HK := Lib.hid (HK0.out.on hb0)
  have HD := Lib.hid (show DBlk (w.alloc (.cells #[.slice A S.length c, .slice B V.length d] 25)) w.heap.size A S.length c B V.length d from Box.fresh _ _ _)
  have HB := Lib.hid hb0
  have H24 := Lib.hid h24
  generalize hsl : S.length = n at *
  generalize hvl : V.length = m at *
  generalize hll : ks.length = q at *
  have HSL := Lib.hid hsl
  have HVL := Lib.hid hvl
  have HLL := Lib.hid hll
  clear hA hB hK hb0 hsl hvl hll h24
  go_enter Try.func5, Try.ntmps5
  go_wp2_with fail
  refine (ref_dv HV.out (by rw [HVL.out]; exact H24.out)).mono ?_
  rintro e w1 ⟨v1, rfl, hv1, hb1⟩
  have HV := Lib.hid (HV.out.on hb1)
  have HK := Lib.hid (HK.out.on hb1)
  have HD := Lib.hid (show DBlk w1 w.heap.size A n c B m d from Box.on HD.out hb1)
  have HB := Lib.hid (HB.out.trans (hb1.mono HB.out.size))
  have hsm := small_dv hv1
  rw [HSL.out, HVL.out] at hsm
  clear hb1 hv1
  go_wp2_with fail
  refine hsm.mono ?_
  clear hsm
  rintro e w2 ⟨rfl, hb2⟩
  have HV := Lib.hid (HV.out.on hb2)
  have HK := Lib.hid (HK.out.on hb2)
  have HD := Lib.hid (show DBlk w2 w.heap.size A n c B m d from Box.on HD.out hb2)
  have HB := Lib.hid (HB.out.trans (hb2.mono HB.out.size))
  clear hb2
  cases hsb : smallB n m with
  | false =>
    clear hsb
    go_wp2_with fail
    refine (awake_true _).mono ?_
    rintro e w9 ⟨rfl, hb9⟩
    go_wp2
    go_ret
    exact ⟨rfl, HB.out.trans (hb9.mono HB.out.size)⟩
  | true =>
  have hsm : n ≤ 100 ∧ m ≤ 60 := by unfold smallB at hsb; simpa using hsb
  obtain ⟨hn1, hm1⟩ := hsm
  clear hsb
  by_cases hq1 : 60 < q
  · have hq2 : (60 : Int) < q := by omega
    go_wp2_with fail
    refine (awake_true _).mono ?_
    rintro e w9 ⟨rfl, hb9⟩
    go_wp2
    go_ret
    exact ⟨rfl, HB.out.trans (hb9.mono HB.out.size)⟩
  have hq2 : decide ((60 : Int) < q) = false := decide_eq_false (by omega)
  obtain ⟨k0, k1⟩ := DBlk.cells HD.out
  have hz := Box.lt HD.out
  have hrt := right_dv HV.out (by rw [HSL.out]; omega) (by rw [HVL.out]; omega)
  go_wp2_with fail
  refine hrt.mono ?_
  clear hrt k0 k1 hz
  rintro e w3 ⟨rfl, hb3⟩
  have HV := Lib.hid (HV.out.on hb3)
  have HK := Lib.hid (HK.out.on hb3)
  have HD := Lib.hid (show DBlk w3 w.heap.size A n c B m d from Box.on HD.out hb3)
  have HB := Lib.hid (HB.out.trans (hb3.mono HB.out.size))
  clear hb3
  cases hrb : rightB S V with
  | false =>
    clear hrb
    go_wp2_with fail
    refine (awake_true _).mono ?_
    rintro e w9 ⟨rfl, hb9⟩
    go_wp2
    go_ret
    exact ⟨rfl, HB.out.trans (hb9.mono HB.out.size)⟩
  | true =>
  have HR := Lib.hid hrb
  clear hrb
  obtain ⟨k0, k1⟩ := DBlk.cells HD.out
  have hz := Box.lt HD.out
  have hcr := crash_dv HV.out HK.out (by rw [HVL.out]; omega) (by rw [HLL.out]; omega) HR.out
  have hrc := done_right HR.out (fun x hx => kept_mem (ks := ks) hx)
  obtain ⟨C, hC⟩ : ∃ C, C = doneL S (keptL ks V) := ⟨_, rfl⟩
  have HOK := Lib.hid (show ∀ (i : Nat) (h : i < S.length) (h' : i < C.length), okB i C[i] S[i] V = true by
    subst hC
    exact fun i h _ => ok_done S V (keptL ks V) (fun x hx => kept_mem hx) i h (fun x hx => ((right_parts HR.out).2.2.2 x hx).2.1))
  have HCL := Lib.hid (show C.length = n by rw [hC, done_len, HSL.out])
  rw [← hC] at hcr hrc
  have HRC := Lib.hid hrc
  clear hrc hC
  go_wp2_with fail
  refine hcr.mono ?_
  clear hcr k0 k1
  rintro e w4 ⟨v4, rfl, hv4, hb4⟩
  obtain ⟨A4, c4, B4, d4, rfl, hA4, hB4⟩ := hv4
  rw [HCL.out, show ([] : List Wr).length = 0 from rfl]
  have HC := Lib.hid (show DV w4 (.agg #[.slice A4 n c4, .slice B4 0 d4]) C [] from ⟨A4, c4, B4, d4, by rw [HCL.out]; rfl, hA4, hB4⟩)
  have HV := Lib.hid (HV.out.on hb4)
  have HK := Lib.hid (HK.out.on hb4)
  have HD := Lib.hid (show DBlk w4 w.heap.size A n c B m d from Box.on HD.out hb4)
  have HB := Lib.hid (HB.out.trans (hb4.mono HB.out.size))
  clear hb4 hz hA4 hB4
  have hb5 : Below w4.heap.size w4 (w4.alloc (.cells #[.slice A4 n c4, .slice B4 0 d4] 25)) := (Below.refl _ _).alloc (Nat.le_refl _) _
  have HE := Lib.hid (show DBlk (w4.alloc (.cells #[.slice A4 n c4, .slice B4 0 d4] 25)) w4.heap.size A4 n c4 B4 0 d4 from Box.fresh _ _ _)
  obtain ⟨k0, k1⟩ := DBlk.cells HD.out
  have hz := Box.lt HD.out
  have HV := Lib.hid (HV.out.on hb5)
  have HK := Lib.hid (HK.out.on hb5)
  have HC := Lib.hid (HC.out.on hb5)
  have HD := Lib.hid (show DBlk _ w.heap.size A n c B m d from Box.on HD.out hb5)
  have HB := Lib.hid (HB.out.trans (hb5.mono HB.out.size))
  clear hb5
  have hrt := right_dv HC.out (by rw [HCL.out]; omega) (by simp)
  rw [HRC.out] at hrt
  have hnn : ((n : Int) != (n : Int)) = false := by simp
  go_wp2_with fail
  refine hrt.mono ?_
  clear hrt k0 k1 hz
  rintro e w5 ⟨rfl, hb5⟩
  have HV := Lib.hid (HV.out.on hb5)
  have HK := Lib.hid (HK.out.on hb5)
  have HC := Lib.hid (HC.out.on hb5)
  have HD := Lib.hid (show DBlk w5 w.heap.size A n c B m d from Box.on HD.out hb5)
  have HE := Lib.hid (show DBlk w5 w4.heap.size A4 n c4 B4 0 d4 from Box.on HE.out hb5)
  have HB := Lib.hid (HB.out.trans (hb5.mono HB.out.size))
  clear hb5
  obtain ⟨k0, k1⟩ := DBlk.cells HE.out
  have hz := Box.lt HE.out
  go_wp2
  clear k0 k1 hz
  go_loopw [52] (fun i wr => ∃ (k : Nat), i = .int .i64 k ∧ k ≤ n ∧ (DV wr (.agg #[.slice A n c, .slice B m d]) S V ∧ BV wr (.slice K q kc) ks ∧ DV wr (.agg #[.slice A4 n c4, .slice B4 0 d4]) C []) ∧ DBlk wr w.heap.size A n c B m d ∧ Below w.heap.size w wr) (fun i _ => (n - intOf i).toNat)
  case atStart => exact ⟨0, rfl, by omega, ⟨HV.out, HK.out, HC.out⟩, HD.out, HB.out⟩
  clear HV HK HC HD HB HE
  case round =>
    obtain ⟨k, rfl, hk, ⟨hv, ht, hc⟩, hd, hbr⟩ := hrel
    have JV := Lib.hid hv
    have JK := Lib.hid ht
    have JC := Lib.hid hc
    have JD := Lib.hid hd
    have JB := Lib.hid hbr
    clear hv ht hc hd hbr
    by_cases hlt : k < n
    · have hx1 : ∃ ad, A4 = some ad ∧ ad.block < wr.heap.size ∧ wr.cell? (ad.add k) = some (.string (C[k]'(by rw [HCL.out]; exact hlt))) := by
        obtain ⟨A5, c5, B5, d5, he5, hA5, _⟩ := JC.out
        simp only [Value.agg.injEq, Array.mk.injEq, List.cons.injEq, Value.slice.injEq] at he5
        obtain ⟨⟨rfl, _, _⟩, _⟩ := he5
        obtain ⟨ad, rfl, hab, hca⟩ := hA5 (by rw [HCL.out]; omega)
        exact ⟨ad, rfl, hab, hca k (by rw [HCL.out]; omega)⟩
      have hx2 : ∃ ad, A = some ad ∧ ad.block < wr.heap.size ∧ wr.cell? (ad.add k) = some (.string (S[k]'(by rw [HSL.out]; exact hlt))) := by
        obtain ⟨A5, c5, B5, d5, he5, hA5, _⟩ := JV.out
        simp only [Value.agg.injEq, Array.mk.injEq, List.cons.injEq, Value.slice.injEq] at he5
        obtain ⟨⟨rfl, _, _⟩, _⟩ := he5
        obtain ⟨ad, rfl, hab, hca⟩ := hA5 (by rw [HSL.out]; omega)
        exact ⟨ad, rfl, hab, hca k (by rw [HSL.out]; omega)⟩
      have hok := HOK.out k (by rw [HSL.out]; exact hlt) (by rw [HCL.out]; exact hlt)
      generalize C[k]'(by rw [HCL.out]; exact hlt) = s at *
      generalize S[k]'(by rw [HSL.out]; exact hlt) = t at *
      have HOKK := Lib.hid hok
      clear hok
      obtain ⟨ad4, rfl, hab4, x4⟩ := hx1
      obtain ⟨ad0, rfl, hab0, x0⟩ := hx2
      obtain ⟨k0, k1⟩ := DBlk.cells JD.out
      have hz := Box.lt JD.out
      have hst : (s.toList == t.toList) = okB k s t (V.take 0) := by
        unfold okB
        rw [List.take_zero, List.any_nil, Bool.or_false]
        by_cases h : s = t
        · rw [decide_eq_true h, str_eq h]
        · rw [decide_eq_false h, str_ne h]
      go_wp2
      clear k0 k1 hz
      go_loopw [8, 67] (fun b i wq => ∃ (j : Nat), i = .int .i64 j ∧ j ≤ m ∧ b = .bool (okB k s t (V.take j)) ∧ (DV wq (.agg #[.slice (some ad0) n c, .slice B m d]) S V ∧ BV wq (.slice K q kc) ks ∧ DV wq (.agg #[.slice (some ad4) n c4, .slice B4 0 d4]) C []) ∧ DBlk wq w.heap.size (some ad0) n c B m d ∧ Below w.heap.size w wq) (fun _ i _ => (m - intOf i).toNat)
      case atStart => exact ⟨0, rfl, by omega, rfl, ⟨JV.out, JK.out, JC.out⟩, JD.out, JB.out⟩
      case round =>
        obtain ⟨j, rfl, hj, rfl, ⟨hv, ht, hc⟩, hd, hbr⟩ := hrel
        have MV := Lib.hid hv
        have MK := Lib.hid ht
        have MC := Lib.hid hc
        have MD := Lib.hid hd
        have MB := Lib.hid hbr
        clear hv ht hc hd hbr
        by_cases hltj : j < m
        · have hx3 : ∃ ad, B = some ad ∧ (ad.add (j * 2)).block < wr.heap.size ∧ wr.cell? (ad.add (j * 2)) = some (.int .i64 (V[j]'(by rw [HVL.out]; exact hltj)).a) ∧ wr.cell? ⟨(ad.add (j * 2)).block, (ad.add (j * 2)).off + 1, none⟩ = some (.string (V[j]'(by rw [HVL.out]; exact hltj)).tx) := by
            obtain ⟨A5, c5, B5, d5, he5, _, hB5⟩ := MV.out
            simp only [Value.agg.injEq, Array.mk.injEq, List.cons.injEq, Value.slice.injEq] at he5
            obtain ⟨_, ⟨rfl, _, _⟩, _⟩ := he5
            obtain ⟨ad, rfl, hab, hca⟩ := Lies.seeW hB5 (by rw [HVL.out]; omega)
            have h := hca j (by rw [HVL.out]; exact hltj)
            exact ⟨ad, rfl, by rw [block_of_add]; exact hab, h.1, h.2⟩
          have HTK := Lib.hid (ok_take k s t V j (by rw [HVL.out]; exact hltj))
          generalize V[j]'(by rw [HVL.out]; exact hltj) = x at *
          obtain ⟨xa, xt⟩ := x
          simp only at hx3 HTK
          obtain ⟨adw, rfl, hltw, y1, y2⟩ := hx3
          have NEND := Lib.hid (show (DV (wr.alloc (.cells #[.int .i64 xa, .string xt] 46)) (.agg #[.slice (some ad0) n c, .slice (some adw) m d]) S V ∧ BV (wr.alloc (.cells #[.int .i64 xa, .string xt] 46)) (.slice K q kc) ks ∧ DV (wr.alloc (.cells #[.int .i64 xa, .string xt] 46)) (.agg #[.slice (some ad4) n c4, .slice B4 0 d4]) C []) ∧ DBlk (wr.alloc (.cells #[.int .i64 xa, .string xt] 46)) w.heap.size (some ad0) n c (some adw) m d ∧ Below w.heap.size w (wr.alloc (.cells #[.int .i64 xa, .string xt] 46)) from by
            have hb : Below wr.heap.size wr (wr.alloc (.cells #[.int .i64 xa, .string xt] 46)) := (Below.refl _ _).alloc (Nat.le_refl _) _
            exact ⟨⟨MV.out.on hb, MK.out.on hb, MC.out.on hb⟩, Box.on MD.out hb, MB.out.trans (hb.mono MB.out.size)⟩)
          cases hob : okB k s t (V.take j) with
          | true =>
            have HN := Lib.hid (show okB k s t (V.take (j + 1)) = true by rw [HTK.out, hob]; rfl)
            clear hob
            go_wp2
            go_roundw
            case rel => exact ⟨j + 1, by go_num, by omega, by rw [HN.out], NEND.out⟩
            case measure => simp [intOf]; omega
          | false =>
            by_cases hxa : xa = k
            · have e1 : (xa == (k : Int)) = true := by simpa using hxa
              by_cases hxt : xt = s
              · have e2 := str_eq hxt
                have HN := Lib.hid (show okB k s t (V.take (j + 1)) = true by rw [HTK.out, hob, decide_eq_true hxa, decide_eq_true hxt]; rfl)
                clear hob hxa hxt
                go_wp2
                go_roundw
                case rel => exact ⟨j + 1, by go_num, by omega, by rw [HN.out], NEND.out⟩
                case measure => simp [intOf]; omega
              · have e2 := str_ne hxt
                have HN := Lib.hid (show okB k s t (V.take (j + 1)) = false by rw [HTK.out, hob, decide_eq_false hxt, Bool.and_false]; rfl)
                clear hob hxa hxt
                go_wp2
                go_roundw
                case rel => exact ⟨j + 1, by go_num, by omega, by rw [HN.out], NEND.out⟩
                case measure => simp [intOf]; omega
            · have e1 : (xa == (k : Int)) = false := by simpa using hxa
              have HN := Lib.hid (show okB k s t (V.take (j + 1)) = false by rw [HTK.out, hob, decide_eq_false hxa]; rfl)
              clear hob hxa
              go_wp2
              go_roundw
              case rel => exact ⟨j + 1, by go_num, by omega, by rw [HN.out], NEND.out⟩
              case measure => simp [intOf]; omega
        · have hend : okB k s t (V.take j) = true := by rw [List.take_of_length_le (by rw [HVL.out]; omega)]; exact HOKK.out
          rw [hend]
          clear hend
          go_wp2
          go_roundw
          case rel => exact ⟨k + 1, by go_num, by omega, ⟨MV.out, MK.out, MC.out⟩, MD.out, MB.out⟩
          case measure => simp [intOf]; omega
    · obtain ⟨k0, k1⟩ := DBlk.cells JD.out
      have hz := Box.lt JD.out
      obtain ⟨i0, hi0, hz0, hz1, hz2⟩ := info_parts bool_info
      go_wp2
      clear k0 k1 hz
      go_loopw [11, 91] (fun v i wq => ∃ (j : Nat), i = .int .i64 j ∧ j ≤ m ∧ wq.ownsRow (w.heap.size + 1) 4 1 v j (List.replicate j (.bool true)) ∧ DBlk wq w.heap.size A n c B m d ∧ Below w.heap.size w wq) (fun _ i _ => (m - intOf i).toNat)
      case atStart => exact ⟨0, rfl, by omega, World.ownsRow_nil _ _ _ _, JD.out, JB.out⟩
      case round =>
        obtain ⟨j, rfl, hj, hown, hd, hbr⟩ := hrel
        obtain ⟨Av, cv, rfl⟩ := own_shape hown
        by_cases hltj : j < m
        · have NO := Lib.hid hown
          have ND := Lib.hid hd
          have hlt9 := Box.lt hd
          clear hown hd
          go_wp2_with (at_builtin; refine wpList_append_own _ rfl _ _ 43 rfl (w.heap.size + 1) 4 i0 (.bool false) 1 1 Try.underlying43 hi0 hz0 hz1 hz2 rfl (by decide) _ _ _ rfl (NO.out.alloc _) ⟨wr.heap.size, 0, none⟩ 1 1 [.bool true] rfl rfl ?c1 ?c2 ?c3 ?c4 ?c5 ?_)
          case c1 =>
            intro i u hi
            match i, hi with
            | 0, hi => simp at hi; subst hi; simp [Addr.add]
          case c2 => intro u hu; simp at hu; subst hu; rfl
          case c3 => unfold maxLen; omega
          case c4 => omega
          case c5 => simp; omega
          intro v' w5 hown5 hg5 _
          have hbr5 : Below w.heap.size w w5 := (hbr.alloc hbr.size _).grown hg5 (by have := hbr.size; simp at this ⊢; omega) (fun k hk => by have := (NO.out.lt k hk).1; omega)
          have ND5 := Lib.hid (show DBlk w5 w.heap.size A n c B m d from Box.grown (Box.push ND.out _) hg5 (fun e => by have := (NO.out.lt _ e.symm).1; omega))
          have NO5 := Lib.hid (show w5.ownsRow (w.heap.size + 1) 4 1 v' (j + 1) (List.replicate (j + 1) (.bool true)) by
            rw [List.replicate_succ']
            exact hown5)
          clear hown5 hg5
          go_wp2
          go_roundw
          case rel => exact ⟨j + 1, by go_num, by omega, NO5.out, ND5.out, hbr5⟩
          case measure => simp [intOf]; omega
        · have hjm : j = m := by omega
          subst hjm
          have NA := Lib.hid (show BV wr (.slice Av j cv) (List.replicate j true) from ⟨Av, cv, by simp, Lies.own (fun _ => rfl) (by rw [flat_true, List.length_replicate]; exact hown)⟩)
          have ND := Lib.hid hd
          have NB := Lib.hid hbr
          have NV := Lib.hid (HV0.out.on hbr)
          obtain ⟨k0, k1⟩ := DBlk.cells hd
          have hz := Box.lt hd
          have hcr := crash_dv (ks := []) NV.out (BV.nil wr) (by rw [HVL.out]; omega) (by simp) HR.out
          rw [kept_none, done_nil] at hcr
          clear hown hd hbr
          go_wp2_with fail
          refine hcr.mono ?_
          clear hcr k0 k1 hz
          rintro e w6 ⟨v6, rfl, hv6, hb6⟩
          obtain ⟨A6, c6, B6, d6, rfl, hA6, hB6⟩ := hv6
          rw [HSL.out, show ([] : List Wr).length = 0 from rfl]
          have NN := Lib.hid (show DV w6 (.agg #[.slice A6 n c6, .slice B6 0 d6]) S [] from ⟨A6, c6, B6, d6, by rw [HSL.out]; rfl, hA6, hB6⟩)
          have NA := Lib.hid (NA.out.on hb6)
          have ND := Lib.hid (show DBlk w6 w.heap.size A n c B j d from Box.on ND.out hb6)
          have NB := Lib.hid (NB.out.trans (hb6.mono NB.out.size))
          clear hb6 hA6 hB6
          have hb7 : Below w6.heap.size w6 (w6.alloc (.cells #[.slice A6 n c6, .slice B6 0 d6] 25)) := (Below.refl _ _).alloc (Nat.le_refl _) _
          have NE := Lib.hid (show DBlk (w6.alloc (.cells #[.slice A6 n c6, .slice B6 0 d6] 25)) w6.heap.size A6 n c6 B6 0 d6 from Box.fresh _ _ _)
          have NN := Lib.hid (NN.out.on hb7)
          have NA := Lib.hid (NA.out.on hb7)
          have ND := Lib.hid (show DBlk _ w.heap.size A n c B j d from Box.on ND.out hb7)
          have NB := Lib.hid (NB.out.trans (hb7.mono NB.out.size))
          clear hb7
          go_wp2
          generalize hw0 : w6.alloc (.cells #[.slice A6 n c6, .slice B6 0 d6] 25) = w7 at *
          clear hw0
          have HDN := Lib.hid (show (doneL S V).length ≤ 1000000 by rw [done_len, HSL.out]; omega)
          have HRF := Lib.hid (done_right HR.out (fun x hx => hx))
          have HBX := Lib.hid (show ∀ wx, Below w7.heap.size w7 wx → Below w.heap.size w wx from fun wx h => NB.out.trans (h.mono NB.out.size))
          have HC1 := Lib.hid (show ∀ wx, Below w7.heap.size w7 wx → wx.cell? ⟨w.heap.size, 0, none⟩ = some (.slice A n c) ∧ wx.cell? ⟨w.heap.size, 1, none⟩ = some (.slice B j d) from fun wx h => DBlk.cells (Box.on ND.out h))
          have HC2 := Lib.hid (show ∀ wx, Below w7.heap.size w7 wx → wx.cell? ⟨w6.heap.size, 0, none⟩ = some (.slice A6 n c6) ∧ wx.cell? ⟨w6.heap.size, 1, none⟩ = some (.slice B6 0 d6) from fun wx h => DBlk.cells (Box.on NE.out h))
          have HCA := Lib.hid (show ∀ wx, Below w7.heap.size w7 wx → Calls Try.prog 16 #[.agg #[.slice A n c, .slice B j d], .slice Av j cv] wx fun e w' => ∃ v', e = .returned v' ∧ DV w' v' (doneL S V) [] ∧ Below wx.heap.size wx w' from fun wx h => by
            have h1 := crash_dv (ks := List.replicate j true) (HV0.out.on (HBX.out wx h)) (NA.out.on h) (by rw [HVL.out]; omega) (by simp; omega) HR.out
            have e : keptL (List.replicate j true) V = V := by rw [← HVL.out]; exact kept_all V
            rw [e] at h1
            exact h1)
          have HFL := Lib.hid (show ∀ wx, Below w7.heap.size w7 wx → Calls Try.prog 15 #[.agg #[.slice A n c, .slice B j d]] wx fun e w' => ∃ v', e = .returned v' ∧ DV w' v' (doneL S V) [] ∧ Below wx.heap.size wx w' from fun wx h => flush_dv (HV0.out.on (HBX.out wx h)) (by rw [HVL.out]; omega) HR.out)
          have HSN := Lib.hid (show ∀ wx, Below w7.heap.size w7 wx → Calls Try.prog 14 #[.agg #[.slice A6 n c6, .slice B6 0 d6], .agg #[.slice A n c, .slice none 0 0]] wx fun e w' => e = .returned (.bool true) ∧ Below wx.heap.size wx w' from fun wx h => by
            refine same_eq (S := S) (W := []) (NN.out.on h) ?_ (by rw [HSL.out]; omega) (by simp)
            obtain ⟨A5, c5, B5, d5, he5, hA5, _⟩ := HV0.out.on (HBX.out wx h)
            simp only [Value.agg.injEq, Array.mk.injEq, List.cons.injEq, Value.slice.injEq] at he5
            obtain ⟨⟨rfl, _, rfl⟩, _⟩ := he5
            exact ⟨A, c, none, 0, by rw [HSL.out]; rfl, hA5, Lies.nil⟩)
          have HCF := Lib.hid (show ∀ wx, Below w7.heap.size w7 wx → ∀ v5, DV wx v5 (doneL S V) [] → Calls Try.prog 16 #[v5, .slice K q kc] wx fun e w' => ∃ v', e = .returned v' ∧ DV w' v' (doneL S V) [] ∧ Below wx.heap.size wx w' from fun wx h v5 h5 => by
            have h1 := crash_dv h5 (HK0.out.on (HBX.out wx h)) (by simp) (by rw [HLL.out]; omega) HRF.out
            rw [kept_nil, done_nil] at h1
            exact h1)
          refine wp_region_inv [99, 100, 101, 102, 103, 104, 105, 106, 107, 108, 109, 110, 111, 112, 113, 114, 115, 116, 117, 118, 119, 120, 121, 122, 123, 124, 125, 4] (by kernel_rfl) (by kernel_rfl) (fun w' => Below w7.heap.size w7 w') (fun wa wb => Below wa.heap.size wa wb) (CrashV A n c B j d A6 c6 B6 d6 K q kc Av cv w.heap.size S V) (by kernel_rfl) (fun wa wb h1 h2 => h2.trans (h1.mono h2.size)) (fun t v wa wb h1 h2 => h2.on h1) (Below.refl _ _).drew (steps_of ?_) ?_
          ·
            refine Steps1.cons (fun ax wx hS hG => ?_) (Steps1.cons (fun ax wx hS hG => ?_) (Steps1.cons (fun ax wx hS hG => ?_) (Steps1.cons (fun ax wx hS hG => ?_) (Steps1.cons (fun ax wx hS hG => ?_) (Steps1.cons (fun ax wx hS hG => ?_) (Steps1.cons (fun ax wx hS hG => ?_) (Steps1.cons (fun ax wx hS hG => ?_) (Steps1.cons (fun ax wx hS hG => ?_) (Steps1.cons (fun ax wx hS hG => ?_) (Steps1.cons (fun ax wx hS hG => ?_) (Steps1.cons (fun ax wx hS hG => ?_) (Steps1.cons (fun ax wx hS hG => ?_) (Steps1.cons (fun ax wx hS hG => ?_) (Steps1.cons (fun ax wx hS hG => ?_) (Steps1.cons (fun ax wx hS hG => ?_) (Steps1.cons (fun ax wx hS hG => ?_) (Steps1.cons (fun ax wx hS hG => ?_) (Steps1.cons (fun ax wx hS hG => ?_) (Steps1.cons (fun ax wx hS hG => ?_) (Steps1.cons (fun ax wx hS hG => ?_) (Steps1.cons (fun ax wx hS hG => ?_) (Steps1.cons (fun ax wx hS hG => ?_) (Steps1.cons (fun ax wx hS hG => ?_) (Steps1.cons (fun ax wx hS hG => ?_) (Steps1.cons (fun ax wx hS hG => ?_) (Steps1.cons (fun ax wx hS hG => ?_) (Steps1.cons (fun ax wx hS hG => ?_) Steps1.nil)))))))))))))))))))))))))))
            · have q2 := hG.old 2 (by kernel_rfl) (by kernel_rfl)
              obtain ⟨z0, z1⟩ := HC1.out wx hS
              refine step_value (v := .agg #[.slice A n c, .slice B j d]) (w' := wx) rfl rfl ?_ (Below.refl _ _) (fun d hd => by cases hd; exact rfl)
              go_simp
            · have q11 := hG.old 11 (by kernel_rfl) (by kernel_rfl)
              refine step_value (v := .slice Av j cv) (w' := wx) rfl rfl ?_ (Below.refl _ _) (fun d hd => by cases hd; exact rfl)
              go_simp
            · obtain ⟨_, q99, rfl⟩ := hG.new 99 (by kernel_rfl) (by kernel_rfl)
              obtain ⟨_, q100, rfl⟩ := hG.new 100 (by kernel_rfl) (by kernel_rfl)
              refine step_call (w1 := wx) (f := 16) (args := #[.agg #[.slice A n c, .slice B j d], .slice Av j cv]) rfl rfl ?_ ((HCA.out wx hS).mono ?_)
              · skip
                go_simp
              · rintro e w' ⟨v', rfl, hv, hq⟩
                exact ⟨_, rfl, hq, fun d hd => by cases hd; exact hv⟩
            · have q2 := hG.old 2 (by kernel_rfl) (by kernel_rfl)
              obtain ⟨z0, z1⟩ := HC1.out wx hS
              refine step_value (v := .agg #[.slice A n c, .slice B j d]) (w' := wx) rfl rfl ?_ (Below.refl _ _) (fun d hd => by cases hd; exact rfl)
              go_simp
            · obtain ⟨_, q102, rfl⟩ := hG.new 102 (by kernel_rfl) (by kernel_rfl)
              refine step_call (w1 := wx) (f := 15) (args := #[.agg #[.slice A n c, .slice B j d]]) rfl rfl ?_ ((HFL.out wx hS).mono ?_)
              · skip
                go_simp
              · rintro e w' ⟨v', rfl, hv, hq⟩
                exact ⟨_, rfl, hq, fun d hd => by cases hd; exact hv⟩
            · obtain ⟨v103, q103, h103⟩ := hG.new 103 (by kernel_rfl) (by kernel_rfl)
              have p103 : DV wx v103 (doneL S V) [] := h103
              refine step_call (w1 := wx) (f := 12) (args := #[v103]) rfl rfl ?_ ((ref_dv p103 (by simp)).mono ?_)
              · clear h103 p103
                go_simp
              · rintro e w' ⟨v', rfl, hv, hq⟩
                exact ⟨_, rfl, hq, fun d hd => by cases hd; exact hv⟩
            · obtain ⟨v101, q101, h101⟩ := hG.new 101 (by kernel_rfl) (by kernel_rfl)
              have p101 : DV wx v101 (doneL S V) [] := h101
              obtain ⟨v104, q104, h104⟩ := hG.new 104 (by kernel_rfl) (by kernel_rfl)
              have p104 : DV wx v104 (doneL S V) [] := h104
              refine step_call (w1 := wx) (f := 14) (args := #[v101, v104]) rfl rfl ?_ ((same_eq p101 p104 HDN.out (by simp)).mono ?_)
              · clear h101 p101 h104 p104
                go_simp
              · rintro e w' ⟨rfl, hq⟩
                exact ⟨_, rfl, hq, fun d hd => by cases hd; exact rfl⟩
            · obtain ⟨_, q105, rfl⟩ := hG.new 105 (by kernel_rfl) (by kernel_rfl)
              refine step_value (v := .bool true) (w' := wx) rfl rfl ?_ (Below.refl _ _) (fun d hd => by cases hd; exact rfl)
              go_simp
            · have q12 := hG.old 12 (by kernel_rfl) (by kernel_rfl)
              obtain ⟨_, q106, rfl⟩ := hG.new 106 (by kernel_rfl) (by kernel_rfl)
              obtain ⟨z0, z1⟩ := HC2.out wx hS
              refine step_value (v := .agg #[.slice A6 n c6, .slice B6 0 d6]) (w' := wx) rfl (by simp [Region.wanted, yielded, q106]) ?_ (Below.refl _ _) (fun d hd => by cases hd; exact rfl)
              go_simp
            · have q2 := hG.old 2 (by kernel_rfl) (by kernel_rfl)
              obtain ⟨_, q106, rfl⟩ := hG.new 106 (by kernel_rfl) (by kernel_rfl)
              refine step_value (v := .pointer (some ⟨w.heap.size, 0, none⟩)) (w' := wx) rfl (by simp [Region.wanted, yielded, q106]) ?_ (Below.refl _ _) (fun d hd => by cases hd; exact rfl)
              go_simp
            · obtain ⟨_, q108, rfl⟩ := hG.new 108 (by kernel_rfl) (by kernel_rfl)
              obtain ⟨_, q106, rfl⟩ := hG.new 106 (by kernel_rfl) (by kernel_rfl)
              obtain ⟨z0, z1⟩ := HC1.out wx hS
              refine step_value (v := .slice A n c) (w' := wx) rfl (by simp [Region.wanted, yielded, q106]) ?_ (Below.refl _ _) (fun d hd => by cases hd; exact rfl)
              go_simp
            · obtain ⟨_, q109, rfl⟩ := hG.new 109 (by kernel_rfl) (by kernel_rfl)
              obtain ⟨_, q106, rfl⟩ := hG.new 106 (by kernel_rfl) (by kernel_rfl)
              refine step_value (v := .agg #[.slice A n c, .slice none 0 0]) (w' := wx) rfl (by simp [Region.wanted, yielded, q106]) ?_ (Below.refl _ _) (fun d hd => by cases hd; exact rfl)
              go_simp
            · obtain ⟨_, q107, rfl⟩ := hG.new 107 (by kernel_rfl) (by kernel_rfl)
              obtain ⟨_, q110, rfl⟩ := hG.new 110 (by kernel_rfl) (by kernel_rfl)
              obtain ⟨_, q106, rfl⟩ := hG.new 106 (by kernel_rfl) (by kernel_rfl)
              refine step_call (w1 := wx) (f := 14) (args := #[.agg #[.slice A6 n c6, .slice B6 0 d6], .agg #[.slice A n c, .slice none 0 0]]) rfl (by simp [Region.wanted, yielded, q106]) ?_ ((HSN.out wx hS).mono ?_)
              · skip
                go_simp
              · rintro e w' ⟨rfl, hq⟩
                exact ⟨_, rfl, hq, fun d hd => by cases hd; exact rfl⟩
            · obtain ⟨_, q106, rfl⟩ := hG.new 106 (by kernel_rfl) (by kernel_rfl)
              obtain ⟨_, q111, rfl⟩ := hG.new 111 (by kernel_rfl) (by kernel_rfl)
              refine step_value (v := .bool true) (w' := wx) rfl rfl ?_ (Below.refl _ _) (fun d hd => by cases hd; exact rfl)
              go_simp
            · obtain ⟨_, q112, rfl⟩ := hG.new 112 (by kernel_rfl) (by kernel_rfl)
              refine step_value (v := .bool true) (w' := wx) rfl rfl ?_ (Below.refl _ _) (fun d hd => by cases hd; exact rfl)
              go_simp
            · have q2 := hG.old 2 (by kernel_rfl) (by kernel_rfl)
              obtain ⟨_, q113, rfl⟩ := hG.new 113 (by kernel_rfl) (by kernel_rfl)
              obtain ⟨z0, z1⟩ := HC1.out wx hS
              refine step_value (v := .agg #[.slice A n c, .slice B j d]) (w' := wx) rfl (by simp [Region.wanted, yielded, q113]) ?_ (Below.refl _ _) (fun d hd => by cases hd; exact rfl)
              go_simp
            · obtain ⟨_, q114, rfl⟩ := hG.new 114 (by kernel_rfl) (by kernel_rfl)
              obtain ⟨_, q113, rfl⟩ := hG.new 113 (by kernel_rfl) (by kernel_rfl)
              refine step_call (w1 := wx) (f := 15) (args := #[.agg #[.slice A n c, .slice B j d]]) rfl (by simp [Region.wanted, yielded, q113]) ?_ ((HFL.out wx hS).mono ?_)
              · skip
                go_simp
              · rintro e w' ⟨v', rfl, hv, hq⟩
                exact ⟨_, rfl, hq, fun d hd => by cases hd; exact hv⟩
            · have q1 := hG.old 1 (by kernel_rfl) (by kernel_rfl)
              obtain ⟨_, q113, rfl⟩ := hG.new 113 (by kernel_rfl) (by kernel_rfl)
              refine step_value (v := .slice K q kc) (w' := wx) rfl (by simp [Region.wanted, yielded, q113]) ?_ (Below.refl _ _) (fun d hd => by cases hd; exact rfl)
              go_simp
            · obtain ⟨v115, q115, h115⟩ := hG.new 115 (by kernel_rfl) (by kernel_rfl)
              have p115 : DV wx v115 (doneL S V) [] := h115
              obtain ⟨_, q116, rfl⟩ := hG.new 116 (by kernel_rfl) (by kernel_rfl)
              obtain ⟨_, q113, rfl⟩ := hG.new 113 (by kernel_rfl) (by kernel_rfl)
              refine step_call (w1 := wx) (f := 16) (args := #[v115, .slice K q kc]) rfl (by simp [Region.wanted, yielded, q113]) ?_ ((HCF.out wx hS v115 p115).mono ?_)
              · clear h115 p115
                go_simp
              · rintro e w' ⟨v', rfl, hv, hq⟩
                exact ⟨_, rfl, hq, fun d hd => by cases hd; exact hv⟩
            · have q2 := hG.old 2 (by kernel_rfl) (by kernel_rfl)
              obtain ⟨_, q113, rfl⟩ := hG.new 113 (by kernel_rfl) (by kernel_rfl)
              obtain ⟨z0, z1⟩ := HC1.out wx hS
              refine step_value (v := .agg #[.slice A n c, .slice B j d]) (w' := wx) rfl (by simp [Region.wanted, yielded, q113]) ?_ (Below.refl _ _) (fun d hd => by cases hd; exact rfl)
              go_simp
            · obtain ⟨_, q118, rfl⟩ := hG.new 118 (by kernel_rfl) (by kernel_rfl)
              obtain ⟨_, q113, rfl⟩ := hG.new 113 (by kernel_rfl) (by kernel_rfl)
              refine step_call (w1 := wx) (f := 15) (args := #[.agg #[.slice A n c, .slice B j d]]) rfl (by simp [Region.wanted, yielded, q113]) ?_ ((HFL.out wx hS).mono ?_)
              · skip
                go_simp
              · rintro e w' ⟨v', rfl, hv, hq⟩
                exact ⟨_, rfl, hq, fun d hd => by cases hd; exact hv⟩
            · obtain ⟨v119, q119, h119⟩ := hG.new 119 (by kernel_rfl) (by kernel_rfl)
              have p119 : DV wx v119 (doneL S V) [] := h119
              obtain ⟨_, q113, rfl⟩ := hG.new 113 (by kernel_rfl) (by kernel_rfl)
              refine step_call (w1 := wx) (f := 12) (args := #[v119]) rfl (by simp [Region.wanted, yielded, q113]) ?_ ((ref_dv p119 (by simp)).mono ?_)
              · clear h119 p119
                go_simp
              · rintro e w' ⟨v', rfl, hv, hq⟩
                exact ⟨_, rfl, hq, fun d hd => by cases hd; exact hv⟩
            · obtain ⟨v117, q117, h117⟩ := hG.new 117 (by kernel_rfl) (by kernel_rfl)
              have p117 : DV wx v117 (doneL S V) [] := h117
              obtain ⟨v120, q120, h120⟩ := hG.new 120 (by kernel_rfl) (by kernel_rfl)
              have p120 : DV wx v120 (doneL S V) [] := h120
              obtain ⟨_, q113, rfl⟩ := hG.new 113 (by kernel_rfl) (by kernel_rfl)
              refine step_call (w1 := wx) (f := 14) (args := #[v117, v120]) rfl (by simp [Region.wanted, yielded, q113]) ?_ ((same_eq p117 p120 HDN.out (by simp)).mono ?_)
              · clear h117 p117 h120 p120
                go_simp
              · rintro e w' ⟨rfl, hq⟩
                exact ⟨_, rfl, hq, fun d hd => by cases hd; exact rfl⟩
            · obtain ⟨_, q113, rfl⟩ := hG.new 113 (by kernel_rfl) (by kernel_rfl)
              obtain ⟨_, q121, rfl⟩ := hG.new 121 (by kernel_rfl) (by kernel_rfl)
              refine step_value (v := .bool true) (w' := wx) rfl rfl ?_ (Below.refl _ _) (fun d hd => by cases hd; exact rfl)
              go_simp
            · obtain ⟨_, q122, rfl⟩ := hG.new 122 (by kernel_rfl) (by kernel_rfl)
              refine step_value (v := .bool true) (w' := wx) rfl rfl ?_ (Below.refl _ _) (fun d hd => by cases hd; exact rfl)
              go_simp
            · obtain ⟨_, q123, rfl⟩ := hG.new 123 (by kernel_rfl) (by kernel_rfl)
              refine step_call (w1 := wx) (f := 8) (args := #[]) rfl (by simp [Region.wanted, yielded, q123]) ?_ ((awake_true wx).mono ?_)
              · skip
                go_simp
              · rintro e w' ⟨rfl, hq⟩
                exact ⟨_, rfl, hq, fun d hd => by cases hd; exact rfl⟩
            · obtain ⟨_, q123, rfl⟩ := hG.new 123 (by kernel_rfl) (by kernel_rfl)
              obtain ⟨_, q124, rfl⟩ := hG.new 124 (by kernel_rfl) (by kernel_rfl)
              refine step_value (v := .bool true) (w' := wx) rfl rfl ?_ (Below.refl _ _) (fun d hd => by cases hd; exact rfl)
              go_simp
            · obtain ⟨_, q125, rfl⟩ := hG.new 125 (by kernel_rfl) (by kernel_rfl)
              refine step_value (v := .bool true) (w' := wx) rfl rfl ?_ (Below.refl _ _) (fun d hd => by cases hd; exact rfl)
              go_simp

          intro f w8 hS8 hV8
          have hv8 : f 4 = .bool true := hV8 4 (by decide)
          simp only [puts, Act.put, List.setIfInBounds_toArray, List.set_cons_succ, List.set_cons_zero]
          clear hV8
          rw [hv8]
          go_wp2
          go_ret
          exact ⟨rfl, NB.out.trans (hS8.mono NB.out.size)⟩

end Go.Proofs.Ytacllmkedadbaaa
