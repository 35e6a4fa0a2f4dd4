/- The walk of SpaceTells. -/
import Derived.Test.YtodcngkcaeahhaaWDFit
namespace Go.Proofs.Ytodcngkcaeahhaa
open Go.RowKit

set_option maxHeartbeats 4000000 in
set_option maxRecDepth 100000 in
theorem tells_walk (n f t : Int) (A : Option Addr) (c : Nat) (l : List Ex) (w : World) (hA : Exs w w.heap.size A l) (hn : l.length ≤ maxLen) :
    Calls Try.prog 3 #[.int .i64 n, .int .i64 f, .int .i64 t, .slice A l.length c] w fun e w' => e = .returned (.bool true) ∧ Below w.heap.size w w' := by
  unfold maxLen at hn
  have hsa := small_any f t A c l.length w
  by_cases hs : Small f t l.length
  · rw [decide_eq_true hs] at hsa
    have h30 := hs.1
    have hsm : Ok f t l → t - f ≤ 100 := fun h => by
      obtain ⟨a1, a2, a3⟩ := h.1
      rcases hs.2 with h1 | h1 | h1 | h1 <;> omega
    have HFR := Lib.hid (fun w1 (h : Below w.heap.size w w1) => free_any f t A c l w1 (Lies.on hA h) (by omega))
    have HFI := Lib.hid (fun w1 (h : Below w.heap.size w w1) => fit_any n f t A c l w1 (Lies.on hA h) (by omega))
    have HRI := Lib.hid (fun w1 (h : Below w.heap.size w w1) => right_any f t A c l w1 (Lies.on hA h) (by omega))
    have HLE := Lib.hid (fun w1 (h : Below w.heap.size w w1) => left_any f t A c l w1 (Lies.on hA h) (by omega))
    have HRF := Lib.hid (fun w1 (h : Below w.heap.size w w1) => refs_any A c l w1 (Lies.on hA h) (by omega))
    have HDF := Lib.hid (fun A' c' w1 (h : Exs w1 w1.heap.size A' l) => dfree_any f t A' c' l w1 h (by omega) hsm)
    have HDI := Lib.hid (fun A' c' w1 (h : Exs w1 w1.heap.size A' l) => dfit_any n f t A' c' l w1 h (by omega) hsm)
    have HDR := Lib.hid (fun A' c' w1 (h : Exs w1 w1.heap.size A' l) => dright_any f t A' c' l w1 h (by omega))
    have hfl := free_len f t l
    have HSF := Lib.hid (fun k => sum_front (l := freeL f t l) (fun x hx => free_pos hx) k)
    have hlb := left_bound f t l
    unfold leftL at HLE hlb
    generalize freeL f t l = F at *
    generalize fitL n f t l = r at *
    generalize decide (Ok f t l) = ok at *
    obtain ⟨⟨ra, rn⟩, re⟩ := r
    simp only at HFI HDI
    unfold ExsPost at HRF
    generalize hl : l.length = m at *
    have HL := Lib.hid hl
    have hokb : (ok == ok) = true := by simp
    clear hA hs hsm hl
    go_enter Try.func3, Try.ntmps3
    go_wp2_with fail
    refine hsa.mono ?_
    clear hsa
    rintro e w0 ⟨rfl, rfl⟩
    have hfr := HFR.out w0 (Below.refl _ _)
    go_wp2_with fail
    refine hfr.mono ?_
    clear hfr HFR
    rintro e w1 ⟨A1, c1, rfl, hF1, hb1, _⟩
    have HF1 := Lib.hid hF1
    have hfi := HFI.out w1 hb1
    generalize hfn : F.length = fl at *
    have HFN := Lib.hid hfn
    clear hF1 HFI hfn
    go_wp2_with fail
    refine hfi.mono ?_
    clear hfi
    rintro e w2 ⟨rfl, hb2⟩
    have HF2 := Lib.hid (Lies.on (Lies.on HF1.out hb2) ((Below.refl _ w2).alloc (Nat.le_refl _) (.cells #[.int .i64 ra, .int .i64 rn] 27)))
    have hb2a := hb1.trans (hb2.mono hb1.size)
    have hb2b := hb2a.alloc hb2a.size (.cells #[.int .i64 ra, .int .i64 rn] 27)
    have HX := Lib.hid (show EBlk (w2.alloc (.cells #[.int .i64 ra, .int .i64 rn] 27)) w2.heap.size ⟨ra, rn⟩ from Box.fresh _ _ _)
    clear hb1 hb2 hb2a HF1
    have hrf := HRF.out _ hb2b
    go_wp2_with fail
    refine hrf.mono ?_
    clear hrf
    rintro e w3 ⟨A3, c3, rfl, hR3, hb3, _⟩
    have HF3 := Lib.hid (Lies.on HF2.out hb3)
    have HX3 := Lib.hid (show EBlk w3 w2.heap.size ⟨ra, rn⟩ from Box.on HX.out hb3)
    have hb3a := hb2b.trans (hb3.mono hb2b.size)
    have hdf := HDF.out A3 c3 w3 hR3
    clear hb3 hb2b HF2 HX hR3 HDF
    try rw [HL.out]
    generalize w2.heap.size = gx at *
    go_wp2_with fail
    refine hdf.mono ?_
    clear hdf
    rintro e w4 ⟨A4, c4, rfl, hG4, hb4, _⟩
    have HF4 := Lib.hid (Lies.on HF3.out hb4)
    have HX4 := Lib.hid (show EBlk w4 gx ⟨ra, rn⟩ from Box.on HX3.out hb4)
    have hb4a := hb3a.trans (hb4.mono hb3a.size)
    have HG4 := Lib.hid hG4
    have hrf := HRF.out w4 hb4a
    try rw [HFN.out]
    clear hb4 hb3a HF3 HX3 hG4
    go_wp2_with fail
    refine hrf.mono ?_
    clear hrf
    rintro e w5 ⟨A5, c5, rfl, hR5, hb5, _⟩
    have HF5 := Lib.hid (Lies.on HF4.out hb5)
    have HX5 := Lib.hid (show EBlk w5 gx ⟨ra, rn⟩ from Box.on HX4.out hb5)
    have HG5 := Lib.hid (Lies.on HG4.out hb5)
    have hb5a := hb4a.trans (hb5.mono hb4a.size)
    have hdi := HDI.out A5 c5 w5 hR5
    try rw [HL.out]
    clear hb5 hb4a HF4 HX4 HG4 hR5 HDI
    go_wp2_with fail
    refine hdi.mono ?_
    clear hdi
    rintro e w6 ⟨rfl, hb6⟩
    have hb6a := hb5a.trans (hb6.mono hb5a.size)
    have hb67 : Below w6.heap.size w6 (w6.alloc (.cells #[.int .i64 ra, .int .i64 rn] 34)) := (Below.refl _ w6).alloc (Nat.le_refl _) _
    have HF6 := Lib.hid (Lies.on (Lies.on HF5.out hb6) hb67)
    have HX6 := Lib.hid (show EBlk (w6.alloc (.cells #[.int .i64 ra, .int .i64 rn] 34)) gx ⟨ra, rn⟩ from Box.on (Box.on HX5.out hb6) hb67)
    have HG6 := Lib.hid (Lies.on (Lies.on HG5.out hb6) hb67)
    have HY6 := Lib.hid (show RBlk (w6.alloc (.cells #[.int .i64 ra, .int .i64 rn] 34)) w6.heap.size ⟨ra, rn⟩ from Box.fresh _ _ _)
    have hb7a := hb6a.trans (hb67.mono hb6a.size)
    clear hb6 hb5a HF5 HX5 HG5 hb67 hb6a
    go_wp2
    generalize hw7 : w6.alloc (.cells #[.int .i64 ra, .int .i64 rn] 34) = w7 at *
    generalize w6.heap.size = gy at *
    clear hw7
    go_loopw [15, 52] (fun s i wr => ∃ (k : Nat), s = .int .i64 (sumL (F.take k)) ∧ i = .int .i64 k ∧ k ≤ fl ∧ Below w7.heap.size w7 wr) (fun _ i _ => (fl - intOf i).toNat)
    case atStart => exact ⟨0, rfl, rfl, by omega, Below.refl _ _⟩
    case round =>
      obtain ⟨k, rfl, rfl, hk, hbr⟩ := hrel
      by_cases hlt : k < fl
      · obtain ⟨ad, rfl, hab, hca⟩ := (HG6.out.below hbr).seeE (by rw [HFN.out]; omega)
        obtain ⟨x1, x2⟩ := hca k (by rw [HFN.out]; omega)
        have HT := Lib.hid (sumL_take F k (by rw [HFN.out]; omega))
        have hp1 := HSF.out k
        have hp2 := HSF.out (k + 1)
        rw [HT.out] at hp2
        obtain ⟨x, hx⟩ : ∃ x, x = F[k]'(by rw [HFN.out]; omega) := ⟨_, rfl⟩
        rw [← hx] at x1 x2 HT hp2
        clear hx hca
        obtain ⟨xa, xn⟩ := x
        simp only at x1 x2 hp2 HT
        have hlt3 : (ad.add (k * 2)).block < w7.heap.size := by rw [block_of_add]; exact hab
        have hlw := hbr.size
        generalize sumL (F.take k) = q at *
        go_wp2
        go_roundw
        case rel => exact ⟨k + 1, by rw [HT.out], by go_num, by omega, hbr.alloc hbr.size _⟩
        case measure => simp [intOf]; omega
      · have HE := Lib.hid (show sumL (F.take k) = sumL F by rw [List.take_of_length_le (by rw [HFN.out]; omega)])
        rw [HE.out]
        generalize sumL F = q at *
        have hqq : (q == q) = true := by simp
        have hee : (re == re) = true := by simp
        have hba := hb7a.trans (hbr.mono hb7a.size)
        have HF8 := Lib.hid (Lies.on HF6.out hbr)
        have HG8 := Lib.hid (Lies.on HG6.out hbr)
        have HX8 := Lib.hid (show EBlk wr gx ⟨ra, rn⟩ from Box.on HX6.out hbr)
        have HY8 := Lib.hid (show RBlk wr gy ⟨ra, rn⟩ from Box.on HY6.out hbr)
        clear hbr HF6 HG6 HX6 HY6 hb7a HE
        have hri := HRI.out wr hba
        go_wp2_with fail
        refine hri.mono ?_
        clear hri
        rintro e w8 ⟨rfl, hb8⟩
        have hb8a := hba.trans (hb8.mono hba.size)
        have hrf := HRF.out w8 hb8a
        go_wp2_with fail
        refine hrf.mono ?_
        clear hrf
        rintro e w9 ⟨A9, c9, rfl, hR9, hb9, _⟩
        have hb9a := hb8a.trans (hb9.mono hb8a.size)
        have hdr := HDR.out A9 c9 w9 hR9
        try rw [HL.out]
        clear hR9
        go_wp2_with fail
        refine hdr.mono ?_
        clear hdr
        rintro e wa ⟨rfl, hb10⟩
        have hb10a := hb9a.trans (hb10.mono hb9a.size)
        have hbwa : Below wr.heap.size wr wa := (hb8.trans (hb9.mono hb8.size)).trans (hb10.mono (Nat.le_trans hb8.size hb9.size))
        have hrf := refs_any A1 c1 F wa (Lies.on HF8.out hbwa) (by rw [HFN.out]; omega)
        rw [HFN.out] at hrf
        clear hb8 hb9 hb10 hb8a hb9a
        go_wp2_with fail
        refine hrf.mono ?_
        clear hrf
        rintro e wb ⟨Ab, cb, rfl, hRb, hbb, _⟩
        have hbba := hb10a.trans (hbb.mono hb10a.size)
        have hbwb : Below wr.heap.size wr wb := hbwa.trans (hbb.mono hbwa.size)
        have hsm := same_one Ab A4 cb c4 F wb hRb (Lies.on HG8.out hbwb) (by rw [HFN.out]; omega)
        rw [HFN.out] at hsm
        try rw [HFN.out]
        clear hRb hbb hb10a hbwa
        go_wp2_with fail
        refine hsm.mono ?_
        clear hsm
        rintro e wc ⟨rfl, hbc⟩
        have hbca := hbba.trans (hbc.mono hbba.size)
        have hbwc : Below wr.heap.size wr wc := hbwb.trans (hbc.mono hbwb.size)
        have hx := Box.on HX8.out hbwc
        have hy := Box.on HY8.out hbwc
        obtain ⟨x1, x2⟩ := EBlk.cells hx
        obtain ⟨y1, y2⟩ := RBlk.cells hy
        have hx3 := Box.lt hx
        have hy3 := Box.lt hy
        simp only at x1 x2 y1 y2
        have hle := HLE.out wc hbca
        clear hx hy hbc hbba hbwb
        go_wp2_with fail
        refine hle.mono ?_
        clear hle
        rintro e wd ⟨rfl, hbd⟩
        have hbda := hbca.trans (hbd.mono hbca.size)
        clear hbd x1 x2 y1 y2 hx3 hy3
        go_wp2_with fail
        refine (awake_true _).mono ?_
        rintro e we ⟨rfl, hbe⟩
        go_wp2
        go_ret
        exact ⟨rfl, hbda.trans (hbe.mono hbda.size)⟩
  · rw [decide_eq_false hs] at hsa
    generalize l.length = m at *
    clear hA hs
    go_enter Try.func3, Try.ntmps3
    go_wp2_with fail
    refine hsa.mono ?_
    clear hsa
    rintro e w0 ⟨rfl, rfl⟩
    go_wp2_with fail
    refine (awake_true _).mono ?_
    rintro e w1 ⟨rfl, hb1⟩
    go_wp2
    go_ret
    exact ⟨rfl, hb1⟩

end Go.Proofs.Ytodcngkcaeahhaa
