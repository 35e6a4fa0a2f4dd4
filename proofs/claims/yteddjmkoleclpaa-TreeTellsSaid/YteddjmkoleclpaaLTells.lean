/- The walk of the law TreeTells. -/
import Derived.Test.YteddjmkoleclpaaFT
set_option linter.unusedVariables false
set_option linter.unusedSimpArgs false
namespace Go.Proofs.Yteddjmkoleclpaa
open Go.RowKit Go.Sort

theorem pv_put {w : World} {v : Value} {P : List Pr} {g : Nat} {r : Nr} (h : PV w v P) (hx : TBox w g r) (a b c d : Value) :
    PV ((((w.setCell ⟨g, 0, none⟩ a).setCell ⟨g, 1, none⟩ b).setCell ⟨g, 2, none⟩ c).setCell ⟨g, 3, none⟩ d) v P := by
  obtain ⟨A, cc, e, h1, h2, h3⟩ := h
  refine ⟨A, cc, e, fun hl => ?_, h2, h3⟩
  obtain ⟨ad, ea, hB, hc⟩ := h1 hl
  have hne : ad.block ≠ g := fun eb => by
    have c1 := hc 0 hl 1 (.string P[0].v) rfl
    rw [Nat.zero_mul, Addr.add_zero', Addr.add_succ', eb] at c1
    have c2 : w.cell? ⟨g, ad.off + 1, none⟩ = _ := cell_of_row w g (ad.off + 1) _ _ (0, 0) hx
    rw [c2] at c1
    match ad.off, c1 with
    | 0, c1 => simp at c1
    | 1, c1 => simp at c1
    | 2, c1 => simp at c1
    | n + 3, c1 => simp at c1
  refine ⟨ad, ea, by simpa using hB, fun i hi j v hv => ?_⟩
  rw [← hc i hi j v hv]
  have hn : ((ad.add (i * 2)).add j).block ≠ g := by rw [block_of_add, block_of_add]; exact hne
  simp only [World.cell?]
  rw [Below.heap_setCell _ _ _ _ (show ((ad.add (i * 2)).add j).block ≠ (⟨g, 3, none⟩ : Addr).block from hn), Below.heap_setCell _ _ _ _ (show ((ad.add (i * 2)).add j).block ≠ (⟨g, 2, none⟩ : Addr).block from hn), Below.heap_setCell _ _ _ _ (show ((ad.add (i * 2)).add j).block ≠ (⟨g, 1, none⟩ : Addr).block from hn), Below.heap_setCell _ _ _ _ (show ((ad.add (i * 2)).add j).block ≠ (⟨g, 0, none⟩ : Addr).block from hn)]

def TellsN (nv gs pa pb vv tv rv : Value) (q : List Pr) (t : Nat) (v : Value) (w : World) : Prop :=
  match t with
  | 87 => v = .bool false
  | 88 => v = nv
  | 89 => v = .bool false
  | 90 => v = .bool false
  | 91 => v = .bool false
  | 92 => v = .bool false
  | 93 => v = .bool false
  | 94 => v = undef
  | 95 => v = undef
  | 96 => v = undef
  | 97 => v = undef
  | 98 => v = undef
  | 99 => v = undef
  | 100 => v = undef
  | 101 => v = .bool false
  | 102 => v = .bool false
  | 103 => v = .bool false
  | 104 => v = .bool false
  | 105 => v = .bool true
  | 106 => v = .bool true
  | 107 => v = gs
  | 108 => v = .bool false
  | 109 => v = .bool false
  | 110 => v = .bool false
  | 111 => v = .bool false
  | 112 => v = tv
  | 113 => v = rv
  | 114 => PV w v q
  | 115 => v = rv
  | 116 => v = vv
  | 117 => PV w v q
  | 118 => v = .bool true
  | 119 => v = .bool false
  | 120 => v = .bool false
  | _ => True
theorem TellsN.on {nv gs pa pb vv tv rv : Value} {q : List Pr} {t : Nat} {v : Value} {w w' : World} (h : TellsN nv gs pa pb vv tv rv q t v w) (hb : Below w.heap.size w w') : TellsN nv gs pa pb vv tv rv q t v w' := by
  unfold TellsN at *
  split at h <;> first | exact h | exact PV.on h hb

def TellsF (nv gs pa pb vv tv rv : Value) (q : List Pr) (t : Nat) (v : Value) (w : World) : Prop :=
  match t with
  | 87 => v = .bool true
  | 88 => v = nv
  | 89 => v = .bool true
  | 90 => v = .bool false
  | 91 => v = .bool false
  | 92 => v = .bool true
  | 93 => v = .bool true
  | 94 => v = gs
  | 95 => v = vv
  | 96 => v = nv
  | 97 => v = pa
  | 98 => v = pb
  | 99 => v = gs
  | 100 => v = .bool false
  | 101 => v = .bool false
  | 102 => v = .bool false
  | 103 => v = .bool false
  | 104 => v = .bool true
  | 105 => v = .bool false
  | 106 => v = .bool false
  | 107 => v = undef
  | 108 => v = undef
  | 109 => v = .bool false
  | 110 => v = .bool false
  | 111 => v = .bool false
  | 112 => v = tv
  | 113 => v = rv
  | 114 => PV w v q
  | 115 => v = rv
  | 116 => v = vv
  | 117 => PV w v q
  | 118 => v = .bool true
  | 119 => v = .bool false
  | 120 => v = .bool false
  | _ => True
theorem TellsF.on {nv gs pa pb vv tv rv : Value} {q : List Pr} {t : Nat} {v : Value} {w w' : World} (h : TellsF nv gs pa pb vv tv rv q t v w) (hb : Below w.heap.size w w') : TellsF nv gs pa pb vv tv rv q t v w' := by
  unfold TellsF at *
  split at h <;> first | exact h | exact PV.on h hb

set_option maxHeartbeats 16000000 in
set_option maxRecDepth 100000 in
theorem tells_walk (v0 : Value) (ps : List (List Nt)) (lo hi : ByteArray) (op : Bool) (key : ByteArray) (w0 : World) (hL : NVV w0 v0 ps) (hl : ps.length ≤ maxLen) (hm : ∀ l ∈ ps, l.length ≤ maxLen) :
    Calls Try.prog 3 #[v0, .agg #[.string lo, .string hi, .bool op], .string key] w0 fun e w' => e = .returned (.bool true) ∧ Below w0.heap.size w0 w' := by
  obtain ⟨w1, hw1⟩ : ∃ wz, wz = w0.alloc (.cells #[.string lo, .string hi, .bool op] 24) := ⟨_, rfl⟩
  obtain ⟨g0, hg0⟩ : ∃ gz, gz = w0.heap.size := ⟨_, rfl⟩
  have hb01 : Below w0.heap.size w0 w1 := by rw [hw1]; exact (Below.refl _ _).alloc (Nat.le_refl _) _
  have RX1 := Lib.hid (show RBlk w1 g0 ⟨lo, hi, op⟩ from by rw [hw1]; exact Box.at_ w0 _ _ hg0)
  have HL1 := Lib.hid (hL.on hb01)
  have HB1 := Lib.hid hb01
  have HW1 := Lib.hid hw1
  have HG0 := Lib.hid hg0
  obtain ⟨AL, cl, rfl⟩ := hL.shape
  obtain ⟨np, hla⟩ : ∃ n, n = ps.length := ⟨_, rfl⟩
  rw [← hla] at HL1 ⊢
  have HLN := Lib.hid hla
  have HPM := Lib.hid hm
  clear hl hla hb01 hw1 hg0 hm hL
  go_enter Try.func3, Try.ntmps3
  by_cases hn10 : np ≤ 10
  case neg =>
    have hd : decide (10 < (np : Int)) = true := by simp; omega
    have hd' : decide (10 < np) = true := by simp; omega
    go_upto_region 1 with fail
    rw [← HG0.out, ← HW1.out]
    go_wp2_with fail
    refine (awake_true _).mono ?_
    rintro e w9 ⟨rfl, hb9⟩
    have HB9 := Lib.hid (HB1.out.trans (hb9.mono HB1.out.size))
    clear hb9
    go_wp2
    go_ret
    exact ⟨rfl, HB9.out⟩
  have hd10 : decide (10 < (np : Int)) = false := by simp; omega
  have hd10' : decide (10 < np) = false := by simp; omega
  go_upto_region 1 with fail
  rw [← HG0.out, ← HW1.out]
  clear HG0 HW1
  obtain ⟨r0, r1, r2⟩ := RBlk.cells RX1.out
  simp only at r0 r1 r2
  by_cases k_key : key.size ≤ 300
  case neg =>
    have hd : decide (300 < (key.size : Int)) = true := by simp; omega
    go_wp2_with fail
    refine (awake_true _).mono ?_
    rintro e w9 ⟨rfl, hb9⟩
    have HB9 := Lib.hid (HB1.out.trans (hb9.mono HB1.out.size))
    clear hb9
    go_wp2
    go_ret
    exact ⟨rfl, HB9.out⟩
  have hd_key : decide (300 < (key.size : Int)) = false := by simp; omega
  by_cases k_lo : lo.size ≤ 300
  case neg =>
    have hd : decide (300 < (lo.size : Int)) = true := by simp; omega
    go_wp2_with fail
    refine (awake_true _).mono ?_
    rintro e w9 ⟨rfl, hb9⟩
    have HB9 := Lib.hid (HB1.out.trans (hb9.mono HB1.out.size))
    clear hb9
    go_wp2
    go_ret
    exact ⟨rfl, HB9.out⟩
  have hd_lo : decide (300 < (lo.size : Int)) = false := by simp; omega
  by_cases k_hi : hi.size ≤ 300
  case neg =>
    have hd : decide (300 < (hi.size : Int)) = true := by simp; omega
    go_wp2_with fail
    refine (awake_true _).mono ?_
    rintro e w9 ⟨rfl, hb9⟩
    have HB9 := Lib.hid (HB1.out.trans (hb9.mono HB1.out.size))
    clear hb9
    go_wp2
    go_ret
    exact ⟨rfl, HB9.out⟩
  have hd_hi : decide (300 < (hi.size : Int)) = false := by simp; omega
  clear k_key k_lo k_hi
  obtain ⟨w5, hw5⟩ : ∃ wz, wz = w1.alloc (.cells #[.string noB, .slice none 0 0, .slice none 0 0, .slice none 0 0] 32) := ⟨_, rfl⟩
  obtain ⟨g7, hg7⟩ : ∃ gz, gz = w1.heap.size := ⟨_, rfl⟩
  have hb5 : Below w1.heap.size w1 w5 := by rw [hw5]; exact (Below.refl _ _).alloc (Nat.le_refl _) _
  have TB5 := Lib.hid (show TBox w5 g7 ⟨noB, nilS, nilS, nilS⟩ from by rw [hw5]; exact Box.at_ w1 _ _ hg7)
  have TS5 := Lib.hid (show TreeS w5 (Off g7 w5) (Nr.v ⟨noB, nilS, nilS, nilS⟩) [] (60 * 0) (700 * 0) from TreeV.off (tree_none w1) hb5 (by omega))
  have HG7 := Lib.hid (show w1.heap.size ≤ g7 from by omega)
  have HB5 := Lib.hid hb5
  clear hb5
  go_upto_region 4 with fail
  rw [← hg7, ← hw5]
  clear hg7 hw5 r0 r1 r2
  go_wp2
  go_loopw [8, 41] (fun vp vi wr => ∃ (i : Nat) (r : Nr) (Q : List Pr), vi = .int .i64 i ∧ i ≤ np ∧ Hid (PV wr vp Q) ∧ Hid (TBox wr g7 r) ∧ Hid (TreeS wr (Off g7 wr) r.v Q (60 * i) (700 * i)) ∧ Below w1.heap.size w1 wr) (fun _ vi _ => (np - intOf vi).toNat)
  case atStart => exact ⟨0, _, [], rfl, by omega, ⟨none, 0, rfl, Lies.nil, Nat.le_refl _, fun _ => rfl⟩, TB5, TS5, HB5.out⟩
  case round =>
    clear TB5 TS5 HB5
    obtain ⟨i, r, Q, rfl, hin, HQ, HBX, HTS, hbr⟩ := hrel
    obtain ⟨lo7, ⟨ka7, kn7, kc7⟩, ⟨na7, nn7, nc7⟩, ⟨pa7, pn7, pc7⟩⟩ := r
    by_cases hlt : i < np
    · skip
      have hil : i < ps.length := by rw [← HLN.out]; exact hlt
      have hi9 : i ≤ 9 := by omega
      obtain ⟨ad, rfl, u, hcu, hnu⟩ : ∃ ad, AL = some ad ∧ ∃ u, w1.cell? (ad.add i) = some u ∧ NV w1 u (ps[i]'hil) := by
        obtain ⟨A', c', e, hp⟩ := HL1.out.part
        injection e with e _ _
        obtain ⟨ad, u, h1, _, h2, h3⟩ := hp i hil
        exact ⟨ad, e.trans h1, u, h2, h3⟩
      obtain ⟨l, hl⟩ : ∃ l, l = ps[i]'hil := ⟨_, rfl⟩
      have HLM := Lib.hid (show l.length ≤ maxLen from by rw [hl]; exact HPM.out _ (List.getElem_mem hil))
      rw [← hl] at hnu
      clear hl
      obtain ⟨BN, dn, rfl⟩ := hnu.shape
      obtain ⟨n, hn⟩ : ∃ n, n = l.length := ⟨_, rfl⟩
      rw [← hn] at hcu hnu
      have HNL := Lib.hid hn
      have c0 := (hbr.cell (lt_of_cell hcu)).trans hcu
      have HBr := Lib.hid (HB1.out.trans (hbr.mono HB1.out.size))
      have HDr := Lib.hid hbr
      have RXr := Lib.hid (show RBlk wr g0 ⟨lo, hi, op⟩ from cells_of RX1.out hbr)
      have HNr := Lib.hid (hnu.on hbr)
      have HQr := HQ
      have BYr := HBX
      have TSr := HTS
      have TOr := Lib.hid HTS.out.v
      have hdl : decide ((i : Int) < (np : Int)) = true := by simp; omega
      have HI9 := Lib.hid (And.intro hi9 hlt)
      clear HQ HBX HTS hbr hnu hcu hn hil
      have hc := dfew_v HNr.out 60 HLM.out
      rw [← HNL.out] at hc
      go_wp2_with fail
      refine hc.mono ?_
      clear hc c0
      rintro e w2 ⟨R, rfl, hR, hb⟩
      have HR := Lib.hid hR
      clear hR
      have HD2 := Lib.hid (HDr.out.trans (hb.mono HDr.out.size))
      have HB2 := Lib.hid (HBr.out.trans (hb.mono HBr.out.size))
      have RX2 := Lib.hid (show RBlk w2 g0 ⟨lo, hi, op⟩ from cells_of RXr.out hb)
      have HN2 := Lib.hid (HNr.out.on hb)
      have HQ2 := Lib.hid (HQr.out.on hb)
      have BY2 := Lib.hid (show TBox w2 g7 ⟨lo7, ⟨ka7, kn7, kc7⟩, ⟨na7, nn7, nc7⟩, ⟨pa7, pn7, pc7⟩⟩ from BYr.out.on hb)
      have TS2 := Lib.hid (TSr.out.off hb)
      have TO2 := Lib.hid (TOr.out.on hb)
      clear hb HBr RXr HNr HQr BYr TSr TOr  HDr
      cases R with
      | false =>
        go_wp2_with fail
        refine (awake_true _).mono ?_
        rintro e w9 ⟨rfl, hb9⟩
        have HB9 := Lib.hid (HB2.out.trans (hb9.mono HB2.out.size))
        clear hb9
        go_wp2
        go_ret
        exact ⟨rfl, HB9.out⟩
      | true =>
      have hl60 : n ≤ 60 := HR.out rfl
      have HL60 := Lib.hid hl60
      clear HR
      obtain ⟨E, hE⟩ : ∃ E, E = tAppE l := ⟨_, rfl⟩
      obtain ⟨P, hP⟩ : ∃ P, P = tAppP Q l := ⟨_, rfl⟩
      have HQL := Lib.hid (tree_len TO2.out)
      have HEP := Lib.hid (show applyE Q l = E ∧ applyL Q l = P from by
        rw [hE, hP]
        unfold applyE applyL tAppE tAppP
        rw [HQL.out.2, Bool.true_and]
        exact ⟨rfl, rfl⟩)
      have HG2 := Lib.hid (show g7 < w2.heap.size from Box.lt BY2.out)
      have hc := tapply_s (Off g7 w2) _ _ Q l (60 * i) (700 * i) w2 (off_und _ _) TS2.out HN2.out (by rw [← HNL.out]; omega)
      rw [← hE, ← hP] at hc
      replace hc : Calls Try.prog 11 #[.agg #[.string lo7, .slice ka7 kn7 kc7, .slice na7 nn7 nc7, .slice pa7 pn7 pc7], .slice BN n dn] w2 fun e w' => ∃ v', e = .returned (.tuple #[v', .int .i64 E]) ∧ TreeS w' (Gr (Off g7 w2) w2 w') v' P (60 * i + l.length) (700 * i + 60 * i + l.length) ∧ Below w2.heap.size w2 w' := hc
      clear hE hP
      obtain ⟨b0, b1, b2, b3⟩ := TBox.cells BY2.out
      simp only at b0 b1 b2 b3
      go_wp2_with fail
      refine hc.mono ?_
      clear hc b0 b1 b2 b3
      rintro e w3 ⟨v3, rfl, ht3, hb⟩
      obtain ⟨lo8, ka8, kn8, kc8, na8, nn8, nc8, pa8, pn8, pc8, rfl⟩ := tree_shape (ht3.tv (und_gr ((off_und g7 w2).on hb)))
      have TNN := Lib.hid ((ht3.gr HG2.out hb.size).more (M' := 60 * (i + 1)) (H' := 700 * (i + 1)) (by rw [← HNL.out]; omega) (by rw [← HNL.out]; omega))
      clear ht3 HG2
      clear TS2
      have HD3 := Lib.hid (HD2.out.trans (hb.mono HD2.out.size))
      have HB3 := Lib.hid (HB2.out.trans (hb.mono HB2.out.size))
      have RX3 := Lib.hid (show RBlk w3 g0 ⟨lo, hi, op⟩ from cells_of RX2.out hb)
      have HN3 := Lib.hid (HN2.out.on hb)
      have HQ3 := Lib.hid (HQ2.out.on hb)
      have BY3 := Lib.hid (show TBox w3 g7 ⟨lo7, ⟨ka7, kn7, kc7⟩, ⟨na7, nn7, nc7⟩, ⟨pa7, pn7, pc7⟩⟩ from BY2.out.on hb)
      have TO3 := Lib.hid (TO2.out.on hb)
      clear hb HB2 RX2 HN2 HQ2 BY2 TO2  HD2
      have TS3 := TNN
      clear TNN
      obtain ⟨w4, hw4⟩ : ∃ wz, wz = w3.alloc (.cells #[.string lo8, .slice ka8 kn8 kc8, .slice na8 nn8 nc8, .slice pa8 pn8 pc8] 32) := ⟨_, rfl⟩
      obtain ⟨g11, hg11⟩ : ∃ gz, gz = w3.heap.size := ⟨_, rfl⟩
      have hb4 : Below w3.heap.size w3 w4 := by rw [hw4]; exact (Below.refl _ _).alloc (Nat.le_refl _) _
      have BNN := Lib.hid (show TBox w4 g11 ⟨lo8, ⟨ka8, kn8, kc8⟩, ⟨na8, nn8, nc8⟩, ⟨pa8, pn8, pc8⟩⟩ from by rw [hw4]; exact Box.at_ w3 _ _ hg11)
      have HD4 := Lib.hid (HD3.out.trans (hb4.mono HD3.out.size))
      have HB4 := Lib.hid (HB3.out.trans (hb4.mono HB3.out.size))
      have RX4 := Lib.hid (show RBlk w4 g0 ⟨lo, hi, op⟩ from cells_of RX3.out hb4)
      have HN4 := Lib.hid (HN3.out.on hb4)
      have HQ4 := Lib.hid (HQ3.out.on hb4)
      have BY4 := Lib.hid (show TBox w4 g7 ⟨lo7, ⟨ka7, kn7, kc7⟩, ⟨na7, nn7, nc7⟩, ⟨pa7, pn7, pc7⟩⟩ from BY3.out.on hb4)
      have TO4 := Lib.hid (TO3.out.on hb4)
      have TS4 := Lib.hid (TS3.out.off hb4)
      clear hb4 HB3 RX3 HN3 HQ3 BY3 TO3 TS3  HD3
      have BW4 := BNN
      clear BNN
      go_upto_region 11 with fail
      rw [← hg11, ← hw4]
      clear hg11 hw4
      have hc := dapply_v HQ4.out HN4.out (by have h1 := HQL.out.1; have h2 := HI9.out.1; rw [← HNL.out]; omega)
      rw [HEP.out.1, HEP.out.2] at hc
      go_wp2_with fail
      refine (hc).mono ?_
      clear  hc HEP
      rintro e w5 ⟨v5, rfl, hv, hb⟩
      have HV5 := Lib.hid hv
      clear hv
      have HD5 := Lib.hid (HD4.out.trans (hb.mono HD4.out.size))
      have HB5 := Lib.hid (HB4.out.trans (hb.mono HB4.out.size))
      have RX5 := Lib.hid (show RBlk w5 g0 ⟨lo, hi, op⟩ from cells_of RX4.out hb)
      have HN5 := Lib.hid (HN4.out.on hb)
      have HQ5 := Lib.hid (HQ4.out.on hb)
      have BY5 := Lib.hid (show TBox w5 g7 ⟨lo7, ⟨ka7, kn7, kc7⟩, ⟨na7, nn7, nc7⟩, ⟨pa7, pn7, pc7⟩⟩ from BY4.out.on hb)
      have TO5 := Lib.hid (TO4.out.on hb)
      have TS5 := Lib.hid (TS4.out.off hb)
      have BW5 := Lib.hid (show TBox w5 g11 ⟨lo8, ⟨ka8, kn8, kc8⟩, ⟨na8, nn8, nc8⟩, ⟨pa8, pn8, pc8⟩⟩ from BW4.out.on hb)
      clear hb HB4 RX4 HN4 HQ4 BY4 TO4 TS4 BW4  HD4
      have hPL : P.length ≤ 600 := by have h1 := (tree_len TS5.out.v).1; have h2 := HI9.out.1; omega
      have HPL := Lib.hid hPL
      have HPW := Lib.hid (tree_len TS5.out.v).2
      have hee : (E != E) = false := by simp
      have hee2 : (E == E) = true := by simp
      have hc := is_any _ _ P P _ _ w5 TS5.out.v HV5.out (by have h2 := HI9.out.1; omega) (by have h2 := HI9.out.1; omega) (by omega)
      rw [decide_eq_true (rfl : P = P)] at hc
      clear hPL
      obtain ⟨b0, b1, b2, b3⟩ := TBox.cells BW5.out
      simp only at b0 b1 b2 b3
      go_wp2_with fail
      refine (hc).mono ?_
      clear b0 b1 b2 b3 hc
      rintro e w6 ⟨rfl, hb⟩
      have HD6 := Lib.hid (HD5.out.trans (hb.mono HD5.out.size))
      have HB6 := Lib.hid (HB5.out.trans (hb.mono HB5.out.size))
      have RX6 := Lib.hid (show RBlk w6 g0 ⟨lo, hi, op⟩ from cells_of RX5.out hb)
      have HN6 := Lib.hid (HN5.out.on hb)
      have HQ6 := Lib.hid (HQ5.out.on hb)
      have BY6 := Lib.hid (show TBox w6 g7 ⟨lo7, ⟨ka7, kn7, kc7⟩, ⟨na7, nn7, nc7⟩, ⟨pa7, pn7, pc7⟩⟩ from BY5.out.on hb)
      have TO6 := Lib.hid (TO5.out.on hb)
      have TS6 := Lib.hid (TS5.out.off hb)
      have BW6 := Lib.hid (show TBox w6 g11 ⟨lo8, ⟨ka8, kn8, kc8⟩, ⟨na8, nn8, nc8⟩, ⟨pa8, pn8, pc8⟩⟩ from BW5.out.on hb)
      have HV6 := Lib.hid (HV5.out.on hb)
      clear hb HB5 RX5 HN5 HQ5 BY5 TO5 TS5 BW5 HV5  HD5
      have hc := is_any _ _ Q Q _ _ w6 TO6.out HQ6.out (by have h2 := HI9.out.1; omega) (by have h2 := HI9.out.1; omega) (by have h1 := HQL.out.1; have h2 := HI9.out.1; omega)
      rw [decide_eq_true (rfl : Q = Q)] at hc
      obtain ⟨b0, b1, b2, b3⟩ := TBox.cells BY6.out
      simp only at b0 b1 b2 b3
      go_wp2_with fail
      refine (hc).mono ?_
      clear b0 b1 b2 b3 hc
      rintro e w7 ⟨rfl, hb⟩
      have HD7 := Lib.hid (HD6.out.trans (hb.mono HD6.out.size))
      have HB7 := Lib.hid (HB6.out.trans (hb.mono HB6.out.size))
      have RX7 := Lib.hid (show RBlk w7 g0 ⟨lo, hi, op⟩ from cells_of RX6.out hb)
      have HN7 := Lib.hid (HN6.out.on hb)
      have HQ7 := Lib.hid (HQ6.out.on hb)
      have BY7 := Lib.hid (show TBox w7 g7 ⟨lo7, ⟨ka7, kn7, kc7⟩, ⟨na7, nn7, nc7⟩, ⟨pa7, pn7, pc7⟩⟩ from BY6.out.on hb)
      have TO7 := Lib.hid (TO6.out.on hb)
      have TS7 := Lib.hid (TS6.out.off hb)
      have BW7 := Lib.hid (show TBox w7 g11 ⟨lo8, ⟨ka8, kn8, kc8⟩, ⟨na8, nn8, nc8⟩, ⟨pa8, pn8, pc8⟩⟩ from BW6.out.on hb)
      have HV7 := Lib.hid (HV6.out.on hb)
      clear hb HB6 RX6 HN6 HQ6 BY6 TO6 TS6 BW6 HV6  HD6
      clear TO7 HQ7 HN7
      obtain ⟨A5, c5, hv5, _⟩ := HV7.out
      subst hv5
      obtain ⟨m, hm⟩ : ∃ m, P.length = m := ⟨_, rfl⟩
      rw [hm] at HV7 ⊢
      have HM := Lib.hid hm
      clear hm
      obtain ⟨b0, b1, b2, b3⟩ := TBox.cells BW7.out
      obtain ⟨k0, k1, k2, k3⟩ := TBox.cells BY7.out
      simp only at b0 b1 b2 b3 k0 k1 k2 k3
      have f0 := Box.free BY7.out 0
      have f1 := Box.free BY7.out 1
      have f2 := Box.free BY7.out 2
      have f3 := Box.free BY7.out 3
      obtain ⟨wx, hx⟩ : ∃ wx, wx = ((((w7.setCell ⟨g7, 0, none⟩ (.string lo8)).setCell ⟨g7, 1, none⟩ (.slice ka8 kn8 kc8)).setCell ⟨g7, 2, none⟩ (.slice na8 nn8 nc8)).setCell ⟨g7, 3, none⟩ (.slice pa8 pn8 pc8)) := ⟨_, rfl⟩
      have BYx := Lib.hid (show TBox wx g7 ⟨lo8, ⟨ka8, kn8, kc8⟩, ⟨na8, nn8, nc8⟩, ⟨pa8, pn8, pc8⟩⟩ from by rw [hx]; exact NdB.put (r := ⟨lo7, ⟨ka7, kn7, kc7⟩, ⟨na7, nn7, nc7⟩, ⟨pa7, pn7, pc7⟩⟩) BY7.out ⟨lo8, ⟨ka8, kn8, kc8⟩, ⟨na8, nn8, nc8⟩, ⟨pa8, pn8, pc8⟩⟩)
      have TSx := Lib.hid (show TreeS wx (Off g7 wx) (.agg #[.string lo8, .slice ka8 kn8 kc8, .slice na8 nn8 nc8, .slice pa8 pn8 pc8]) P (60 * (i + 1)) (700 * (i + 1)) from by rw [hx]; exact TS7.out.put _ _ _ _)
      have HDx := Lib.hid (show Below w1.heap.size w1 wx from by rw [hx]; exact below_put HD7.out HG7.out _ _ _ _)
      have HVx := Lib.hid (show PV wx (.slice A5 m c5) P from by rw [hx]; exact pv_put HV7.out (r := ⟨lo7, ⟨ka7, kn7, kc7⟩, ⟨na7, nn7, nc7⟩, ⟨pa7, pn7, pc7⟩⟩) BY7.out _ _ _ _)
      have HBx := Lib.hid (HB1.out.trans (HDx.out.mono HB1.out.size))
      have RXx := Lib.hid (show RBlk wx g0 ⟨lo, hi, op⟩ from cells_of RX1.out HDx.out)
      go_upto_region 15 with fail
      rw [← hx]
      clear hx b0 b1 b2 b3 k0 k1 k2 k3 f0 f1 f2 f3 HB7 HD7 RX7 BY7 TS7 BW7 HV7
      obtain ⟨GV, hGV⟩ : ∃ GV, GV = hasOf (getL P key) := ⟨_, rfl⟩
      obtain ⟨gv, gh⟩ := GV
      have HGV := Lib.hid hGV
      have hc := tget_any _ P _ _ key wx TSx.out.v
      rw [← hGV] at hc
      simp only at hc
      clear hGV
      obtain ⟨b0, b1, b2, b3⟩ := TBox.cells BYx.out
      simp only at b0 b1 b2 b3
      go_wp2_with fail
      refine (hc).mono ?_
      clear b0 b1 b2 b3 hc
      rintro e w8 ⟨rfl, hb⟩
      have HD8 := Lib.hid (HDx.out.trans (hb.mono HDx.out.size))
      have HB8 := Lib.hid (HBx.out.trans (hb.mono HBx.out.size))
      have RX8 := Lib.hid (show RBlk w8 g0 ⟨lo, hi, op⟩ from cells_of RXx.out hb)
      have BY8 := Lib.hid (show TBox w8 g7 ⟨lo8, ⟨ka8, kn8, kc8⟩, ⟨na8, nn8, nc8⟩, ⟨pa8, pn8, pc8⟩⟩ from BYx.out.on hb)
      have TS8 := Lib.hid (TSx.out.off hb)
      have HV8 := Lib.hid (HVx.out.on hb)
      clear hb HBx RXx BYx TSx HVx  HDx
      have hc := show Calls Try.prog 15 #[.slice A5 m c5, .string key] w8 fun e w' => ∃ z, e = .returned (.int .i64 z) ∧ FoundAt P key z ∧ Below w8.heap.size w8 w' from by
        obtain ⟨A', c', e', h1, _, _⟩ := HV8.out
        injection e' with e1 e2 e3
        subst e1 e3
        have h2 := dfind_any A5 c5 P key w8 h1 (by have := HPL.out; unfold maxLen; omega)
        rw [HM.out] at h2; exact h2
      go_wp2_with fail
      refine (hc).mono ?_
      clear  hc
      rintro e w9 ⟨z, rfl, hz, hb⟩
      have HD9 := Lib.hid (HD8.out.trans (hb.mono HD8.out.size))
      have HB9 := Lib.hid (HB8.out.trans (hb.mono HB8.out.size))
      have RX9 := Lib.hid (show RBlk w9 g0 ⟨lo, hi, op⟩ from cells_of RX8.out hb)
      have BY9 := Lib.hid (show TBox w9 g7 ⟨lo8, ⟨ka8, kn8, kc8⟩, ⟨na8, nn8, nc8⟩, ⟨pa8, pn8, pc8⟩⟩ from BY8.out.on hb)
      have TS9 := Lib.hid (TS8.out.off hb)
      have HV9 := Lib.hid (HV8.out.on hb)
      clear hb HB8 RX8 BY8 TS8 HV8  HD8
      have HZ := Lib.hid hz
      clear hz
      obtain ⟨wz, hwz⟩ : ∃ w2, w2 = w9 := ⟨_, rfl⟩
      have HQQ := Lib.hid (show ∃ q, q = pickL ⟨lo, hi, op⟩ P from ⟨_, rfl⟩)
      obtain ⟨q, hq⟩ := HQQ.out
      have HQ2 := Lib.hid hq
      have HCT := Lib.hid (show ∀ wx, Below w9.heap.size w9 wx → _ from fun wx h => TBox.cells (r := ⟨lo8, ⟨ka8, kn8, kc8⟩, ⟨na8, nn8, nc8⟩, ⟨pa8, pn8, pc8⟩⟩) (BY9.out.on h))
      have HCR := Lib.hid (show ∀ wx, Below w9.heap.size w9 wx → _ from fun wx h => RBlk.cells (cells_of RX9.out h))
      simp only at HCT HCR
      have HSC := Lib.hid (show ∀ wx, Below w9.heap.size w9 wx → Calls Try.prog 17 #[.agg #[.string lo8, .slice ka8 kn8 kc8, .slice na8 nn8 nc8, .slice pa8 pn8 pc8], .agg #[.string lo, .string hi, .bool op]] wx fun e w' => ∃ v', e = .returned v' ∧ PV w' v' q ∧ Below wx.heap.size wx w' from fun wx h => by
        have h1 := tscan_any _ _ _ _ ⟨lo, hi, op⟩ wx (TS9.out.off h).v (by have := HI9.out.1; omega)
        rw [← HQ2.out] at h1
        exact h1)
      have HPK := Lib.hid (show ∀ wx, Below w9.heap.size w9 wx → Calls Try.prog 18 #[.agg #[.string lo, .string hi, .bool op], .slice A5 m c5] wx fun e w' => ∃ v', e = .returned v' ∧ PV w' v' q ∧ Below wx.heap.size wx w' from fun wx h => by
        have h1 := rpick_v ⟨lo, hi, op⟩ (HV9.out.on h) (by have := HPL.out; omega)
        rw [← HQ2.out] at h1
        exact h1)
      have HSQ := Lib.hid (show ∀ wx v u, PV wx v q → PV wx u q → Calls Try.prog 16 #[v, u] wx fun e w' => e = .returned (.bool true) ∧ Below wx.heap.size wx w' from fun wx v u h1 h2 => by
        have h := same_v h1 h2 (by have h3 : q.length ≤ P.length := (by rw [HQ2.out]; exact List.length_filter_le _ _); have := HPL.out; unfold maxLen; omega)
        rw [decide_eq_true rfl] at h
        exact h)
      clear hq HQQ hwz
      have HDL := HD9
      have HBL := HB9
      have HVK := HV9
      have BYK := BY9
      have TSK := TS9
      rcases HZ.out with ⟨hz, hno⟩ | ⟨j, hz, hj, hkj⟩
      · subst hz
        obtain ⟨rfl, rfl⟩ : gv = noB ∧ gh = false := by
          have h := HGV.out
          rw [getL_none hno] at h
          injection h with h1 h2
          exact ⟨h1, h2⟩
        have HSS := Lib.hid (str_eq (rfl : noB = noB))
        clear hno
        go_upto_region 17 with fail
        refine wp_region_inv [87, 88, 89, 90, 91, 92, 93, 94, 95, 96, 97, 98, 99, 100, 101, 102, 103, 104, 105, 106, 107, 108, 109, 110, 111, 112, 113, 114, 115, 116, 117, 118, 119, 120] (by kernel_rfl) (by kernel_rfl) (fun w' => Below w9.heap.size w9 w') (fun wa wb => Below wa.heap.size wa wb) (TellsN (.int .i64 (-1)) (.string noB) undef undef (.slice A5 m c5) (.agg #[.string lo8, .slice ka8 kn8 kc8, .slice na8 nn8 nc8, .slice pa8 pn8 pc8]) (.agg #[.string lo, .string hi, .bool op]) q) (by kernel_rfl) (fun wa wb h1 h2 => h2.trans (h1.mono h2.size)) (fun t v wa wb h1 h2 => h2.on h1) (Below.refl _ _).drew (steps_of ?_) ?_
        · skip
          refine Steps1.cons (fun ax wx hS hG => ?_) (Steps1.cons (fun ax wx hS hG => ?_) (Steps1.cons (fun ax wx hS hG => ?_) (Steps1.cons (fun ax wx hS hG => ?_) (Steps1.cons (fun ax wx hS hG => ?_) (Steps1.cons (fun ax wx hS hG => ?_) (Steps1.cons (fun ax wx hS hG => ?_) (Steps1.cons (fun ax wx hS hG => ?_) (Steps1.cons (fun ax wx hS hG => ?_) (Steps1.cons (fun ax wx hS hG => ?_) (Steps1.cons (fun ax wx hS hG => ?_) (Steps1.cons (fun ax wx hS hG => ?_) (Steps1.cons (fun ax wx hS hG => ?_) (Steps1.cons (fun ax wx hS hG => ?_) (Steps1.cons (fun ax wx hS hG => ?_) (Steps1.cons (fun ax wx hS hG => ?_) (Steps1.cons (fun ax wx hS hG => ?_) (Steps1.cons (fun ax wx hS hG => ?_) (Steps1.cons (fun ax wx hS hG => ?_) (Steps1.cons (fun ax wx hS hG => ?_) (Steps1.cons (fun ax wx hS hG => ?_) (Steps1.cons (fun ax wx hS hG => ?_) (Steps1.cons (fun ax wx hS hG => ?_) (Steps1.cons (fun ax wx hS hG => ?_) (Steps1.cons (fun ax wx hS hG => ?_) (Steps1.cons (fun ax wx hS hG => ?_) (Steps1.cons (fun ax wx hS hG => ?_) (Steps1.cons (fun ax wx hS hG => ?_) (Steps1.cons (fun ax wx hS hG => ?_) (Steps1.cons (fun ax wx hS hG => ?_) (Steps1.cons (fun ax wx hS hG => ?_) (Steps1.cons (fun ax wx hS hG => ?_) (Steps1.cons (fun ax wx hS hG => ?_) (Steps1.cons (fun ax wx hS hG => ?_) Steps1.nil)))))))))))))))))))))))))))))))))
          · have q16 := hG.old 16 (by kernel_rfl) (by kernel_rfl)
            refine step_value (v := .bool false) (w' := wx) rfl rfl ?_ (Below.refl _ _) (fun d hd => by cases hd; exact rfl)
            go_simp
          · have q17 := hG.old 17 (by kernel_rfl) (by kernel_rfl)
            refine step_value (v := .int .i64 (-1)) (w' := wx) rfl rfl ?_ (Below.refl _ _) (fun d hd => by cases hd; exact rfl)
            go_simp
          · obtain ⟨_, q88, rfl⟩ := hG.new 88 (by kernel_rfl) (by kernel_rfl)
            refine step_value (v := .bool false) (w' := wx) rfl rfl ?_ (Below.refl _ _) (fun d hd => by cases hd; exact rfl)
            go_simp
          · obtain ⟨_, q87, rfl⟩ := hG.new 87 (by kernel_rfl) (by kernel_rfl)
            obtain ⟨_, q89, rfl⟩ := hG.new 89 (by kernel_rfl) (by kernel_rfl)
            refine step_value (v := .bool false) (w' := wx) rfl rfl ?_ (Below.refl _ _) (fun d hd => by cases hd; exact rfl)
            go_simp
          · obtain ⟨_, q90, rfl⟩ := hG.new 90 (by kernel_rfl) (by kernel_rfl)
            refine step_value (v := .bool false) (w' := wx) rfl rfl ?_ (Below.refl _ _) (fun d hd => by cases hd; exact rfl)
            go_simp
          · have q16 := hG.old 16 (by kernel_rfl) (by kernel_rfl)
            obtain ⟨_, q91, rfl⟩ := hG.new 91 (by kernel_rfl) (by kernel_rfl)
            refine step_value (v := .bool false) (w' := wx) rfl (by simp [Region.wanted, yielded, q91]) ?_ (Below.refl _ _) (fun d hd => by cases hd; exact rfl)
            go_simp
          · obtain ⟨_, q92, rfl⟩ := hG.new 92 (by kernel_rfl) (by kernel_rfl)
            obtain ⟨_, q91, rfl⟩ := hG.new 91 (by kernel_rfl) (by kernel_rfl)
            refine step_value (v := .bool false) (w' := wx) rfl (by simp [Region.wanted, yielded, q91]) ?_ (Below.refl _ _) (fun d hd => by cases hd; exact rfl)
            go_simp
          · obtain ⟨_, q93, rfl⟩ := hG.new 93 (by kernel_rfl) (by kernel_rfl)
            refine step_past rfl (by simp [Region.wanted, yielded, q93]) (Below.refl _ _) (fun d hd => by cases hd; exact rfl)
          · obtain ⟨_, q93, rfl⟩ := hG.new 93 (by kernel_rfl) (by kernel_rfl)
            refine step_past rfl (by simp [Region.wanted, yielded, q93]) (Below.refl _ _) (fun d hd => by cases hd; exact rfl)
          · obtain ⟨_, q93, rfl⟩ := hG.new 93 (by kernel_rfl) (by kernel_rfl)
            refine step_past rfl (by simp [Region.wanted, yielded, q93]) (Below.refl _ _) (fun d hd => by cases hd; exact rfl)
          · obtain ⟨_, q93, rfl⟩ := hG.new 93 (by kernel_rfl) (by kernel_rfl)
            refine step_past rfl (by simp [Region.wanted, yielded, q93]) (Below.refl _ _) (fun d hd => by cases hd; exact rfl)
          · obtain ⟨_, q93, rfl⟩ := hG.new 93 (by kernel_rfl) (by kernel_rfl)
            refine step_past rfl (by simp [Region.wanted, yielded, q93]) (Below.refl _ _) (fun d hd => by cases hd; exact rfl)
          · obtain ⟨_, q93, rfl⟩ := hG.new 93 (by kernel_rfl) (by kernel_rfl)
            refine step_past rfl (by simp [Region.wanted, yielded, q93]) (Below.refl _ _) (fun d hd => by cases hd; exact rfl)
          · obtain ⟨_, q93, rfl⟩ := hG.new 93 (by kernel_rfl) (by kernel_rfl)
            refine step_past rfl (by simp [Region.wanted, yielded, q93]) (Below.refl _ _) (fun d hd => by cases hd; exact rfl)
          · obtain ⟨_, q93, rfl⟩ := hG.new 93 (by kernel_rfl) (by kernel_rfl)
            obtain ⟨_, q91, rfl⟩ := hG.new 91 (by kernel_rfl) (by kernel_rfl)
            refine step_value (v := .bool false) (w' := wx) rfl (by simp [Region.wanted, yielded, q91]) ?_ (Below.refl _ _) (fun d hd => by cases hd; exact rfl)
            go_simp
          · obtain ⟨_, q91, rfl⟩ := hG.new 91 (by kernel_rfl) (by kernel_rfl)
            obtain ⟨_, q101, rfl⟩ := hG.new 101 (by kernel_rfl) (by kernel_rfl)
            refine step_value (v := .bool false) (w' := wx) rfl rfl ?_ (Below.refl _ _) (fun d hd => by cases hd; exact rfl)
            go_simp
          · obtain ⟨_, q102, rfl⟩ := hG.new 102 (by kernel_rfl) (by kernel_rfl)
            refine step_value (v := .bool false) (w' := wx) rfl rfl ?_ (Below.refl _ _) (fun d hd => by cases hd; exact rfl)
            go_simp
          · have q16 := hG.old 16 (by kernel_rfl) (by kernel_rfl)
            obtain ⟨_, q103, rfl⟩ := hG.new 103 (by kernel_rfl) (by kernel_rfl)
            refine step_value (v := .bool false) (w' := wx) rfl (by simp [Region.wanted, yielded, q103]) ?_ (Below.refl _ _) (fun d hd => by cases hd; exact rfl)
            go_simp
          · obtain ⟨_, q104, rfl⟩ := hG.new 104 (by kernel_rfl) (by kernel_rfl)
            obtain ⟨_, q103, rfl⟩ := hG.new 103 (by kernel_rfl) (by kernel_rfl)
            refine step_value (v := .bool true) (w' := wx) rfl (by simp [Region.wanted, yielded, q103]) ?_ (Below.refl _ _) (fun d hd => by cases hd; exact rfl)
            go_simp
          · obtain ⟨_, q105, rfl⟩ := hG.new 105 (by kernel_rfl) (by kernel_rfl)
            obtain ⟨_, q103, rfl⟩ := hG.new 103 (by kernel_rfl) (by kernel_rfl)
            refine step_value (v := .bool true) (w' := wx) rfl (by simp [Region.wanted, yielded, q103]) ?_ (Below.refl _ _) (fun d hd => by cases hd; exact rfl)
            go_simp
          · have q15 := hG.old 15 (by kernel_rfl) (by kernel_rfl)
            obtain ⟨_, q106, rfl⟩ := hG.new 106 (by kernel_rfl) (by kernel_rfl)
            refine step_value (v := .string noB) (w' := wx) rfl (by simp [Region.wanted, yielded, q106]) ?_ (Below.refl _ _) (fun d hd => by cases hd; exact rfl)
            go_simp
          · obtain ⟨_, q107, rfl⟩ := hG.new 107 (by kernel_rfl) (by kernel_rfl)
            obtain ⟨_, q106, rfl⟩ := hG.new 106 (by kernel_rfl) (by kernel_rfl)
            refine step_value (v := .bool false) (w' := wx) rfl (by simp [Region.wanted, yielded, q106]) ?_ (Below.refl _ _) (fun d hd => by cases hd; exact rfl)
            have hss := HSS.out
            go_simp
          · obtain ⟨_, q106, rfl⟩ := hG.new 106 (by kernel_rfl) (by kernel_rfl)
            obtain ⟨_, q108, rfl⟩ := hG.new 108 (by kernel_rfl) (by kernel_rfl)
            obtain ⟨_, q103, rfl⟩ := hG.new 103 (by kernel_rfl) (by kernel_rfl)
            refine step_value (v := .bool false) (w' := wx) rfl (by simp [Region.wanted, yielded, q103]) ?_ (Below.refl _ _) (fun d hd => by cases hd; exact rfl)
            go_simp
          · obtain ⟨_, q103, rfl⟩ := hG.new 103 (by kernel_rfl) (by kernel_rfl)
            obtain ⟨_, q109, rfl⟩ := hG.new 109 (by kernel_rfl) (by kernel_rfl)
            refine step_value (v := .bool false) (w' := wx) rfl rfl ?_ (Below.refl _ _) (fun d hd => by cases hd; exact rfl)
            go_simp
          · obtain ⟨_, q110, rfl⟩ := hG.new 110 (by kernel_rfl) (by kernel_rfl)
            refine step_value (v := .bool false) (w' := wx) rfl rfl ?_ (Below.refl _ _) (fun d hd => by cases hd; exact rfl)
            go_simp
          · have q7 := hG.old 7 (by kernel_rfl) (by kernel_rfl)
            obtain ⟨_, q111, rfl⟩ := hG.new 111 (by kernel_rfl) (by kernel_rfl)
            obtain ⟨z0, z1, z2, z3⟩ := HCT.out wx hS
            refine step_value (v := .agg #[.string lo8, .slice ka8 kn8 kc8, .slice na8 nn8 nc8, .slice pa8 pn8 pc8]) (w' := wx) rfl (by simp [Region.wanted, yielded, q111]) ?_ (Below.refl _ _) (fun d hd => by cases hd; exact rfl)
            go_simp
          · have q4 := hG.old 4 (by kernel_rfl) (by kernel_rfl)
            obtain ⟨_, q111, rfl⟩ := hG.new 111 (by kernel_rfl) (by kernel_rfl)
            obtain ⟨z0, z1, z2⟩ := HCR.out wx hS
            refine step_value (v := .agg #[.string lo, .string hi, .bool op]) (w' := wx) rfl (by simp [Region.wanted, yielded, q111]) ?_ (Below.refl _ _) (fun d hd => by cases hd; exact rfl)
            go_simp
          · obtain ⟨_, q112, rfl⟩ := hG.new 112 (by kernel_rfl) (by kernel_rfl)
            obtain ⟨_, q113, rfl⟩ := hG.new 113 (by kernel_rfl) (by kernel_rfl)
            obtain ⟨_, q111, rfl⟩ := hG.new 111 (by kernel_rfl) (by kernel_rfl)
            refine step_call (w1 := wx) (f := 17) (args := #[.agg #[.string lo8, .slice ka8 kn8 kc8, .slice na8 nn8 nc8, .slice pa8 pn8 pc8], .agg #[.string lo, .string hi, .bool op]]) rfl (by simp [Region.wanted, yielded, q111]) ?_ ((HSC.out wx hS).mono ?_)
            · skip
              go_simp
            · rintro e w' ⟨v', rfl, hv, hq⟩
              exact ⟨_, rfl, hq, fun d hd => by cases hd; exact hv⟩
          · have q4 := hG.old 4 (by kernel_rfl) (by kernel_rfl)
            obtain ⟨_, q111, rfl⟩ := hG.new 111 (by kernel_rfl) (by kernel_rfl)
            obtain ⟨z0, z1, z2⟩ := HCR.out wx hS
            refine step_value (v := .agg #[.string lo, .string hi, .bool op]) (w' := wx) rfl (by simp [Region.wanted, yielded, q111]) ?_ (Below.refl _ _) (fun d hd => by cases hd; exact rfl)
            go_simp
          · have q8 := hG.old 8 (by kernel_rfl) (by kernel_rfl)
            obtain ⟨_, q111, rfl⟩ := hG.new 111 (by kernel_rfl) (by kernel_rfl)
            refine step_value (v := .slice A5 m c5) (w' := wx) rfl (by simp [Region.wanted, yielded, q111]) ?_ (Below.refl _ _) (fun d hd => by cases hd; exact rfl)
            go_simp
          · obtain ⟨_, q115, rfl⟩ := hG.new 115 (by kernel_rfl) (by kernel_rfl)
            obtain ⟨_, q116, rfl⟩ := hG.new 116 (by kernel_rfl) (by kernel_rfl)
            obtain ⟨_, q111, rfl⟩ := hG.new 111 (by kernel_rfl) (by kernel_rfl)
            refine step_call (w1 := wx) (f := 18) (args := #[.agg #[.string lo, .string hi, .bool op], .slice A5 m c5]) rfl (by simp [Region.wanted, yielded, q111]) ?_ ((HPK.out wx hS).mono ?_)
            · skip
              go_simp
            · rintro e w' ⟨v', rfl, hv, hq⟩
              exact ⟨_, rfl, hq, fun d hd => by cases hd; exact hv⟩
          · obtain ⟨v114, q114, h114⟩ := hG.new 114 (by kernel_rfl) (by kernel_rfl)
            have p114 : PV wx v114 q := h114
            obtain ⟨v117, q117, h117⟩ := hG.new 117 (by kernel_rfl) (by kernel_rfl)
            have p117 : PV wx v117 q := h117
            obtain ⟨_, q111, rfl⟩ := hG.new 111 (by kernel_rfl) (by kernel_rfl)
            refine step_call (w1 := wx) (f := 16) (args := #[v114, v117]) rfl (by simp [Region.wanted, yielded, q111]) ?_ ((HSQ.out wx _ _ p114 p117).mono ?_)
            · clear h114 p114 h117 p117
              go_simp
            · rintro e w' ⟨rfl, hq⟩
              exact ⟨_, rfl, hq, fun d hd => by cases hd; exact rfl⟩
          · obtain ⟨_, q118, rfl⟩ := hG.new 118 (by kernel_rfl) (by kernel_rfl)
            obtain ⟨_, q111, rfl⟩ := hG.new 111 (by kernel_rfl) (by kernel_rfl)
            refine step_value (v := .bool false) (w' := wx) rfl (by simp [Region.wanted, yielded, q111]) ?_ (Below.refl _ _) (fun d hd => by cases hd; exact rfl)
            go_simp
          · obtain ⟨_, q111, rfl⟩ := hG.new 111 (by kernel_rfl) (by kernel_rfl)
            obtain ⟨_, q119, rfl⟩ := hG.new 119 (by kernel_rfl) (by kernel_rfl)
            refine step_value (v := .bool false) (w' := wx) rfl rfl ?_ (Below.refl _ _) (fun d hd => by cases hd; exact rfl)
            go_simp
        intro fv w8 hS8 hV8
        have e120 : fv 120 = .bool false := hV8 120 (by decide)
        simp only [puts, Act.put, List.setIfInBounds_toArray, List.set_cons_succ, List.set_cons_zero]
        clear hV8
        rw [e120]
        have HDe := Lib.hid (HDL.out.trans (hS8.mono HDL.out.size))
        have HVe := Lib.hid (HVK.out.on hS8)
        have BYe := Lib.hid (show TBox w8 g7 ⟨lo8, ⟨ka8, kn8, kc8⟩, ⟨na8, nn8, nc8⟩, ⟨pa8, pn8, pc8⟩⟩ from BYK.out.on hS8)
        have TSe := Lib.hid (TSK.out.off hS8)
        clear hS8
        have hi9 := HI9.out.1
        have hlt9 := HI9.out.2
        go_wp2
        go_roundw
        case rel => exact ⟨i + 1, ⟨lo8, ⟨ka8, kn8, kc8⟩, ⟨na8, nn8, nc8⟩, ⟨pa8, pn8, pc8⟩⟩, P, by first | rfl | go_num, by omega, HVe, BYe, TSe, HDe.out⟩
        case measure => simp [intOf]; omega
      · subst hz
        obtain ⟨hgv, rfl⟩ : gv = (P[j]'hj).v ∧ gh = true := by
          have h := HGV.out
          have h2 := getL_mem (well_sorted HPW.out) j hj
          rw [hkj] at h2
          rw [h2] at h
          injection h with h1 h2
          exact ⟨h1, h2⟩
        have hjm : j < m := by rw [← HM.out]; exact hj
        obtain ⟨ad5, rfl, HPC⟩ : ∃ ad5, A5 = some ad5 ∧ Hid (∀ wx, Below w9.heap.size w9 wx → wx.cell? ⟨(ad5.add (j * 2)).block, (ad5.add (j * 2)).off + 1, none⟩ = some (.string gv)) := by
          obtain ⟨A', c', e', h1, _, _⟩ := HVK.out
          injection e' with e1 e2 e3
          subst e1 e3
          obtain ⟨ad5, h2, _, h4⟩ := h1.seeP (by omega)
          obtain ⟨_, h5⟩ := h4 j hj
          rw [← hgv] at h5
          exact ⟨ad5, h2, fun wx h => (h.cell (lt_of_cell h5)).trans h5⟩
        have HJM := Lib.hid hjm
        have HJJ := Lib.hid (show (0 : Int) ≤ (j : Int) by omega)
        have HSS := Lib.hid (str_eq (rfl : gv = gv))
        clear hgv hkj hjm
        go_upto_region 17 with fail
        refine wp_region_inv [87, 88, 89, 90, 91, 92, 93, 94, 95, 96, 97, 98, 99, 100, 101, 102, 103, 104, 105, 106, 107, 108, 109, 110, 111, 112, 113, 114, 115, 116, 117, 118, 119, 120] (by kernel_rfl) (by kernel_rfl) (fun w' => Below w9.heap.size w9 w') (fun wa wb => Below wa.heap.size wa wb) (TellsF (.int .i64 (j : Int)) (.string gv) (.pointer (some (ad5.add (j * 2)))) (.pointer (some ⟨(ad5.add (j * 2)).block, (ad5.add (j * 2)).off + 1, none⟩)) (.slice (some ad5) m c5) (.agg #[.string lo8, .slice ka8 kn8 kc8, .slice na8 nn8 nc8, .slice pa8 pn8 pc8]) (.agg #[.string lo, .string hi, .bool op]) q) (by kernel_rfl) (fun wa wb h1 h2 => h2.trans (h1.mono h2.size)) (fun t v wa wb h1 h2 => h2.on h1) (Below.refl _ _).drew (steps_of ?_) ?_
        · skip
          refine Steps1.cons (fun ax wx hS hG => ?_) (Steps1.cons (fun ax wx hS hG => ?_) (Steps1.cons (fun ax wx hS hG => ?_) (Steps1.cons (fun ax wx hS hG => ?_) (Steps1.cons (fun ax wx hS hG => ?_) (Steps1.cons (fun ax wx hS hG => ?_) (Steps1.cons (fun ax wx hS hG => ?_) (Steps1.cons (fun ax wx hS hG => ?_) (Steps1.cons (fun ax wx hS hG => ?_) (Steps1.cons (fun ax wx hS hG => ?_) (Steps1.cons (fun ax wx hS hG => ?_) (Steps1.cons (fun ax wx hS hG => ?_) (Steps1.cons (fun ax wx hS hG => ?_) (Steps1.cons (fun ax wx hS hG => ?_) (Steps1.cons (fun ax wx hS hG => ?_) (Steps1.cons (fun ax wx hS hG => ?_) (Steps1.cons (fun ax wx hS hG => ?_) (Steps1.cons (fun ax wx hS hG => ?_) (Steps1.cons (fun ax wx hS hG => ?_) (Steps1.cons (fun ax wx hS hG => ?_) (Steps1.cons (fun ax wx hS hG => ?_) (Steps1.cons (fun ax wx hS hG => ?_) (Steps1.cons (fun ax wx hS hG => ?_) (Steps1.cons (fun ax wx hS hG => ?_) (Steps1.cons (fun ax wx hS hG => ?_) (Steps1.cons (fun ax wx hS hG => ?_) (Steps1.cons (fun ax wx hS hG => ?_) (Steps1.cons (fun ax wx hS hG => ?_) (Steps1.cons (fun ax wx hS hG => ?_) (Steps1.cons (fun ax wx hS hG => ?_) (Steps1.cons (fun ax wx hS hG => ?_) (Steps1.cons (fun ax wx hS hG => ?_) (Steps1.cons (fun ax wx hS hG => ?_) (Steps1.cons (fun ax wx hS hG => ?_) Steps1.nil)))))))))))))))))))))))))))))))))
          · have q16 := hG.old 16 (by kernel_rfl) (by kernel_rfl)
            refine step_value (v := .bool true) (w' := wx) rfl rfl ?_ (Below.refl _ _) (fun d hd => by cases hd; exact rfl)
            go_simp
          · have q17 := hG.old 17 (by kernel_rfl) (by kernel_rfl)
            refine step_value (v := .int .i64 (j : Int)) (w' := wx) rfl rfl ?_ (Below.refl _ _) (fun d hd => by cases hd; exact rfl)
            go_simp
          · obtain ⟨_, q88, rfl⟩ := hG.new 88 (by kernel_rfl) (by kernel_rfl)
            refine step_value (v := .bool true) (w' := wx) rfl rfl ?_ (Below.refl _ _) (fun d hd => by cases hd; exact rfl)
            have hjj := HJJ.out
            go_simp
          · obtain ⟨_, q87, rfl⟩ := hG.new 87 (by kernel_rfl) (by kernel_rfl)
            obtain ⟨_, q89, rfl⟩ := hG.new 89 (by kernel_rfl) (by kernel_rfl)
            refine step_value (v := .bool false) (w' := wx) rfl rfl ?_ (Below.refl _ _) (fun d hd => by cases hd; exact rfl)
            go_simp
          · obtain ⟨_, q90, rfl⟩ := hG.new 90 (by kernel_rfl) (by kernel_rfl)
            refine step_value (v := .bool false) (w' := wx) rfl rfl ?_ (Below.refl _ _) (fun d hd => by cases hd; exact rfl)
            go_simp
          · have q16 := hG.old 16 (by kernel_rfl) (by kernel_rfl)
            obtain ⟨_, q91, rfl⟩ := hG.new 91 (by kernel_rfl) (by kernel_rfl)
            refine step_value (v := .bool true) (w' := wx) rfl (by simp [Region.wanted, yielded, q91]) ?_ (Below.refl _ _) (fun d hd => by cases hd; exact rfl)
            go_simp
          · obtain ⟨_, q92, rfl⟩ := hG.new 92 (by kernel_rfl) (by kernel_rfl)
            obtain ⟨_, q91, rfl⟩ := hG.new 91 (by kernel_rfl) (by kernel_rfl)
            refine step_value (v := .bool true) (w' := wx) rfl (by simp [Region.wanted, yielded, q91]) ?_ (Below.refl _ _) (fun d hd => by cases hd; exact rfl)
            go_simp
          · have q15 := hG.old 15 (by kernel_rfl) (by kernel_rfl)
            obtain ⟨_, q93, rfl⟩ := hG.new 93 (by kernel_rfl) (by kernel_rfl)
            refine step_value (v := .string gv) (w' := wx) rfl (by simp [Region.wanted, yielded, q93]) ?_ (Below.refl _ _) (fun d hd => by cases hd; exact rfl)
            go_simp
          · have q8 := hG.old 8 (by kernel_rfl) (by kernel_rfl)
            obtain ⟨_, q93, rfl⟩ := hG.new 93 (by kernel_rfl) (by kernel_rfl)
            refine step_value (v := .slice (some ad5) m c5) (w' := wx) rfl (by simp [Region.wanted, yielded, q93]) ?_ (Below.refl _ _) (fun d hd => by cases hd; exact rfl)
            go_simp
          · have q17 := hG.old 17 (by kernel_rfl) (by kernel_rfl)
            obtain ⟨_, q93, rfl⟩ := hG.new 93 (by kernel_rfl) (by kernel_rfl)
            refine step_value (v := .int .i64 (j : Int)) (w' := wx) rfl (by simp [Region.wanted, yielded, q93]) ?_ (Below.refl _ _) (fun d hd => by cases hd; exact rfl)
            go_simp
          · obtain ⟨_, q95, rfl⟩ := hG.new 95 (by kernel_rfl) (by kernel_rfl)
            obtain ⟨_, q96, rfl⟩ := hG.new 96 (by kernel_rfl) (by kernel_rfl)
            obtain ⟨_, q93, rfl⟩ := hG.new 93 (by kernel_rfl) (by kernel_rfl)
            refine step_value (v := .pointer (some (ad5.add (j * 2)))) (w' := wx) rfl (by simp [Region.wanted, yielded, q93]) ?_ (Below.refl _ _) (fun d hd => by cases hd; exact rfl)
            have hjm := HJM.out
            go_simp
          · obtain ⟨_, q97, rfl⟩ := hG.new 97 (by kernel_rfl) (by kernel_rfl)
            obtain ⟨_, q93, rfl⟩ := hG.new 93 (by kernel_rfl) (by kernel_rfl)
            refine step_value (v := .pointer (some ⟨(ad5.add (j * 2)).block, (ad5.add (j * 2)).off + 1, none⟩)) (w' := wx) rfl (by simp [Region.wanted, yielded, q93]) ?_ (Below.refl _ _) (fun d hd => by cases hd; exact rfl)
            go_simp
          · obtain ⟨_, q98, rfl⟩ := hG.new 98 (by kernel_rfl) (by kernel_rfl)
            obtain ⟨_, q93, rfl⟩ := hG.new 93 (by kernel_rfl) (by kernel_rfl)
            have z0 := HPC.out wx hS
            refine step_value (v := .string gv) (w' := wx) rfl (by simp [Region.wanted, yielded, q93]) ?_ (Below.refl _ _) (fun d hd => by cases hd; exact rfl)
            go_simp
          · obtain ⟨_, q94, rfl⟩ := hG.new 94 (by kernel_rfl) (by kernel_rfl)
            obtain ⟨_, q99, rfl⟩ := hG.new 99 (by kernel_rfl) (by kernel_rfl)
            obtain ⟨_, q93, rfl⟩ := hG.new 93 (by kernel_rfl) (by kernel_rfl)
            refine step_value (v := .bool false) (w' := wx) rfl (by simp [Region.wanted, yielded, q93]) ?_ (Below.refl _ _) (fun d hd => by cases hd; exact rfl)
            have hss := HSS.out
            go_simp
          · obtain ⟨_, q93, rfl⟩ := hG.new 93 (by kernel_rfl) (by kernel_rfl)
            obtain ⟨_, q100, rfl⟩ := hG.new 100 (by kernel_rfl) (by kernel_rfl)
            obtain ⟨_, q91, rfl⟩ := hG.new 91 (by kernel_rfl) (by kernel_rfl)
            refine step_value (v := .bool false) (w' := wx) rfl (by simp [Region.wanted, yielded, q91]) ?_ (Below.refl _ _) (fun d hd => by cases hd; exact rfl)
            go_simp
          · obtain ⟨_, q91, rfl⟩ := hG.new 91 (by kernel_rfl) (by kernel_rfl)
            obtain ⟨_, q101, rfl⟩ := hG.new 101 (by kernel_rfl) (by kernel_rfl)
            refine step_value (v := .bool false) (w' := wx) rfl rfl ?_ (Below.refl _ _) (fun d hd => by cases hd; exact rfl)
            go_simp
          · obtain ⟨_, q102, rfl⟩ := hG.new 102 (by kernel_rfl) (by kernel_rfl)
            refine step_value (v := .bool false) (w' := wx) rfl rfl ?_ (Below.refl _ _) (fun d hd => by cases hd; exact rfl)
            go_simp
          · have q16 := hG.old 16 (by kernel_rfl) (by kernel_rfl)
            obtain ⟨_, q103, rfl⟩ := hG.new 103 (by kernel_rfl) (by kernel_rfl)
            refine step_value (v := .bool true) (w' := wx) rfl (by simp [Region.wanted, yielded, q103]) ?_ (Below.refl _ _) (fun d hd => by cases hd; exact rfl)
            go_simp
          · obtain ⟨_, q104, rfl⟩ := hG.new 104 (by kernel_rfl) (by kernel_rfl)
            obtain ⟨_, q103, rfl⟩ := hG.new 103 (by kernel_rfl) (by kernel_rfl)
            refine step_value (v := .bool false) (w' := wx) rfl (by simp [Region.wanted, yielded, q103]) ?_ (Below.refl _ _) (fun d hd => by cases hd; exact rfl)
            go_simp
          · obtain ⟨_, q105, rfl⟩ := hG.new 105 (by kernel_rfl) (by kernel_rfl)
            obtain ⟨_, q103, rfl⟩ := hG.new 103 (by kernel_rfl) (by kernel_rfl)
            refine step_value (v := .bool false) (w' := wx) rfl (by simp [Region.wanted, yielded, q103]) ?_ (Below.refl _ _) (fun d hd => by cases hd; exact rfl)
            go_simp
          · obtain ⟨_, q106, rfl⟩ := hG.new 106 (by kernel_rfl) (by kernel_rfl)
            refine step_past rfl (by simp [Region.wanted, yielded, q106]) (Below.refl _ _) (fun d hd => by cases hd; exact rfl)
          · obtain ⟨_, q106, rfl⟩ := hG.new 106 (by kernel_rfl) (by kernel_rfl)
            refine step_past rfl (by simp [Region.wanted, yielded, q106]) (Below.refl _ _) (fun d hd => by cases hd; exact rfl)
          · obtain ⟨_, q106, rfl⟩ := hG.new 106 (by kernel_rfl) (by kernel_rfl)
            obtain ⟨_, q103, rfl⟩ := hG.new 103 (by kernel_rfl) (by kernel_rfl)
            refine step_value (v := .bool false) (w' := wx) rfl (by simp [Region.wanted, yielded, q103]) ?_ (Below.refl _ _) (fun d hd => by cases hd; exact rfl)
            go_simp
          · obtain ⟨_, q103, rfl⟩ := hG.new 103 (by kernel_rfl) (by kernel_rfl)
            obtain ⟨_, q109, rfl⟩ := hG.new 109 (by kernel_rfl) (by kernel_rfl)
            refine step_value (v := .bool false) (w' := wx) rfl rfl ?_ (Below.refl _ _) (fun d hd => by cases hd; exact rfl)
            go_simp
          · obtain ⟨_, q110, rfl⟩ := hG.new 110 (by kernel_rfl) (by kernel_rfl)
            refine step_value (v := .bool false) (w' := wx) rfl rfl ?_ (Below.refl _ _) (fun d hd => by cases hd; exact rfl)
            go_simp
          · have q7 := hG.old 7 (by kernel_rfl) (by kernel_rfl)
            obtain ⟨_, q111, rfl⟩ := hG.new 111 (by kernel_rfl) (by kernel_rfl)
            obtain ⟨z0, z1, z2, z3⟩ := HCT.out wx hS
            refine step_value (v := .agg #[.string lo8, .slice ka8 kn8 kc8, .slice na8 nn8 nc8, .slice pa8 pn8 pc8]) (w' := wx) rfl (by simp [Region.wanted, yielded, q111]) ?_ (Below.refl _ _) (fun d hd => by cases hd; exact rfl)
            go_simp
          · have q4 := hG.old 4 (by kernel_rfl) (by kernel_rfl)
            obtain ⟨_, q111, rfl⟩ := hG.new 111 (by kernel_rfl) (by kernel_rfl)
            obtain ⟨z0, z1, z2⟩ := HCR.out wx hS
            refine step_value (v := .agg #[.string lo, .string hi, .bool op]) (w' := wx) rfl (by simp [Region.wanted, yielded, q111]) ?_ (Below.refl _ _) (fun d hd => by cases hd; exact rfl)
            go_simp
          · obtain ⟨_, q112, rfl⟩ := hG.new 112 (by kernel_rfl) (by kernel_rfl)
            obtain ⟨_, q113, rfl⟩ := hG.new 113 (by kernel_rfl) (by kernel_rfl)
            obtain ⟨_, q111, rfl⟩ := hG.new 111 (by kernel_rfl) (by kernel_rfl)
            refine step_call (w1 := wx) (f := 17) (args := #[.agg #[.string lo8, .slice ka8 kn8 kc8, .slice na8 nn8 nc8, .slice pa8 pn8 pc8], .agg #[.string lo, .string hi, .bool op]]) rfl (by simp [Region.wanted, yielded, q111]) ?_ ((HSC.out wx hS).mono ?_)
            · skip
              go_simp
            · rintro e w' ⟨v', rfl, hv, hq⟩
              exact ⟨_, rfl, hq, fun d hd => by cases hd; exact hv⟩
          · have q4 := hG.old 4 (by kernel_rfl) (by kernel_rfl)
            obtain ⟨_, q111, rfl⟩ := hG.new 111 (by kernel_rfl) (by kernel_rfl)
            obtain ⟨z0, z1, z2⟩ := HCR.out wx hS
            refine step_value (v := .agg #[.string lo, .string hi, .bool op]) (w' := wx) rfl (by simp [Region.wanted, yielded, q111]) ?_ (Below.refl _ _) (fun d hd => by cases hd; exact rfl)
            go_simp
          · have q8 := hG.old 8 (by kernel_rfl) (by kernel_rfl)
            obtain ⟨_, q111, rfl⟩ := hG.new 111 (by kernel_rfl) (by kernel_rfl)
            refine step_value (v := .slice (some ad5) m c5) (w' := wx) rfl (by simp [Region.wanted, yielded, q111]) ?_ (Below.refl _ _) (fun d hd => by cases hd; exact rfl)
            go_simp
          · obtain ⟨_, q115, rfl⟩ := hG.new 115 (by kernel_rfl) (by kernel_rfl)
            obtain ⟨_, q116, rfl⟩ := hG.new 116 (by kernel_rfl) (by kernel_rfl)
            obtain ⟨_, q111, rfl⟩ := hG.new 111 (by kernel_rfl) (by kernel_rfl)
            refine step_call (w1 := wx) (f := 18) (args := #[.agg #[.string lo, .string hi, .bool op], .slice (some ad5) m c5]) rfl (by simp [Region.wanted, yielded, q111]) ?_ ((HPK.out wx hS).mono ?_)
            · skip
              go_simp
            · rintro e w' ⟨v', rfl, hv, hq⟩
              exact ⟨_, rfl, hq, fun d hd => by cases hd; exact hv⟩
          · obtain ⟨v114, q114, h114⟩ := hG.new 114 (by kernel_rfl) (by kernel_rfl)
            have p114 : PV wx v114 q := h114
            obtain ⟨v117, q117, h117⟩ := hG.new 117 (by kernel_rfl) (by kernel_rfl)
            have p117 : PV wx v117 q := h117
            obtain ⟨_, q111, rfl⟩ := hG.new 111 (by kernel_rfl) (by kernel_rfl)
            refine step_call (w1 := wx) (f := 16) (args := #[v114, v117]) rfl (by simp [Region.wanted, yielded, q111]) ?_ ((HSQ.out wx _ _ p114 p117).mono ?_)
            · clear h114 p114 h117 p117
              go_simp
            · rintro e w' ⟨rfl, hq⟩
              exact ⟨_, rfl, hq, fun d hd => by cases hd; exact rfl⟩
          · obtain ⟨_, q118, rfl⟩ := hG.new 118 (by kernel_rfl) (by kernel_rfl)
            obtain ⟨_, q111, rfl⟩ := hG.new 111 (by kernel_rfl) (by kernel_rfl)
            refine step_value (v := .bool false) (w' := wx) rfl (by simp [Region.wanted, yielded, q111]) ?_ (Below.refl _ _) (fun d hd => by cases hd; exact rfl)
            go_simp
          · obtain ⟨_, q111, rfl⟩ := hG.new 111 (by kernel_rfl) (by kernel_rfl)
            obtain ⟨_, q119, rfl⟩ := hG.new 119 (by kernel_rfl) (by kernel_rfl)
            refine step_value (v := .bool false) (w' := wx) rfl rfl ?_ (Below.refl _ _) (fun d hd => by cases hd; exact rfl)
            go_simp
        intro fv w8 hS8 hV8
        have e120 : fv 120 = .bool false := hV8 120 (by decide)
        simp only [puts, Act.put, List.setIfInBounds_toArray, List.set_cons_succ, List.set_cons_zero]
        clear hV8
        rw [e120]
        have HDe := Lib.hid (HDL.out.trans (hS8.mono HDL.out.size))
        have HVe := Lib.hid (HVK.out.on hS8)
        have BYe := Lib.hid (show TBox w8 g7 ⟨lo8, ⟨ka8, kn8, kc8⟩, ⟨na8, nn8, nc8⟩, ⟨pa8, pn8, pc8⟩⟩ from BYK.out.on hS8)
        have TSe := Lib.hid (TSK.out.off hS8)
        clear hS8
        have hi9 := HI9.out.1
        have hlt9 := HI9.out.2
        go_wp2
        go_roundw
        case rel => exact ⟨i + 1, ⟨lo8, ⟨ka8, kn8, kc8⟩, ⟨na8, nn8, nc8⟩, ⟨pa8, pn8, pc8⟩⟩, P, by first | rfl | go_num, by omega, HVe, BYe, TSe, HDe.out⟩
        case measure => simp [intOf]; omega
    · have HBr := Lib.hid (HB1.out.trans (hbr.mono HB1.out.size))
      clear hbr HQ HBX HTS
      go_wp2_with fail
      refine (awake_true _).mono ?_
      rintro e w9 ⟨rfl, hb9⟩
      have HB9 := Lib.hid (HBr.out.trans (hb9.mono HBr.out.size))
      clear hb9
      go_wp2
      go_ret
      exact ⟨rfl, HB9.out⟩

end Go.Proofs.Yteddjmkoleclpaa
