/- The walk of the law TreeOne. -/
import Derived.Test.YteddjmkoleclpaaFT
import Derived.Test.YteddjmkoleclpaaPhase
set_option linter.unusedVariables false
set_option linter.unusedSimpArgs false
namespace Go.Proofs.Yteddjmkoleclpaa
open Go.RowKit Go.Sort

/-- What the slots of the second Apply hold, before and behind the store. -/
def OneS (wy wz : World) (g : Nat) (P : List Pr) (p : Nat) (w' : World) : Prop :=
  (p = 0 → Below wz.heap.size wz w') ∧ (p = 1 → Below wy.heap.size wy w' ∧ ∃ r : Nr, TBox w' g r ∧ TreeS w' (Off g w') r.v P 60 1000)
theorem OneS.on {wy wz : World} {g : Nat} {P : List Pr} {p : Nat} {w w' : World} (h : OneS wy wz g P p w) (hb : Below w.heap.size w w') : OneS wy wz g P p w' :=
  ⟨fun e => (h.1 e).trans (hb.mono (h.1 e).size), fun e => by
    obtain ⟨h1, r, h2, h3⟩ := h.2 e
    exact ⟨h1.trans (hb.mono h1.size), r, h2.on hb, h3.off hb⟩⟩
def OneV (tv lv kv hv : Value) (g : Nat) (P : List Pr) (p t : Nat) (v : Value) (w : World) : Prop :=
  match t with
  | 64 => v = tv
  | 65 => v = lv
  | 66 => v = kv
  | 67 => v = hv
  | 68 => ∃ r : Nr, v = .tuple #[r.v, .int .i64 0] ∧ (p = 0 → TreeS w (Off g w) r.v P 60 1000)
  | 63 => ∃ r : Nr, v = .tuple #[r.v, .int .i64 0] ∧ (p = 0 → TreeS w (Off g w) r.v P 60 1000)
  | 69 => p = 0 → ∃ r : Nr, v = r.v ∧ TreeS w (Off g w) r.v P 60 1000
  | 70 => v = .int .i64 0
  | _ => True
theorem OneV.on {tv lv kv hv : Value} {g : Nat} {P : List Pr} {p t : Nat} {v : Value} {w w' : World} (h : OneV tv lv kv hv g P p t v w) (hb : Below w.heap.size w w') : OneV tv lv kv hv g P p t v w' := by
  unfold OneV at *
  split at h <;> first | exact h | exact let ⟨r, e, h2⟩ := h; ⟨r, e, fun e2 => (h2 e2).off hb⟩ | exact fun e2 => let ⟨r, e, h2⟩ := h e2; ⟨r, e, h2.off hb⟩

set_option maxHeartbeats 8000000 in
set_option maxRecDepth 100000 in
theorem one_walk (v1 : Value) (l : List Nt) (cut : Nat) (w0 : World) (hA : NV w0 v1 l) (hl : l.length ≤ maxLen) (hd : cut ≤ 255) :
    Calls Try.prog 4 #[v1, .int .u8 (cut : Int)] w0 fun e w' => e = .returned (.bool true) ∧ Below w0.heap.size w0 w' := by
  have HA0 := Lib.hid hA
  have HB0 := Lib.hid (Below.refl w0.heap.size w0)
  obtain ⟨A, ca, rfl, _, _, _⟩ := hA
  obtain ⟨nl, hla⟩ : ∃ n, n = l.length := ⟨_, rfl⟩
  rw [← hla] at HA0 ⊢
  have HLA := Lib.hid hla
  have HLM := Lib.hid hl
  clear hl hla
  go_enter Try.func4, Try.ntmps4
  have hc := dfew_v HA0.out 60 HLM.out
  rw [← HLA.out] at hc
  go_wp2_with fail
  refine hc.mono ?_
  clear hc
  rintro e w1 ⟨R, rfl, hR, hb⟩
  have HR := Lib.hid hR
  clear hR
  have HB1 := Lib.hid (HB0.out.trans (hb.mono HB0.out.size))
  have HA1 := Lib.hid (HA0.out.on hb)
  clear hb HB0 HA0 
  cases R with
  | false =>
    go_wp2_with fail
    refine (awake_true _).mono ?_
    rintro e w9 ⟨rfl, hb9⟩
    have HB9 := Lib.hid (HB1.out.trans (hb9.mono HB1.out.size))
    clear hb9
    go_wp2
    go_ret
    exact ⟨rfl, HB9.out⟩
  | true =>
  have hl60 : nl ≤ 60 := HR.out rfl
  clear HR
  have hc := dall_any A ca l w1 HA1.out.see.1 HLM.out
  rw [← HLA.out] at hc
  cases hall : l.all rightN with
  | false =>
    rw [hall] at hc
    go_wp2_with fail
    refine hc.mono ?_
    clear hc
    rintro e w2 ⟨rfl, hb⟩
    have HB2 := Lib.hid (HB1.out.trans (hb.mono HB1.out.size))
    clear hb
    go_wp2_with fail
    refine (awake_true _).mono ?_
    rintro e w9 ⟨rfl, hb9⟩
    have HB9 := Lib.hid (HB2.out.trans (hb9.mono HB2.out.size))
    clear hb9
    go_wp2
    go_ret
    exact ⟨rfl, HB9.out⟩
  | true =>
  rw [hall] at hc
  have HALL := Lib.hid hall
  have HL60 := Lib.hid hl60
  clear hall hl60
  go_wp2_with fail
  refine hc.mono ?_
  clear hc
  rintro e w2 ⟨rfl, hb⟩
  have HB2 := Lib.hid (HB1.out.trans (hb.mono HB1.out.size))
  have HA2 := Lib.hid (HA1.out.on hb)
  clear hb HB1 HA1 
  obtain ⟨P, hP⟩ : ∃ P, P = foldOne [] l := ⟨_, rfl⟩
  have HP := Lib.hid hP
  have hc := tapply_any _ _ [] l 0 0 w2 (tree_none w2) HA2.out (by rw [← HLA.out]; have := HL60.out; omega)
  rw [(right_app HALL.out []).1, (right_app HALL.out []).2, ← hP] at hc
  clear hP
  go_wp2_with fail
  refine (hc).mono ?_
  clear  hc
  rintro e w3 ⟨v3, rfl, ht, hb⟩
  have HT3 := Lib.hid ht
  clear ht
  have HB3 := Lib.hid (HB2.out.trans (hb.mono HB2.out.size))
  have HA3 := Lib.hid (HA2.out.on hb)
  clear hb HB2 HA2 
  obtain ⟨lo1, ka1, kn1, kc1, na1, nn1, nc1, pa1, pn1, pc1, rfl⟩ := tree_shape HT3.out
  obtain ⟨w4, hw2⟩ : ∃ wz, wz = w3.alloc (.cells #[.string lo1, .slice ka1 kn1 kc1, .slice na1 nn1 nc1, .slice pa1 pn1 pc1] 32) := ⟨_, rfl⟩
  obtain ⟨g1, hg2⟩ : ∃ gz, gz = w3.heap.size := ⟨_, rfl⟩
  have hb2 : Below w3.heap.size w3 w4 := by rw [hw2]; exact (Below.refl _ _).alloc (Nat.le_refl _) _
  have BX4 := Lib.hid (show TBox w4 g1 ⟨lo1, ⟨ka1, kn1, kc1⟩, ⟨na1, nn1, nc1⟩, ⟨pa1, pn1, pc1⟩⟩ from by rw [hw2]; exact Box.at_ w3 _ _ hg2)
  have HB4 := Lib.hid (HB3.out.trans (hb2.mono HB3.out.size))
  have HA4 := Lib.hid (HA3.out.on hb2)
  have HT4 := Lib.hid (HT3.out.on hb2)
  clear hb2 HB3 HA3 HT3 
  go_upto_region 4 with fail
  rw [← hg2, ← hw2]
  clear hg2 hw2
  obtain ⟨w5, hw5⟩ : ∃ wz, wz = w4.alloc (.cells #[.string noB, .slice none 0 0, .slice none 0 0, .slice none 0 0] 32) := ⟨_, rfl⟩
  obtain ⟨g7, hg7⟩ : ∃ gz, gz = w4.heap.size := ⟨_, rfl⟩
  have hb5 : Below w4.heap.size w4 w5 := by rw [hw5]; exact (Below.refl _ _).alloc (Nat.le_refl _) _
  have TB5 := Lib.hid (show TBox w5 g7 ⟨noB, nilS, nilS, nilS⟩ from by rw [hw5]; exact Box.at_ w4 _ _ hg7)
  have TS5 := Lib.hid (show TreeS w5 (Off g7 w5) (Nr.v ⟨noB, nilS, nilS, nilS⟩) (foldOne [] (l.take 0)) 0 (100 * 0) from TreeV.off (tree_none w4) hb5 (by omega))
  have HG7 := Lib.hid (show w4.heap.size ≤ g7 from by omega)
  have HB5 := Lib.hid hb5
  clear hb5
  go_upto_region 5 with fail
  rw [← hg7, ← hw5]
  clear hg7 hw5
  go_wp2
  go_loopw [34] (fun vi wr => ∃ (i : Nat) (r : Nr), vi = .int .i64 i ∧ i ≤ nl ∧ Hid (TBox wr g7 r) ∧ Hid (TreeS wr (Off g7 wr) r.v (foldOne [] (l.take i)) i (100 * i)) ∧ Below w4.heap.size w4 wr) (fun vi _ => (nl - intOf vi).toNat)
  case atStart => exact ⟨0, _, rfl, by omega, TB5, TS5, HB5.out⟩
  case round =>
    clear TB5 TS5 HB5
    obtain ⟨i, r, rfl, hin, HBX, HTS, hbr⟩ := hrel
    obtain ⟨lo7, ⟨ka7, kn7, kc7⟩, ⟨na7, nn7, nc7⟩, ⟨pa7, pn7, pc7⟩⟩ := r
    by_cases hlt : i < nl
    · have hil : i < l.length := by rw [← HLA.out]; exact hlt
      have hln := HL60.out
      obtain ⟨ad, rfl, hab, hca⟩ := HA4.out.see.1.seeN (by omega)
      obtain ⟨c0, c1, c2, c3⟩ := hca i hil
      obtain ⟨x, hx⟩ : ∃ x, x = l[i]'hil := ⟨_, rfl⟩
      have HX := Lib.hid (show foldOne [] (l.take (i + 1)) = foldOne (foldOne [] (l.take i)) [x] ∧ [x].all rightN = true from by
        rw [List.take_succ_eq_append_getElem hil, foldOne_append, ← hx]
        refine ⟨rfl, ?_⟩
        rw [List.all_cons, List.all_nil, Bool.and_true, hx]
        exact List.all_eq_true.1 HALL.out _ (List.getElem_mem hil))
      rw [← hx] at c0 c1 c2 c3
      clear hx hca
      obtain ⟨xk, xe, xv, xn⟩ := x
      simp only at c0 c1 c2 c3
      replace c0 := (hbr.cell (lt_of_cell c0)).trans c0
      replace c1 := (hbr.cell (lt_of_cell c1)).trans c1
      replace c2 := (hbr.cell (lt_of_cell c2)).trans c2
      replace c3 := (hbr.cell (lt_of_cell c3)).trans c3
      obtain ⟨w6, hw6⟩ : ∃ wz, wz = wr.alloc (.cells #[.int .i64 xk, .string xe, .string xv, .int .u64 (xn.toNat : Int)] 52) := ⟨_, rfl⟩
      obtain ⟨g9, hg9⟩ : ∃ gz, gz = wr.heap.size := ⟨_, rfl⟩
      have hb6 : Below wr.heap.size wr w6 := by rw [hw6]; exact (Below.refl _ _).alloc (Nat.le_refl _) _
      have HX6 := Lib.hid (show NBlk w6 g9 ⟨xk, xe, xv, xn⟩ from by rw [hw6]; exact NBlk.fresh wr ⟨xk, xe, xv, xn⟩ hg9)
      have HB6 := Lib.hid (hbr.trans (hb6.mono hbr.size))
      have TB6 := Lib.hid (HBX.out.on hb6)
      have TS6 := Lib.hid (HTS.out.off hb6)
      go_upto_region 8 with fail
      rw [← hg9, ← hw6]
      clear hg9 hw6 hb6 hbr HBX HTS c0 c1 c2 c3
      obtain ⟨b0, b1, b2, b3⟩ := TBox.cells TB6.out
      obtain ⟨d0, d1, d2, d3⟩ := NBlk.cells HX6.out
      simp only at b0 b1 b2 b3 d0 d1 d2 d3
      obtain ⟨w7, hw7⟩ : ∃ wz, wz = w6.alloc (.cells #[.int .i64 xk, .string xe, .string xv, .int .u64 (xn.toNat : Int)] 52) := ⟨_, rfl⟩
      obtain ⟨g8, hg8⟩ : ∃ gz, gz = w6.heap.size := ⟨_, rfl⟩
      have hb7 : Below w6.heap.size w6 w7 := by rw [hw7]; exact (Below.refl _ _).alloc (Nat.le_refl _) _
      have hnv : NV w7 (.slice (some ⟨g8, 0, none⟩) 1 1) [⟨xk, xe, xv, xn⟩] := by rw [hw7]; exact NV.lit hg8 rfl rfl
      have HG77 := Lib.hid (show g7 < w7.heap.size from by have := Box.lt TB6.out; have := hb7.size; omega)
      have hc := tapply_s (Off g7 w7) _ _ _ [⟨xk, xe, xv, xn⟩] _ _ w7 (off_und _ _) (TS6.out.off hb7) hnv (by simp; omega)
      rw [(right_app HX.out.2 (foldOne [] (l.take i))).1, (right_app HX.out.2 (foldOne [] (l.take i))).2, ← HX.out.1] at hc
      replace hc : Calls Try.prog 11 #[.agg #[.string lo7, .slice ka7 kn7 kc7, .slice na7 nn7 nc7, .slice pa7 pn7 pc7], .slice (some ⟨g8, 0, none⟩) 1 1] w7 fun e w' => ∃ v', e = .returned (.tuple #[v', .int .i64 0]) ∧ TreeS w' (Gr (Off g7 w7) w7 w') v' (foldOne [] (l.take (i + 1))) (i + 1) (100 * i + i + 1) ∧ Below w7.heap.size w7 w' := hc
      have TB7 := Lib.hid (TB6.out.on hb7)
      have HB7 := Lib.hid (HB6.out.trans (hb7.mono HB6.out.size))
      clear hnv hb7
      go_wp2_with fail
      rw [← hg8, ← hw7]
      refine hc.mono ?_
      clear hc hg8 hw7 b0 b1 b2 b3 d0 d1 d2 d3
      rintro e w8 ⟨v8, rfl, ht8, hb8⟩
      obtain ⟨lo8, ka8, kn8, kc8, na8, nn8, nc8, pa8, pn8, pc8, rfl⟩ := tree_shape (ht8.tv (und_gr ((off_und g7 w7).on hb8)))
      have TS8 := ht8.gr HG77.out hb8.size
      have TB8 := Lib.hid (TB7.out.on hb8)
      have HB8 := Lib.hid (HB7.out.trans (hb8.mono HB7.out.size))
      obtain ⟨w9, hw9⟩ : ∃ wz, wz = w8.alloc (.cells #[.string lo8, .slice ka8 kn8 kc8, .slice na8 nn8 nc8, .slice pa8 pn8 pc8] 32) := ⟨_, rfl⟩
      obtain ⟨g10, hg10⟩ : ∃ gz, gz = w8.heap.size := ⟨_, rfl⟩
      have hb9 : Below w8.heap.size w8 w9 := by rw [hw9]; exact (Below.refl _ _).alloc (Nat.le_refl _) _
      have TS9 := Lib.hid (TS8.off hb9)
      have TB9 := Lib.hid (TB8.out.on hb9)
      have HB9 := Lib.hid (HB8.out.trans (hb9.mono HB8.out.size))
      have TX9 := Lib.hid (show TBox w9 g10 ⟨lo8, ⟨ka8, kn8, kc8⟩, ⟨na8, nn8, nc8⟩, ⟨pa8, pn8, pc8⟩⟩ from by rw [hw9]; exact Box.at_ w8 _ _ hg10)
      clear ht8 TS8 hb8 hb9
      go_upto_region 9 with fail
      rw [← hg10, ← hw9]
      clear hg10 hw9
      obtain ⟨b0, b1, b2, b3⟩ := TBox.cells TX9.out
      simp only at b0 b1 b2 b3
      have f0 := Box.free TB9.out 0
      have f1 := Box.free TB9.out 1
      have f2 := Box.free TB9.out 2
      have f3 := Box.free TB9.out 3
      obtain ⟨k0, k1, k2, k3⟩ := TBox.cells (r := ⟨lo7, ⟨ka7, kn7, kc7⟩, ⟨na7, nn7, nc7⟩, ⟨pa7, pn7, pc7⟩⟩) TB9.out
      simp only at k0 k1 k2 k3
      obtain ⟨wx, hx⟩ : ∃ wx, wx = ((((w9.setCell ⟨g7, 0, none⟩ (.string lo8)).setCell ⟨g7, 1, none⟩ (.slice ka8 kn8 kc8)).setCell ⟨g7, 2, none⟩ (.slice na8 nn8 nc8)).setCell ⟨g7, 3, none⟩ (.slice pa8 pn8 pc8)) := ⟨_, rfl⟩
      have HQX := Lib.hid (show TBox wx g7 ⟨lo8, ⟨ka8, kn8, kc8⟩, ⟨na8, nn8, nc8⟩, ⟨pa8, pn8, pc8⟩⟩ from by rw [hx]; exact NdB.put (r := ⟨lo7, ⟨ka7, kn7, kc7⟩, ⟨na7, nn7, nc7⟩, ⟨pa7, pn7, pc7⟩⟩) TB9.out ⟨lo8, ⟨ka8, kn8, kc8⟩, ⟨na8, nn8, nc8⟩, ⟨pa8, pn8, pc8⟩⟩)
      have HQT := Lib.hid (show TreeS wx (Off g7 wx) (Nr.v ⟨lo8, ⟨ka8, kn8, kc8⟩, ⟨na8, nn8, nc8⟩, ⟨pa8, pn8, pc8⟩⟩) (foldOne [] (l.take (i + 1))) (i + 1) (100 * (i + 1)) from by rw [hx]; exact (TS9.out.put _ _ _ _).more (Nat.le_refl _) (by omega))
      have HQB := Lib.hid (show Below w4.heap.size w4 wx from by rw [hx]; exact below_put HB9.out HG7.out _ _ _ _)
      clear TS9 HB9 TX9
      go_wp2
      go_roundw
      case rel => rw [← hx]; exact ⟨i + 1, _, by first | rfl | go_num, by omega, HQX, HQT, HQB.out⟩
      case measure => simp [intOf]; omega
    · skip
      have hln := HL60.out
      have hdl : decide ((i : Int) < (nl : Int)) = false := by simp; omega
      have HBr := Lib.hid (HB4.out.trans (hbr.mono HB4.out.size))
      have HAr := Lib.hid (HA4.out.on hbr)
      have HTr := Lib.hid (HT4.out.on hbr)
      have BXr := Lib.hid (show TBox wr g1 ⟨lo1, ⟨ka1, kn1, kc1⟩, ⟨na1, nn1, nc1⟩, ⟨pa1, pn1, pc1⟩⟩ from BX4.out.on hbr)
      have BYr := HBX
      have HUr := Lib.hid (show TreeV wr (.agg #[.string lo7, .slice ka7 kn7 kc7, .slice na7 nn7 nc7, .slice pa7 pn7 pc7]) P i (100 * i) from by
        have h := HTS.out.v
        rw [List.take_of_length_le (by rw [← HLA.out]; omega), ← HP.out] at h
        exact h)
      have HIL := Lib.hid (show i ≤ 60 by omega)
      clear hbr HBX HTS HB4 HA4 HT4 BX4
      obtain ⟨k, hk⟩ : ∃ k, k = cut % (nl + 1) := ⟨_, rfl⟩
      have hkn : k ≤ nl := by have := Nat.mod_lt cut (show 0 < nl + 1 by omega); omega
      have hrem : ((cut : Int)).tmod ((nl : Int) + 1) = (k : Int) := by
        have e : ((nl : Int) + 1) = ((nl + 1 : Nat) : Int) := by omega
        rw [e, hk]
        rfl
      have HK1 := Lib.hid (show (l.take k).length = k ∧ (l.drop k).length = nl - k from ⟨by rw [List.length_take, ← HLA.out]; omega, by rw [List.length_drop, ← HLA.out]⟩)
      have HKR := Lib.hid (show (l.take k).all rightN = true ∧ (l.drop k).all rightN = true from
        ⟨List.all_eq_true.2 fun x hx => List.all_eq_true.1 HALL.out x (List.mem_of_mem_take hx), List.all_eq_true.2 fun x hx => List.all_eq_true.1 HALL.out x (List.mem_of_mem_drop hx)⟩)
      obtain ⟨P1, hP1⟩ : ∃ P1, P1 = foldOne [] (l.take k) := ⟨_, rfl⟩
      have HP1 := Lib.hid (show foldOne P1 (l.drop k) = P from by rw [hP1, ← foldOne_append, List.take_append_drop]; exact HP.out.symm)
      have HP0 := Lib.hid hP1
      clear hk hP1
      have hsee := HAr.out.see
      rcases A with _ | ad
      · skip
        have hca := hsee.2.2.2 rfl
        have hn0 : nl = 0 := by have := hsee.2.2.1; have := HLA.out; omega
        have hk0 : k = 0 := by omega
        subst hca hn0 hk0
        have HLOr := Lib.hid (show NV wr (.slice none 0 0) (l.take 0) from NV.nil wr)
        have HHIr := Lib.hid (show NV wr (.slice none 0 0) (l.drop 0) from by rw [List.length_eq_zero_iff.1 HLA.out.symm]; exact NV.nil wr)
        clear hsee
        have hc := tapply_any _ _ [] (l.take 0) 0 0 wr (tree_none wr) HLOr.out (by rw [HK1.out.1]; have := HL60.out; omega)
        rw [(right_app HKR.out.1 []).1, (right_app HKR.out.1 []).2, ← HP0.out] at hc
        go_wp2_with fail
        refine (hc).mono ?_
        clear  hc
        rintro e w11 ⟨v11, rfl, ht, hb⟩
        have HV11 := Lib.hid ht
        clear ht
        have HB11 := Lib.hid (HBr.out.trans (hb.mono HBr.out.size))
        have HA11 := Lib.hid (HAr.out.on hb)
        have HT11 := Lib.hid (HTr.out.on hb)
        have BX11 := Lib.hid (show TBox w11 g1 ⟨lo1, ⟨ka1, kn1, kc1⟩, ⟨na1, nn1, nc1⟩, ⟨pa1, pn1, pc1⟩⟩ from BXr.out.on hb)
        have BY11 := Lib.hid (show TBox w11 g7 ⟨lo7, ⟨ka7, kn7, kc7⟩, ⟨na7, nn7, nc7⟩, ⟨pa7, pn7, pc7⟩⟩ from BYr.out.on hb)
        have HU11 := Lib.hid (HUr.out.on hb)
        have HLO11 := Lib.hid (HLOr.out.on hb)
        have HHI11 := Lib.hid (HHIr.out.on hb)
        clear hb HBr HAr HTr BXr BYr HUr HLOr HHIr 
        clear HLO11
        obtain ⟨lo3, ka3, kn3, kc3, na3, nn3, nc3, pa3, pn3, pc3, rfl⟩ := tree_shape HV11.out
        obtain ⟨w12, hw12⟩ : ∃ wz, wz = w11.alloc (.cells #[.string lo3, .slice ka3 kn3 kc3, .slice na3 nn3 nc3, .slice pa3 pn3 pc3] 32) := ⟨_, rfl⟩
        obtain ⟨g13, hg13⟩ : ∃ gz, gz = w11.heap.size := ⟨_, rfl⟩
        have hb12 : Below w11.heap.size w11 w12 := by rw [hw12]; exact (Below.refl _ _).alloc (Nat.le_refl _) _
        have BZ12 := Lib.hid (show TBox w12 g13 ⟨lo3, ⟨ka3, kn3, kc3⟩, ⟨na3, nn3, nc3⟩, ⟨pa3, pn3, pc3⟩⟩ from by rw [hw12]; exact Box.at_ w11 _ _ hg13)
        have HV12 := Lib.hid (TreeV.off HV11.out hb12 (show w11.heap.size ≤ g13 by omega))
        have HI12 := Lib.hid (HHI11.out.on hb12)
        have HB12 := Lib.hid hb12
        have HG13 := Lib.hid (show w11.heap.size ≤ g13 from by omega)
        clear hb12
        go_upto_region 15 with fail
        rw [← hg13, ← hw12]
        clear hg13 hw12
        have HC3 := Lib.hid (show ∀ wx, Below w12.heap.size w12 wx → _ from fun wx h => TBox.cells (r := ⟨lo3, ⟨ka3, kn3, kc3⟩, ⟨na3, nn3, nc3⟩, ⟨pa3, pn3, pc3⟩⟩) (BZ12.out.on h))
        simp only at HC3
        have HAP := Lib.hid (show ∀ wx, Below w12.heap.size w12 wx → Calls Try.prog 11 #[.agg #[.string lo3, .slice ka3 kn3 kc3, .slice na3 nn3 nc3, .slice pa3 pn3 pc3], .slice none 0 0] wx fun e w' => ∃ r : Nr, e = .returned (.tuple #[r.v, .int .i64 0]) ∧ TreeS w' (Off g13 w') r.v P 60 1000 ∧ Below wx.heap.size wx w' from fun wx h => by
          have hg : g13 < wx.heap.size := by have := Box.lt BZ12.out; have := h.size; omega
          have h1 := tapply_s (Off g13 wx) _ _ _ (l.drop 0) _ _ wx (off_und _ _) (HV12.out.off h) (HI12.out.on h) (by rw [HK1.out.1, HK1.out.2]; have := HL60.out; omega)
          rw [(right_app HKR.out.2 P1).1, (right_app HKR.out.2 P1).2, HP1.out] at h1
          refine h1.mono ?_
          rintro e w' ⟨v', rfl, ht, hb⟩
          obtain ⟨hh, r, t, rfl, ht2⟩ := (ht.gr hg hb.size).more (M' := 60) (H' := 1000) (by rw [HK1.out.1, HK1.out.2]; have := HL60.out; omega) (by rw [HK1.out.1, HK1.out.2]; have := HL60.out; omega)
          exact ⟨r, rfl, ⟨hh, r, t, rfl, ht2⟩, hb⟩)
        refine wp_region_phase 10 [64, 65, 66, 67, 68, 63, 69, 70] (by kernel_rfl) [8] [] (fun _ _ => True) 1 rfl (by kernel_rfl) (OneS w11 w12 g13 P) (fun wa wb => Below wa.heap.size wa wb) (OneV (.agg #[.string lo3, .slice ka3 kn3 kc3, .slice na3 nn3 nc3, .slice pa3 pn3 pc3]) (.slice none 0 0) (.int .i64 0) (.slice none 0 0) g13 P) (by kernel_rfl) (fun _ wa wb h1 h2 => h2.on h1) (fun _ t v wa wb h1 h2 => h2.on h1) (fun _ _ _ _ _ _ _ => trivial) ⟨fun _ => (Below.refl _ _).drew, fun h => absurd h (by decide)⟩ trivial (phase1 ?_ ?_) ?_
        · skip
          refine Steps1.cons (fun _ ax wx hS hJ hG => ?_) (Steps1.cons (fun _ ax wx hS hJ hG => ?_) (Steps1.cons (fun _ ax wx hS hJ hG => ?_) (Steps1.cons (fun _ ax wx hS hJ hG => ?_) (Steps1.cons (fun _ ax wx hS hJ hG => ?_) (Steps1.cons (fun _ ax wx hS hJ hG => ?_) (Steps1.cons (fun _ ax wx hS hJ hG => ?_) (Steps1.cons (fun _ ax wx hS hJ hG => ?_) (Steps1.cons (fun _ ax wx hS hJ hG => ?_) Steps1.nil))))))))
          · have q13 := hG.old 13 (by kernel_rfl) (by kernel_rfl)
            obtain ⟨z0, z1, z2, z3⟩ := HC3.out wx (hS.1 rfl)
            refine step_slot rfl rfl rfl (step_value (v := .agg #[.string lo3, .slice ka3 kn3 kc3, .slice na3 nn3 nc3, .slice pa3 pn3 pc3]) (w' := wx) rfl rfl ?_ (Below.refl _ _) (fun d hd => by cases hd; exact rfl))
            go_simp
          · have q0 := hG.old 0 (by kernel_rfl) (by kernel_rfl)
            refine step_slot rfl rfl rfl (step_value (v := .slice none 0 0) (w' := wx) rfl rfl ?_ (Below.refl _ _) (fun d hd => by cases hd; exact rfl))
            go_simp
          · have q12 := hG.old 12 (by kernel_rfl) (by kernel_rfl)
            refine step_slot rfl rfl rfl (step_value (v := .int .i64 0) (w' := wx) rfl rfl ?_ (Below.refl _ _) (fun d hd => by cases hd; exact rfl))
            go_simp
          · obtain ⟨_, q65, rfl⟩ := hG.new 65 (by kernel_rfl) (by kernel_rfl)
            obtain ⟨_, q66, rfl⟩ := hG.new 66 (by kernel_rfl) (by kernel_rfl)
            refine step_slot rfl rfl rfl (step_value (v := .slice none 0 0) (w' := wx) rfl rfl ?_ (Below.refl _ _) (fun d hd => by cases hd; exact rfl))
            go_simp
          · obtain ⟨_, q64, rfl⟩ := hG.new 64 (by kernel_rfl) (by kernel_rfl)
            obtain ⟨_, q67, rfl⟩ := hG.new 67 (by kernel_rfl) (by kernel_rfl)
            refine step_slot rfl rfl rfl (step_call (w1 := wx) (f := 11) (args := #[.agg #[.string lo3, .slice ka3 kn3 kc3, .slice na3 nn3 nc3, .slice pa3 pn3 pc3], .slice none 0 0]) rfl rfl ?_ ((HAP.out wx (hS.1 rfl)).mono ?_))
            · skip
              go_simp
            · rintro e w' ⟨r, rfl, hv, hq⟩
              exact ⟨_, rfl, hq, fun d hd => by cases hd; exact ⟨r, rfl, fun _ => hv⟩⟩
          · obtain ⟨v68, q68, h68⟩ := hG.new 68 (by kernel_rfl) (by kernel_rfl)
            have h68b : ∃ r : Nr, v68 = .tuple #[r.v, .int .i64 0] ∧ (0 = 0 → TreeS wx (Off g13 wx) r.v P 60 1000) := h68
            obtain ⟨r, rfl, h0⟩ := h68b
            refine step_slot rfl rfl rfl (step_value (v := .tuple #[r.v, .int .i64 0]) (w' := wx) rfl rfl ?_ (Below.refl _ _) (fun d hd => by cases hd; exact ⟨r, rfl, h0⟩))
            clear h0 h68
            go_simp
          · obtain ⟨v63, q63, h63⟩ := hG.new 63 (by kernel_rfl) (by kernel_rfl)
            have h63b : ∃ r : Nr, v63 = .tuple #[r.v, .int .i64 0] ∧ (0 = 0 → TreeS wx (Off g13 wx) r.v P 60 1000) := h63
            obtain ⟨r, rfl, h0⟩ := h63b
            refine step_slot rfl rfl rfl (step_value (v := r.v) (w' := wx) rfl rfl ?_ (Below.refl _ _) (fun d hd => by cases hd; exact fun e => ⟨r, rfl, h0 e⟩))
            clear h0 h63
            go_simp
          · obtain ⟨v63, q63, h63⟩ := hG.new 63 (by kernel_rfl) (by kernel_rfl)
            have h63b : ∃ r : Nr, v63 = .tuple #[r.v, .int .i64 0] ∧ (0 = 0 → TreeS wx (Off g13 wx) r.v P 60 1000) := h63
            obtain ⟨r, rfl, h0⟩ := h63b
            refine step_slot rfl rfl rfl (step_value (v := .int .i64 0) (w' := wx) rfl rfl ?_ (Below.refl _ _) (fun d hd => by cases hd; exact rfl))
            clear h0 h63
            go_simp
          · have q13 := hG.old 13 (by kernel_rfl) (by kernel_rfl)
            obtain ⟨v69, q69, h69⟩ := hG.new 69 (by kernel_rfl) (by kernel_rfl)
            obtain ⟨r, rfl, h0⟩ := (show 0 = 0 → ∃ r : Nr, v69 = r.v ∧ TreeS wx (Off g13 wx) r.v P 60 1000 from h69) rfl
            obtain ⟨lo4, ⟨ka4, kn4, kc4⟩, ⟨na4, nn4, nc4⟩, ⟨pa4, pn4, pc4⟩⟩ := r
            have HZ := Lib.hid (show TBox wx g13 ⟨lo3, ⟨ka3, kn3, kc3⟩, ⟨na3, nn3, nc3⟩, ⟨pa3, pn3, pc3⟩⟩ from BZ12.out.on (hS.1 rfl))
            have HBZ := Lib.hid (HB12.out.trans ((hS.1 rfl).mono HB12.out.size))
            have H0 := Lib.hid h0
            have f0 := Box.free HZ.out 0
            have f1 := Box.free HZ.out 1
            have f2 := Box.free HZ.out 2
            have f3 := Box.free HZ.out 3
            obtain ⟨k0, k1, k2, k3⟩ := TBox.cells HZ.out
            simp only at k0 k1 k2 k3
            unfold Nr.v at q69
            simp only at q69
            refine step_store (w' := ((((wx.setCell ⟨g13, 0, none⟩ (.string lo4)).setCell ⟨g13, 1, none⟩ (.slice ka4 kn4 kc4)).setCell ⟨g13, 2, none⟩ (.slice na4 nn4 nc4)).setCell ⟨g13, 3, none⟩ (.slice pa4 pn4 pc4))) rfl rfl rfl rfl ?_ ⟨fun h => absurd h (by decide), fun _ => ⟨below_put HBZ.out HG13.out _ _ _ _, ⟨lo4, ⟨ka4, kn4, kc4⟩, ⟨na4, nn4, nc4⟩, ⟨pa4, pn4, pc4⟩⟩, NdB.put (r := ⟨lo3, ⟨ka3, kn3, kc3⟩, ⟨na3, nn3, nc3⟩, ⟨pa3, pn3, pc3⟩⟩) HZ.out ⟨lo4, ⟨ka4, kn4, kc4⟩, ⟨na4, nn4, nc4⟩, ⟨pa4, pn4, pc4⟩⟩, H0.out.put _ _ _ _⟩⟩ trivial ?_
            · clear h0 h69 hS
              go_simp
            · intro t u _ hu hV
              unfold OneV at hV ⊢
              split at hV
              · exact hV
              · exact hV
              · exact hV
              · exact hV
              · obtain ⟨r, e, _⟩ := hV
                exact ⟨r, e, fun h => absurd h (by decide)⟩
              · obtain ⟨r, e, _⟩ := hV
                exact ⟨r, e, fun h => absurd h (by decide)⟩
              · exact fun h => absurd h (by decide)
              · exact hV
              · trivial
        · skip
          refine Steps1.cons (fun hin _ _ _ _ _ => out (by kernel_rfl) hin) (Steps1.cons (fun hin _ _ _ _ _ => out (by kernel_rfl) hin) (Steps1.cons (fun hin _ _ _ _ _ => out (by kernel_rfl) hin) (Steps1.cons (fun hin _ _ _ _ _ => out (by kernel_rfl) hin) (Steps1.cons (fun hin _ _ _ _ _ => out (by kernel_rfl) hin) (Steps1.cons (fun hin _ _ _ _ _ => out (by kernel_rfl) hin) (Steps1.cons (fun hin _ _ _ _ _ => out (by kernel_rfl) hin) (Steps1.cons (fun _ ax wx hS hJ hG => ?_) (Steps1.cons (fun hin _ _ _ _ _ => out (by kernel_rfl) hin) Steps1.nil))))))))
          · obtain ⟨v63, q63, h63⟩ := hG.new 63 (by kernel_rfl) (by kernel_rfl)
            have h63b : ∃ r : Nr, v63 = .tuple #[r.v, .int .i64 0] ∧ (1 = 0 → TreeS wx (Off g13 wx) r.v P 60 1000) := h63
            obtain ⟨r, rfl, h0⟩ := h63b
            refine step_slot rfl rfl rfl (step_value (v := .int .i64 0) (w' := wx) rfl rfl ?_ (Below.refl _ _) (fun d hd => by cases hd; exact rfl))
            clear h0 h63
            go_simp
        intro gg wa hSa _ hVa
        simp only [puts, Act.put, List.setIfInBounds_toArray, List.set_cons_succ, List.set_cons_zero]
        clear hVa
        generalize gg 64 = f64 at *
        generalize gg 65 = f65 at *
        generalize gg 66 = f66 at *
        generalize gg 67 = f67 at *
        generalize gg 68 = f68 at *
        generalize gg 63 = f63 at *
        generalize gg 69 = f69 at *
        generalize gg 70 = f70 at *
        obtain ⟨hb, ⟨lo4, ⟨ka4, kn4, kc4⟩, ⟨na4, nn4, nc4⟩, ⟨pa4, pn4, pc4⟩⟩, hbz, hts⟩ := hSa.2 rfl
        have BZa := Lib.hid hbz
        have HWa := Lib.hid (show TreeV wa (.agg #[.string lo4, .slice ka4 kn4 kc4, .slice na4 nn4 nc4, .slice pa4 pn4 pc4]) P 60 1000 from hts.v)
        obtain ⟨w13, hw13⟩ : ∃ wz, wz = wa := ⟨_, rfl⟩
        rw [← hw13] at hb BZa HWa ⊢
        clear hw13 hSa hbz hts HV12 HI12 HB12 BZ12 HC3 HAP
        have HB13 := Lib.hid (HB11.out.trans (hb.mono HB11.out.size))
        have HA13 := Lib.hid (HA11.out.on hb)
        have HT13 := Lib.hid (HT11.out.on hb)
        have BX13 := Lib.hid (show TBox w13 g1 ⟨lo1, ⟨ka1, kn1, kc1⟩, ⟨na1, nn1, nc1⟩, ⟨pa1, pn1, pc1⟩⟩ from BX11.out.on hb)
        have BY13 := Lib.hid (show TBox w13 g7 ⟨lo7, ⟨ka7, kn7, kc7⟩, ⟨na7, nn7, nc7⟩, ⟨pa7, pn7, pc7⟩⟩ from BY11.out.on hb)
        have HU13 := Lib.hid (HU11.out.on hb)
        have HHI13 := Lib.hid (HHI11.out.on hb)
        have HV13 := Lib.hid (HV11.out.on hb)
        clear hb HB11 HA11 HT11 BX11 BY11 HU11 HHI11 HV11 
        have BZ13 := BZa
        have HW13 := HWa
        clear BZa HWa
        obtain ⟨w14, hw14⟩ : ∃ wz, wz = w13.alloc (.cells #[.string noB, .string noB, .bool true] 24) := ⟨_, rfl⟩
        obtain ⟨g15, hg15⟩ : ∃ gz, gz = w13.heap.size := ⟨_, rfl⟩
        have hb14 : Below w13.heap.size w13 w14 := by rw [hw14]; exact (Below.refl _ _).alloc (Nat.le_refl _) _
        have RXa := Lib.hid (show RBlk w14 g15 ⟨noB, noB, true⟩ from by rw [hw14]; exact Box.at_ w13 _ _ hg15)
        have HB14 := Lib.hid (HB13.out.trans (hb14.mono HB13.out.size))
        have HA14 := Lib.hid (HA13.out.on hb14)
        have HT14 := Lib.hid (HT13.out.on hb14)
        have BX14 := Lib.hid (show TBox w14 g1 ⟨lo1, ⟨ka1, kn1, kc1⟩, ⟨na1, nn1, nc1⟩, ⟨pa1, pn1, pc1⟩⟩ from BX13.out.on hb14)
        have BY14 := Lib.hid (show TBox w14 g7 ⟨lo7, ⟨ka7, kn7, kc7⟩, ⟨na7, nn7, nc7⟩, ⟨pa7, pn7, pc7⟩⟩ from BY13.out.on hb14)
        have HU14 := Lib.hid (HU13.out.on hb14)
        have HHI14 := Lib.hid (HHI13.out.on hb14)
        have HV14 := Lib.hid (HV13.out.on hb14)
        have BZ14 := Lib.hid (show TBox w14 g13 ⟨lo4, ⟨ka4, kn4, kc4⟩, ⟨na4, nn4, nc4⟩, ⟨pa4, pn4, pc4⟩⟩ from BZ13.out.on hb14)
        have HW14 := Lib.hid (HW13.out.on hb14)
        clear hb14 HB13 HA13 HT13 BX13 BY13 HU13 HHI13 HV13 BZ13 HW13 
        go_upto_region 17 with fail
        rw [← hg15, ← hw14]
        clear hg15 hw14
        have RX14 := RXa
        clear RXa
        have HPL := Lib.hid (show P.length ≤ 60 by have h1 := (tree_len HT14.out).1; rw [← HLA.out] at h1; have := HL60.out; omega)
        skip
        have hc : Calls Try.prog 17 #[.agg #[.string lo1, .slice ka1 kn1 kc1, .slice na1 nn1 nc1, .slice pa1 pn1 pc1], .agg #[.string noB, .string noB, .bool true]] w14 fun e w' => ∃ v', e = .returned v' ∧ PV w' v' P ∧ Below w14.heap.size w14 w' := by
          have h1 := tscan_any _ _ _ _ ⟨noS, noS, true⟩ w14 HT14.out (by rw [← HLA.out]; have := HL60.out; omega)
          rw [pick_all] at h1
          exact h1
        obtain ⟨b0, b1, b2, b3⟩ := TBox.cells BX14.out
        obtain ⟨r0, r1, r2⟩ := RBlk.cells RX14.out
        simp only at b0 b1 b2 b3 r0 r1 r2
        go_wp2_with fail
        refine hc.mono ?_
        clear hc b0 b1 b2 b3 r0 r1 r2
        rintro e w15 ⟨v15, rfl, hv, hb⟩
        have HX15 := Lib.hid hv
        clear hv
        have HB15 := Lib.hid (HB14.out.trans (hb.mono HB14.out.size))
        have HA15 := Lib.hid (HA14.out.on hb)
        have HT15 := Lib.hid (HT14.out.on hb)
        have BX15 := Lib.hid (show TBox w15 g1 ⟨lo1, ⟨ka1, kn1, kc1⟩, ⟨na1, nn1, nc1⟩, ⟨pa1, pn1, pc1⟩⟩ from BX14.out.on hb)
        have BY15 := Lib.hid (show TBox w15 g7 ⟨lo7, ⟨ka7, kn7, kc7⟩, ⟨na7, nn7, nc7⟩, ⟨pa7, pn7, pc7⟩⟩ from BY14.out.on hb)
        have HU15 := Lib.hid (HU14.out.on hb)
        have HHI15 := Lib.hid (HHI14.out.on hb)
        have HV15 := Lib.hid (HV14.out.on hb)
        have BZ15 := Lib.hid (show TBox w15 g13 ⟨lo4, ⟨ka4, kn4, kc4⟩, ⟨na4, nn4, nc4⟩, ⟨pa4, pn4, pc4⟩⟩ from BZ14.out.on hb)
        have HW15 := Lib.hid (HW14.out.on hb)
        have RX15 := Lib.hid (show RBlk w15 g15 ⟨noB, noB, true⟩ from cells_of RX14.out hb)
        clear hb HB14 HA14 HT14 BX14 BY14 HU14 HHI14 HV14 BZ14 HW14 RX14 
        have hc : Calls Try.prog 17 #[.agg #[.string lo7, .slice ka7 kn7 kc7, .slice na7 nn7 nc7, .slice pa7 pn7 pc7], .agg #[.string noB, .string noB, .bool true]] w15 fun e w' => ∃ v', e = .returned v' ∧ PV w' v' P ∧ Below w15.heap.size w15 w' := by
          have h1 := tscan_any _ _ _ _ ⟨noS, noS, true⟩ w15 HU15.out (by have := HIL.out; omega)
          rw [pick_all] at h1
          exact h1
        obtain ⟨b0, b1, b2, b3⟩ := TBox.cells BY15.out
        obtain ⟨r0, r1, r2⟩ := RBlk.cells RX15.out
        simp only at b0 b1 b2 b3 r0 r1 r2
        go_wp2_with fail
        refine hc.mono ?_
        clear hc b0 b1 b2 b3 r0 r1 r2
        rintro e w16 ⟨v16, rfl, hv, hb⟩
        have HY16 := Lib.hid hv
        clear hv
        have HB16 := Lib.hid (HB15.out.trans (hb.mono HB15.out.size))
        have HA16 := Lib.hid (HA15.out.on hb)
        have HT16 := Lib.hid (HT15.out.on hb)
        have BX16 := Lib.hid (show TBox w16 g1 ⟨lo1, ⟨ka1, kn1, kc1⟩, ⟨na1, nn1, nc1⟩, ⟨pa1, pn1, pc1⟩⟩ from BX15.out.on hb)
        have BY16 := Lib.hid (show TBox w16 g7 ⟨lo7, ⟨ka7, kn7, kc7⟩, ⟨na7, nn7, nc7⟩, ⟨pa7, pn7, pc7⟩⟩ from BY15.out.on hb)
        have HU16 := Lib.hid (HU15.out.on hb)
        have HHI16 := Lib.hid (HHI15.out.on hb)
        have HV16 := Lib.hid (HV15.out.on hb)
        have BZ16 := Lib.hid (show TBox w16 g13 ⟨lo4, ⟨ka4, kn4, kc4⟩, ⟨na4, nn4, nc4⟩, ⟨pa4, pn4, pc4⟩⟩ from BZ15.out.on hb)
        have HW16 := Lib.hid (HW15.out.on hb)
        have RX16 := Lib.hid (show RBlk w16 g15 ⟨noB, noB, true⟩ from cells_of RX15.out hb)
        have HX16 := Lib.hid (HX15.out.on hb)
        clear hb HB15 HA15 HT15 BX15 BY15 HU15 HHI15 HV15 BZ15 HW15 RX15 HX15 
        have hc := same_v HX16.out HY16.out (by have := HPL.out; unfold maxLen; omega)
        rw [decide_eq_true (rfl : P = P)] at hc
        go_wp2_with fail
        refine (hc).mono ?_
        clear  hc
        rintro e w17 ⟨rfl, hb⟩
        have HB17 := Lib.hid (HB16.out.trans (hb.mono HB16.out.size))
        have HA17 := Lib.hid (HA16.out.on hb)
        have HT17 := Lib.hid (HT16.out.on hb)
        have BX17 := Lib.hid (show TBox w17 g1 ⟨lo1, ⟨ka1, kn1, kc1⟩, ⟨na1, nn1, nc1⟩, ⟨pa1, pn1, pc1⟩⟩ from BX16.out.on hb)
        have BY17 := Lib.hid (show TBox w17 g7 ⟨lo7, ⟨ka7, kn7, kc7⟩, ⟨na7, nn7, nc7⟩, ⟨pa7, pn7, pc7⟩⟩ from BY16.out.on hb)
        have HU17 := Lib.hid (HU16.out.on hb)
        have HHI17 := Lib.hid (HHI16.out.on hb)
        have HV17 := Lib.hid (HV16.out.on hb)
        have BZ17 := Lib.hid (show TBox w17 g13 ⟨lo4, ⟨ka4, kn4, kc4⟩, ⟨na4, nn4, nc4⟩, ⟨pa4, pn4, pc4⟩⟩ from BZ16.out.on hb)
        have HW17 := Lib.hid (HW16.out.on hb)
        have RX17 := Lib.hid (show RBlk w17 g15 ⟨noB, noB, true⟩ from cells_of RX16.out hb)
        have HX17 := Lib.hid (HX16.out.on hb)
        have HY17 := Lib.hid (HY16.out.on hb)
        clear hb HB16 HA16 HT16 BX16 BY16 HU16 HHI16 HV16 BZ16 HW16 RX16 HX16 HY16 
        clear HY17 BY17 HU17
        have hc : Calls Try.prog 17 #[.agg #[.string lo4, .slice ka4 kn4 kc4, .slice na4 nn4 nc4, .slice pa4 pn4 pc4], .agg #[.string noB, .string noB, .bool true]] w17 fun e w' => ∃ v', e = .returned v' ∧ PV w' v' P ∧ Below w17.heap.size w17 w' := by
          have h1 := tscan_any _ _ _ _ ⟨noS, noS, true⟩ w17 HW17.out (by omega)
          rw [pick_all] at h1
          exact h1
        obtain ⟨b0, b1, b2, b3⟩ := TBox.cells BZ17.out
        obtain ⟨r0, r1, r2⟩ := RBlk.cells RX17.out
        simp only at b0 b1 b2 b3 r0 r1 r2
        go_wp2_with fail
        refine hc.mono ?_
        clear hc b0 b1 b2 b3 r0 r1 r2
        rintro e w18 ⟨v18, rfl, hv, hb⟩
        have HZ18 := Lib.hid hv
        clear hv
        have HB18 := Lib.hid (HB17.out.trans (hb.mono HB17.out.size))
        have HA18 := Lib.hid (HA17.out.on hb)
        have HT18 := Lib.hid (HT17.out.on hb)
        have BX18 := Lib.hid (show TBox w18 g1 ⟨lo1, ⟨ka1, kn1, kc1⟩, ⟨na1, nn1, nc1⟩, ⟨pa1, pn1, pc1⟩⟩ from BX17.out.on hb)
        have HHI18 := Lib.hid (HHI17.out.on hb)
        have HV18 := Lib.hid (HV17.out.on hb)
        have BZ18 := Lib.hid (show TBox w18 g13 ⟨lo4, ⟨ka4, kn4, kc4⟩, ⟨na4, nn4, nc4⟩, ⟨pa4, pn4, pc4⟩⟩ from BZ17.out.on hb)
        have HW18 := Lib.hid (HW17.out.on hb)
        have RX18 := Lib.hid (show RBlk w18 g15 ⟨noB, noB, true⟩ from cells_of RX17.out hb)
        have HX18 := Lib.hid (HX17.out.on hb)
        clear hb HB17 HA17 HT17 BX17 HHI17 HV17 BZ17 HW17 RX17 HX17 
        have hc := same_v HX18.out HZ18.out (by have := HPL.out; unfold maxLen; omega)
        rw [decide_eq_true (rfl : P = P)] at hc
        go_wp2_with fail
        refine (hc).mono ?_
        clear  hc
        rintro e w19 ⟨rfl, hb⟩
        have HB19 := Lib.hid (HB18.out.trans (hb.mono HB18.out.size))
        have HA19 := Lib.hid (HA18.out.on hb)
        have HT19 := Lib.hid (HT18.out.on hb)
        have BX19 := Lib.hid (show TBox w19 g1 ⟨lo1, ⟨ka1, kn1, kc1⟩, ⟨na1, nn1, nc1⟩, ⟨pa1, pn1, pc1⟩⟩ from BX18.out.on hb)
        have HHI19 := Lib.hid (HHI18.out.on hb)
        have HV19 := Lib.hid (HV18.out.on hb)
        have BZ19 := Lib.hid (show TBox w19 g13 ⟨lo4, ⟨ka4, kn4, kc4⟩, ⟨na4, nn4, nc4⟩, ⟨pa4, pn4, pc4⟩⟩ from BZ18.out.on hb)
        have HW19 := Lib.hid (HW18.out.on hb)
        have RX19 := Lib.hid (show RBlk w19 g15 ⟨noB, noB, true⟩ from cells_of RX18.out hb)
        have HX19 := Lib.hid (HX18.out.on hb)
        have HZ19 := Lib.hid (HZ18.out.on hb)
        clear hb HB18 HA18 HT18 BX18 HHI18 HV18 BZ18 HW18 RX18 HX18 HZ18 
        go_wp2_with fail
        refine (awake_true _).mono ?_
        rintro e w9 ⟨rfl, hb9⟩
        have HB9 := Lib.hid (HB19.out.trans (hb9.mono HB19.out.size))
        clear hb9
        go_wp2
        go_ret
        exact ⟨rfl, HB9.out⟩
      by_cases hkc : ca - k = 0
      · skip
        have hcap : nl ≤ ca := by have := hsee.2.2.1; have := HLA.out; omega
        have hkca : k ≤ ca := by omega
        have HLOr := Lib.hid (show NV wr (.slice (some ad) k ca) (l.take k) from ⟨_, _, by rw [HK1.out.1], hsee.1.take k, by rw [HK1.out.1]; exact hkca, fun h => by cases h⟩)
        have HHIr := Lib.hid (show NV wr (.slice (some ad) (nl - k) 0) (l.drop k) from ⟨_, _, by rw [HK1.out.2], Lies.empty (List.length_eq_zero_iff.1 (by rw [HK1.out.2]; omega)), by rw [HK1.out.2]; omega, fun h => by cases h⟩)
        have HCK := Lib.hid (show ca = k by omega)
        clear hsee
        have hc := tapply_any _ _ [] (l.take k) 0 0 wr (tree_none wr) HLOr.out (by rw [HK1.out.1]; have := HL60.out; omega)
        rw [(right_app HKR.out.1 []).1, (right_app HKR.out.1 []).2, ← HP0.out] at hc
        go_wp2_with fail
        refine (hc).mono ?_
        clear  hc
        rintro e w11 ⟨v11, rfl, ht, hb⟩
        have HV11 := Lib.hid ht
        clear ht
        have HB11 := Lib.hid (HBr.out.trans (hb.mono HBr.out.size))
        have HA11 := Lib.hid (HAr.out.on hb)
        have HT11 := Lib.hid (HTr.out.on hb)
        have BX11 := Lib.hid (show TBox w11 g1 ⟨lo1, ⟨ka1, kn1, kc1⟩, ⟨na1, nn1, nc1⟩, ⟨pa1, pn1, pc1⟩⟩ from BXr.out.on hb)
        have BY11 := Lib.hid (show TBox w11 g7 ⟨lo7, ⟨ka7, kn7, kc7⟩, ⟨na7, nn7, nc7⟩, ⟨pa7, pn7, pc7⟩⟩ from BYr.out.on hb)
        have HU11 := Lib.hid (HUr.out.on hb)
        have HLO11 := Lib.hid (HLOr.out.on hb)
        have HHI11 := Lib.hid (HHIr.out.on hb)
        clear hb HBr HAr HTr BXr BYr HUr HLOr HHIr 
        clear HLO11
        obtain ⟨lo3, ka3, kn3, kc3, na3, nn3, nc3, pa3, pn3, pc3, rfl⟩ := tree_shape HV11.out
        obtain ⟨w12, hw12⟩ : ∃ wz, wz = w11.alloc (.cells #[.string lo3, .slice ka3 kn3 kc3, .slice na3 nn3 nc3, .slice pa3 pn3 pc3] 32) := ⟨_, rfl⟩
        obtain ⟨g13, hg13⟩ : ∃ gz, gz = w11.heap.size := ⟨_, rfl⟩
        have hb12 : Below w11.heap.size w11 w12 := by rw [hw12]; exact (Below.refl _ _).alloc (Nat.le_refl _) _
        have BZ12 := Lib.hid (show TBox w12 g13 ⟨lo3, ⟨ka3, kn3, kc3⟩, ⟨na3, nn3, nc3⟩, ⟨pa3, pn3, pc3⟩⟩ from by rw [hw12]; exact Box.at_ w11 _ _ hg13)
        have HV12 := Lib.hid (TreeV.off HV11.out hb12 (show w11.heap.size ≤ g13 by omega))
        have HI12 := Lib.hid (HHI11.out.on hb12)
        have HB12 := Lib.hid hb12
        have HG13 := Lib.hid (show w11.heap.size ≤ g13 from by omega)
        clear hb12
        go_upto_region 15 with fail
        rw [← hg13, ← hw12]
        clear hg13 hw12
        have HC3 := Lib.hid (show ∀ wx, Below w12.heap.size w12 wx → _ from fun wx h => TBox.cells (r := ⟨lo3, ⟨ka3, kn3, kc3⟩, ⟨na3, nn3, nc3⟩, ⟨pa3, pn3, pc3⟩⟩) (BZ12.out.on h))
        simp only at HC3
        have HAP := Lib.hid (show ∀ wx, Below w12.heap.size w12 wx → Calls Try.prog 11 #[.agg #[.string lo3, .slice ka3 kn3 kc3, .slice na3 nn3 nc3, .slice pa3 pn3 pc3], .slice (some ad) (nl - k) 0] wx fun e w' => ∃ r : Nr, e = .returned (.tuple #[r.v, .int .i64 0]) ∧ TreeS w' (Off g13 w') r.v P 60 1000 ∧ Below wx.heap.size wx w' from fun wx h => by
          have hg : g13 < wx.heap.size := by have := Box.lt BZ12.out; have := h.size; omega
          have h1 := tapply_s (Off g13 wx) _ _ _ (l.drop k) _ _ wx (off_und _ _) (HV12.out.off h) (HI12.out.on h) (by rw [HK1.out.1, HK1.out.2]; have := HL60.out; omega)
          rw [(right_app HKR.out.2 P1).1, (right_app HKR.out.2 P1).2, HP1.out] at h1
          refine h1.mono ?_
          rintro e w' ⟨v', rfl, ht, hb⟩
          obtain ⟨hh, r, t, rfl, ht2⟩ := (ht.gr hg hb.size).more (M' := 60) (H' := 1000) (by rw [HK1.out.1, HK1.out.2]; have := HL60.out; omega) (by rw [HK1.out.1, HK1.out.2]; have := HL60.out; omega)
          exact ⟨r, rfl, ⟨hh, r, t, rfl, ht2⟩, hb⟩)
        refine wp_region_phase 10 [64, 65, 66, 67, 68, 63, 69, 70] (by kernel_rfl) [8] [] (fun _ _ => True) 1 rfl (by kernel_rfl) (OneS w11 w12 g13 P) (fun wa wb => Below wa.heap.size wa wb) (OneV (.agg #[.string lo3, .slice ka3 kn3 kc3, .slice na3 nn3 nc3, .slice pa3 pn3 pc3]) (.slice (some ad) nl ca) (.int .i64 (k : Int)) (.slice (some ad) (nl - k) 0) g13 P) (by kernel_rfl) (fun _ wa wb h1 h2 => h2.on h1) (fun _ t v wa wb h1 h2 => h2.on h1) (fun _ _ _ _ _ _ _ => trivial) ⟨fun _ => (Below.refl _ _).drew, fun h => absurd h (by decide)⟩ trivial (phase1 ?_ ?_) ?_
        · skip
          refine Steps1.cons (fun _ ax wx hS hJ hG => ?_) (Steps1.cons (fun _ ax wx hS hJ hG => ?_) (Steps1.cons (fun _ ax wx hS hJ hG => ?_) (Steps1.cons (fun _ ax wx hS hJ hG => ?_) (Steps1.cons (fun _ ax wx hS hJ hG => ?_) (Steps1.cons (fun _ ax wx hS hJ hG => ?_) (Steps1.cons (fun _ ax wx hS hJ hG => ?_) (Steps1.cons (fun _ ax wx hS hJ hG => ?_) (Steps1.cons (fun _ ax wx hS hJ hG => ?_) Steps1.nil))))))))
          · have q13 := hG.old 13 (by kernel_rfl) (by kernel_rfl)
            obtain ⟨z0, z1, z2, z3⟩ := HC3.out wx (hS.1 rfl)
            refine step_slot rfl rfl rfl (step_value (v := .agg #[.string lo3, .slice ka3 kn3 kc3, .slice na3 nn3 nc3, .slice pa3 pn3 pc3]) (w' := wx) rfl rfl ?_ (Below.refl _ _) (fun d hd => by cases hd; exact rfl))
            go_simp
          · have q0 := hG.old 0 (by kernel_rfl) (by kernel_rfl)
            refine step_slot rfl rfl rfl (step_value (v := .slice (some ad) nl ca) (w' := wx) rfl rfl ?_ (Below.refl _ _) (fun d hd => by cases hd; exact rfl))
            go_simp
          · have q12 := hG.old 12 (by kernel_rfl) (by kernel_rfl)
            refine step_slot rfl rfl rfl (step_value (v := .int .i64 (k : Int)) (w' := wx) rfl rfl ?_ (Below.refl _ _) (fun d hd => by cases hd; exact rfl))
            go_simp
          · obtain ⟨_, q65, rfl⟩ := hG.new 65 (by kernel_rfl) (by kernel_rfl)
            obtain ⟨_, q66, rfl⟩ := hG.new 66 (by kernel_rfl) (by kernel_rfl)
            refine step_slot rfl rfl rfl (step_value (v := .slice (some ad) (nl - k) 0) (w' := wx) rfl rfl ?_ (Below.refl _ _) (fun d hd => by cases hd; exact rfl))
            have hck := HCK.out
            go_simp
          · obtain ⟨_, q64, rfl⟩ := hG.new 64 (by kernel_rfl) (by kernel_rfl)
            obtain ⟨_, q67, rfl⟩ := hG.new 67 (by kernel_rfl) (by kernel_rfl)
            refine step_slot rfl rfl rfl (step_call (w1 := wx) (f := 11) (args := #[.agg #[.string lo3, .slice ka3 kn3 kc3, .slice na3 nn3 nc3, .slice pa3 pn3 pc3], .slice (some ad) (nl - k) 0]) rfl rfl ?_ ((HAP.out wx (hS.1 rfl)).mono ?_))
            · skip
              go_simp
            · rintro e w' ⟨r, rfl, hv, hq⟩
              exact ⟨_, rfl, hq, fun d hd => by cases hd; exact ⟨r, rfl, fun _ => hv⟩⟩
          · obtain ⟨v68, q68, h68⟩ := hG.new 68 (by kernel_rfl) (by kernel_rfl)
            have h68b : ∃ r : Nr, v68 = .tuple #[r.v, .int .i64 0] ∧ (0 = 0 → TreeS wx (Off g13 wx) r.v P 60 1000) := h68
            obtain ⟨r, rfl, h0⟩ := h68b
            refine step_slot rfl rfl rfl (step_value (v := .tuple #[r.v, .int .i64 0]) (w' := wx) rfl rfl ?_ (Below.refl _ _) (fun d hd => by cases hd; exact ⟨r, rfl, h0⟩))
            clear h0 h68
            go_simp
          · obtain ⟨v63, q63, h63⟩ := hG.new 63 (by kernel_rfl) (by kernel_rfl)
            have h63b : ∃ r : Nr, v63 = .tuple #[r.v, .int .i64 0] ∧ (0 = 0 → TreeS wx (Off g13 wx) r.v P 60 1000) := h63
            obtain ⟨r, rfl, h0⟩ := h63b
            refine step_slot rfl rfl rfl (step_value (v := r.v) (w' := wx) rfl rfl ?_ (Below.refl _ _) (fun d hd => by cases hd; exact fun e => ⟨r, rfl, h0 e⟩))
            clear h0 h63
            go_simp
          · obtain ⟨v63, q63, h63⟩ := hG.new 63 (by kernel_rfl) (by kernel_rfl)
            have h63b : ∃ r : Nr, v63 = .tuple #[r.v, .int .i64 0] ∧ (0 = 0 → TreeS wx (Off g13 wx) r.v P 60 1000) := h63
            obtain ⟨r, rfl, h0⟩ := h63b
            refine step_slot rfl rfl rfl (step_value (v := .int .i64 0) (w' := wx) rfl rfl ?_ (Below.refl _ _) (fun d hd => by cases hd; exact rfl))
            clear h0 h63
            go_simp
          · have q13 := hG.old 13 (by kernel_rfl) (by kernel_rfl)
            obtain ⟨v69, q69, h69⟩ := hG.new 69 (by kernel_rfl) (by kernel_rfl)
            obtain ⟨r, rfl, h0⟩ := (show 0 = 0 → ∃ r : Nr, v69 = r.v ∧ TreeS wx (Off g13 wx) r.v P 60 1000 from h69) rfl
            obtain ⟨lo4, ⟨ka4, kn4, kc4⟩, ⟨na4, nn4, nc4⟩, ⟨pa4, pn4, pc4⟩⟩ := r
            have HZ := Lib.hid (show TBox wx g13 ⟨lo3, ⟨ka3, kn3, kc3⟩, ⟨na3, nn3, nc3⟩, ⟨pa3, pn3, pc3⟩⟩ from BZ12.out.on (hS.1 rfl))
            have HBZ := Lib.hid (HB12.out.trans ((hS.1 rfl).mono HB12.out.size))
            have H0 := Lib.hid h0
            have f0 := Box.free HZ.out 0
            have f1 := Box.free HZ.out 1
            have f2 := Box.free HZ.out 2
            have f3 := Box.free HZ.out 3
            obtain ⟨k0, k1, k2, k3⟩ := TBox.cells HZ.out
            simp only at k0 k1 k2 k3
            unfold Nr.v at q69
            simp only at q69
            refine step_store (w' := ((((wx.setCell ⟨g13, 0, none⟩ (.string lo4)).setCell ⟨g13, 1, none⟩ (.slice ka4 kn4 kc4)).setCell ⟨g13, 2, none⟩ (.slice na4 nn4 nc4)).setCell ⟨g13, 3, none⟩ (.slice pa4 pn4 pc4))) rfl rfl rfl rfl ?_ ⟨fun h => absurd h (by decide), fun _ => ⟨below_put HBZ.out HG13.out _ _ _ _, ⟨lo4, ⟨ka4, kn4, kc4⟩, ⟨na4, nn4, nc4⟩, ⟨pa4, pn4, pc4⟩⟩, NdB.put (r := ⟨lo3, ⟨ka3, kn3, kc3⟩, ⟨na3, nn3, nc3⟩, ⟨pa3, pn3, pc3⟩⟩) HZ.out ⟨lo4, ⟨ka4, kn4, kc4⟩, ⟨na4, nn4, nc4⟩, ⟨pa4, pn4, pc4⟩⟩, H0.out.put _ _ _ _⟩⟩ trivial ?_
            · clear h0 h69 hS
              go_simp
            · intro t u _ hu hV
              unfold OneV at hV ⊢
              split at hV
              · exact hV
              · exact hV
              · exact hV
              · exact hV
              · obtain ⟨r, e, _⟩ := hV
                exact ⟨r, e, fun h => absurd h (by decide)⟩
              · obtain ⟨r, e, _⟩ := hV
                exact ⟨r, e, fun h => absurd h (by decide)⟩
              · exact fun h => absurd h (by decide)
              · exact hV
              · trivial
        · skip
          refine Steps1.cons (fun hin _ _ _ _ _ => out (by kernel_rfl) hin) (Steps1.cons (fun hin _ _ _ _ _ => out (by kernel_rfl) hin) (Steps1.cons (fun hin _ _ _ _ _ => out (by kernel_rfl) hin) (Steps1.cons (fun hin _ _ _ _ _ => out (by kernel_rfl) hin) (Steps1.cons (fun hin _ _ _ _ _ => out (by kernel_rfl) hin) (Steps1.cons (fun hin _ _ _ _ _ => out (by kernel_rfl) hin) (Steps1.cons (fun hin _ _ _ _ _ => out (by kernel_rfl) hin) (Steps1.cons (fun _ ax wx hS hJ hG => ?_) (Steps1.cons (fun hin _ _ _ _ _ => out (by kernel_rfl) hin) Steps1.nil))))))))
          · obtain ⟨v63, q63, h63⟩ := hG.new 63 (by kernel_rfl) (by kernel_rfl)
            have h63b : ∃ r : Nr, v63 = .tuple #[r.v, .int .i64 0] ∧ (1 = 0 → TreeS wx (Off g13 wx) r.v P 60 1000) := h63
            obtain ⟨r, rfl, h0⟩ := h63b
            refine step_slot rfl rfl rfl (step_value (v := .int .i64 0) (w' := wx) rfl rfl ?_ (Below.refl _ _) (fun d hd => by cases hd; exact rfl))
            clear h0 h63
            go_simp
        intro gg wa hSa _ hVa
        simp only [puts, Act.put, List.setIfInBounds_toArray, List.set_cons_succ, List.set_cons_zero]
        clear hVa
        generalize gg 64 = f64 at *
        generalize gg 65 = f65 at *
        generalize gg 66 = f66 at *
        generalize gg 67 = f67 at *
        generalize gg 68 = f68 at *
        generalize gg 63 = f63 at *
        generalize gg 69 = f69 at *
        generalize gg 70 = f70 at *
        obtain ⟨hb, ⟨lo4, ⟨ka4, kn4, kc4⟩, ⟨na4, nn4, nc4⟩, ⟨pa4, pn4, pc4⟩⟩, hbz, hts⟩ := hSa.2 rfl
        have BZa := Lib.hid hbz
        have HWa := Lib.hid (show TreeV wa (.agg #[.string lo4, .slice ka4 kn4 kc4, .slice na4 nn4 nc4, .slice pa4 pn4 pc4]) P 60 1000 from hts.v)
        obtain ⟨w13, hw13⟩ : ∃ wz, wz = wa := ⟨_, rfl⟩
        rw [← hw13] at hb BZa HWa ⊢
        clear hw13 hSa hbz hts HV12 HI12 HB12 BZ12 HC3 HAP
        have HB13 := Lib.hid (HB11.out.trans (hb.mono HB11.out.size))
        have HA13 := Lib.hid (HA11.out.on hb)
        have HT13 := Lib.hid (HT11.out.on hb)
        have BX13 := Lib.hid (show TBox w13 g1 ⟨lo1, ⟨ka1, kn1, kc1⟩, ⟨na1, nn1, nc1⟩, ⟨pa1, pn1, pc1⟩⟩ from BX11.out.on hb)
        have BY13 := Lib.hid (show TBox w13 g7 ⟨lo7, ⟨ka7, kn7, kc7⟩, ⟨na7, nn7, nc7⟩, ⟨pa7, pn7, pc7⟩⟩ from BY11.out.on hb)
        have HU13 := Lib.hid (HU11.out.on hb)
        have HHI13 := Lib.hid (HHI11.out.on hb)
        have HV13 := Lib.hid (HV11.out.on hb)
        clear hb HB11 HA11 HT11 BX11 BY11 HU11 HHI11 HV11 
        have BZ13 := BZa
        have HW13 := HWa
        clear BZa HWa
        obtain ⟨w14, hw14⟩ : ∃ wz, wz = w13.alloc (.cells #[.string noB, .string noB, .bool true] 24) := ⟨_, rfl⟩
        obtain ⟨g15, hg15⟩ : ∃ gz, gz = w13.heap.size := ⟨_, rfl⟩
        have hb14 : Below w13.heap.size w13 w14 := by rw [hw14]; exact (Below.refl _ _).alloc (Nat.le_refl _) _
        have RXa := Lib.hid (show RBlk w14 g15 ⟨noB, noB, true⟩ from by rw [hw14]; exact Box.at_ w13 _ _ hg15)
        have HB14 := Lib.hid (HB13.out.trans (hb14.mono HB13.out.size))
        have HA14 := Lib.hid (HA13.out.on hb14)
        have HT14 := Lib.hid (HT13.out.on hb14)
        have BX14 := Lib.hid (show TBox w14 g1 ⟨lo1, ⟨ka1, kn1, kc1⟩, ⟨na1, nn1, nc1⟩, ⟨pa1, pn1, pc1⟩⟩ from BX13.out.on hb14)
        have BY14 := Lib.hid (show TBox w14 g7 ⟨lo7, ⟨ka7, kn7, kc7⟩, ⟨na7, nn7, nc7⟩, ⟨pa7, pn7, pc7⟩⟩ from BY13.out.on hb14)
        have HU14 := Lib.hid (HU13.out.on hb14)
        have HHI14 := Lib.hid (HHI13.out.on hb14)
        have HV14 := Lib.hid (HV13.out.on hb14)
        have BZ14 := Lib.hid (show TBox w14 g13 ⟨lo4, ⟨ka4, kn4, kc4⟩, ⟨na4, nn4, nc4⟩, ⟨pa4, pn4, pc4⟩⟩ from BZ13.out.on hb14)
        have HW14 := Lib.hid (HW13.out.on hb14)
        clear hb14 HB13 HA13 HT13 BX13 BY13 HU13 HHI13 HV13 BZ13 HW13 
        go_upto_region 17 with fail
        rw [← hg15, ← hw14]
        clear hg15 hw14
        have RX14 := RXa
        clear RXa
        have HPL := Lib.hid (show P.length ≤ 60 by have h1 := (tree_len HT14.out).1; rw [← HLA.out] at h1; have := HL60.out; omega)
        skip
        have hc : Calls Try.prog 17 #[.agg #[.string lo1, .slice ka1 kn1 kc1, .slice na1 nn1 nc1, .slice pa1 pn1 pc1], .agg #[.string noB, .string noB, .bool true]] w14 fun e w' => ∃ v', e = .returned v' ∧ PV w' v' P ∧ Below w14.heap.size w14 w' := by
          have h1 := tscan_any _ _ _ _ ⟨noS, noS, true⟩ w14 HT14.out (by rw [← HLA.out]; have := HL60.out; omega)
          rw [pick_all] at h1
          exact h1
        obtain ⟨b0, b1, b2, b3⟩ := TBox.cells BX14.out
        obtain ⟨r0, r1, r2⟩ := RBlk.cells RX14.out
        simp only at b0 b1 b2 b3 r0 r1 r2
        go_wp2_with fail
        refine hc.mono ?_
        clear hc b0 b1 b2 b3 r0 r1 r2
        rintro e w15 ⟨v15, rfl, hv, hb⟩
        have HX15 := Lib.hid hv
        clear hv
        have HB15 := Lib.hid (HB14.out.trans (hb.mono HB14.out.size))
        have HA15 := Lib.hid (HA14.out.on hb)
        have HT15 := Lib.hid (HT14.out.on hb)
        have BX15 := Lib.hid (show TBox w15 g1 ⟨lo1, ⟨ka1, kn1, kc1⟩, ⟨na1, nn1, nc1⟩, ⟨pa1, pn1, pc1⟩⟩ from BX14.out.on hb)
        have BY15 := Lib.hid (show TBox w15 g7 ⟨lo7, ⟨ka7, kn7, kc7⟩, ⟨na7, nn7, nc7⟩, ⟨pa7, pn7, pc7⟩⟩ from BY14.out.on hb)
        have HU15 := Lib.hid (HU14.out.on hb)
        have HHI15 := Lib.hid (HHI14.out.on hb)
        have HV15 := Lib.hid (HV14.out.on hb)
        have BZ15 := Lib.hid (show TBox w15 g13 ⟨lo4, ⟨ka4, kn4, kc4⟩, ⟨na4, nn4, nc4⟩, ⟨pa4, pn4, pc4⟩⟩ from BZ14.out.on hb)
        have HW15 := Lib.hid (HW14.out.on hb)
        have RX15 := Lib.hid (show RBlk w15 g15 ⟨noB, noB, true⟩ from cells_of RX14.out hb)
        clear hb HB14 HA14 HT14 BX14 BY14 HU14 HHI14 HV14 BZ14 HW14 RX14 
        have hc : Calls Try.prog 17 #[.agg #[.string lo7, .slice ka7 kn7 kc7, .slice na7 nn7 nc7, .slice pa7 pn7 pc7], .agg #[.string noB, .string noB, .bool true]] w15 fun e w' => ∃ v', e = .returned v' ∧ PV w' v' P ∧ Below w15.heap.size w15 w' := by
          have h1 := tscan_any _ _ _ _ ⟨noS, noS, true⟩ w15 HU15.out (by have := HIL.out; omega)
          rw [pick_all] at h1
          exact h1
        obtain ⟨b0, b1, b2, b3⟩ := TBox.cells BY15.out
        obtain ⟨r0, r1, r2⟩ := RBlk.cells RX15.out
        simp only at b0 b1 b2 b3 r0 r1 r2
        go_wp2_with fail
        refine hc.mono ?_
        clear hc b0 b1 b2 b3 r0 r1 r2
        rintro e w16 ⟨v16, rfl, hv, hb⟩
        have HY16 := Lib.hid hv
        clear hv
        have HB16 := Lib.hid (HB15.out.trans (hb.mono HB15.out.size))
        have HA16 := Lib.hid (HA15.out.on hb)
        have HT16 := Lib.hid (HT15.out.on hb)
        have BX16 := Lib.hid (show TBox w16 g1 ⟨lo1, ⟨ka1, kn1, kc1⟩, ⟨na1, nn1, nc1⟩, ⟨pa1, pn1, pc1⟩⟩ from BX15.out.on hb)
        have BY16 := Lib.hid (show TBox w16 g7 ⟨lo7, ⟨ka7, kn7, kc7⟩, ⟨na7, nn7, nc7⟩, ⟨pa7, pn7, pc7⟩⟩ from BY15.out.on hb)
        have HU16 := Lib.hid (HU15.out.on hb)
        have HHI16 := Lib.hid (HHI15.out.on hb)
        have HV16 := Lib.hid (HV15.out.on hb)
        have BZ16 := Lib.hid (show TBox w16 g13 ⟨lo4, ⟨ka4, kn4, kc4⟩, ⟨na4, nn4, nc4⟩, ⟨pa4, pn4, pc4⟩⟩ from BZ15.out.on hb)
        have HW16 := Lib.hid (HW15.out.on hb)
        have RX16 := Lib.hid (show RBlk w16 g15 ⟨noB, noB, true⟩ from cells_of RX15.out hb)
        have HX16 := Lib.hid (HX15.out.on hb)
        clear hb HB15 HA15 HT15 BX15 BY15 HU15 HHI15 HV15 BZ15 HW15 RX15 HX15 
        have hc := same_v HX16.out HY16.out (by have := HPL.out; unfold maxLen; omega)
        rw [decide_eq_true (rfl : P = P)] at hc
        go_wp2_with fail
        refine (hc).mono ?_
        clear  hc
        rintro e w17 ⟨rfl, hb⟩
        have HB17 := Lib.hid (HB16.out.trans (hb.mono HB16.out.size))
        have HA17 := Lib.hid (HA16.out.on hb)
        have HT17 := Lib.hid (HT16.out.on hb)
        have BX17 := Lib.hid (show TBox w17 g1 ⟨lo1, ⟨ka1, kn1, kc1⟩, ⟨na1, nn1, nc1⟩, ⟨pa1, pn1, pc1⟩⟩ from BX16.out.on hb)
        have BY17 := Lib.hid (show TBox w17 g7 ⟨lo7, ⟨ka7, kn7, kc7⟩, ⟨na7, nn7, nc7⟩, ⟨pa7, pn7, pc7⟩⟩ from BY16.out.on hb)
        have HU17 := Lib.hid (HU16.out.on hb)
        have HHI17 := Lib.hid (HHI16.out.on hb)
        have HV17 := Lib.hid (HV16.out.on hb)
        have BZ17 := Lib.hid (show TBox w17 g13 ⟨lo4, ⟨ka4, kn4, kc4⟩, ⟨na4, nn4, nc4⟩, ⟨pa4, pn4, pc4⟩⟩ from BZ16.out.on hb)
        have HW17 := Lib.hid (HW16.out.on hb)
        have RX17 := Lib.hid (show RBlk w17 g15 ⟨noB, noB, true⟩ from cells_of RX16.out hb)
        have HX17 := Lib.hid (HX16.out.on hb)
        have HY17 := Lib.hid (HY16.out.on hb)
        clear hb HB16 HA16 HT16 BX16 BY16 HU16 HHI16 HV16 BZ16 HW16 RX16 HX16 HY16 
        clear HY17 BY17 HU17
        have hc : Calls Try.prog 17 #[.agg #[.string lo4, .slice ka4 kn4 kc4, .slice na4 nn4 nc4, .slice pa4 pn4 pc4], .agg #[.string noB, .string noB, .bool true]] w17 fun e w' => ∃ v', e = .returned v' ∧ PV w' v' P ∧ Below w17.heap.size w17 w' := by
          have h1 := tscan_any _ _ _ _ ⟨noS, noS, true⟩ w17 HW17.out (by omega)
          rw [pick_all] at h1
          exact h1
        obtain ⟨b0, b1, b2, b3⟩ := TBox.cells BZ17.out
        obtain ⟨r0, r1, r2⟩ := RBlk.cells RX17.out
        simp only at b0 b1 b2 b3 r0 r1 r2
        go_wp2_with fail
        refine hc.mono ?_
        clear hc b0 b1 b2 b3 r0 r1 r2
        rintro e w18 ⟨v18, rfl, hv, hb⟩
        have HZ18 := Lib.hid hv
        clear hv
        have HB18 := Lib.hid (HB17.out.trans (hb.mono HB17.out.size))
        have HA18 := Lib.hid (HA17.out.on hb)
        have HT18 := Lib.hid (HT17.out.on hb)
        have BX18 := Lib.hid (show TBox w18 g1 ⟨lo1, ⟨ka1, kn1, kc1⟩, ⟨na1, nn1, nc1⟩, ⟨pa1, pn1, pc1⟩⟩ from BX17.out.on hb)
        have HHI18 := Lib.hid (HHI17.out.on hb)
        have HV18 := Lib.hid (HV17.out.on hb)
        have BZ18 := Lib.hid (show TBox w18 g13 ⟨lo4, ⟨ka4, kn4, kc4⟩, ⟨na4, nn4, nc4⟩, ⟨pa4, pn4, pc4⟩⟩ from BZ17.out.on hb)
        have HW18 := Lib.hid (HW17.out.on hb)
        have RX18 := Lib.hid (show RBlk w18 g15 ⟨noB, noB, true⟩ from cells_of RX17.out hb)
        have HX18 := Lib.hid (HX17.out.on hb)
        clear hb HB17 HA17 HT17 BX17 HHI17 HV17 BZ17 HW17 RX17 HX17 
        have hc := same_v HX18.out HZ18.out (by have := HPL.out; unfold maxLen; omega)
        rw [decide_eq_true (rfl : P = P)] at hc
        go_wp2_with fail
        refine (hc).mono ?_
        clear  hc
        rintro e w19 ⟨rfl, hb⟩
        have HB19 := Lib.hid (HB18.out.trans (hb.mono HB18.out.size))
        have HA19 := Lib.hid (HA18.out.on hb)
        have HT19 := Lib.hid (HT18.out.on hb)
        have BX19 := Lib.hid (show TBox w19 g1 ⟨lo1, ⟨ka1, kn1, kc1⟩, ⟨na1, nn1, nc1⟩, ⟨pa1, pn1, pc1⟩⟩ from BX18.out.on hb)
        have HHI19 := Lib.hid (HHI18.out.on hb)
        have HV19 := Lib.hid (HV18.out.on hb)
        have BZ19 := Lib.hid (show TBox w19 g13 ⟨lo4, ⟨ka4, kn4, kc4⟩, ⟨na4, nn4, nc4⟩, ⟨pa4, pn4, pc4⟩⟩ from BZ18.out.on hb)
        have HW19 := Lib.hid (HW18.out.on hb)
        have RX19 := Lib.hid (show RBlk w19 g15 ⟨noB, noB, true⟩ from cells_of RX18.out hb)
        have HX19 := Lib.hid (HX18.out.on hb)
        have HZ19 := Lib.hid (HZ18.out.on hb)
        clear hb HB18 HA18 HT18 BX18 HHI18 HV18 BZ18 HW18 RX18 HX18 HZ18 
        go_wp2_with fail
        refine (awake_true _).mono ?_
        rintro e w9 ⟨rfl, hb9⟩
        have HB9 := Lib.hid (HB19.out.trans (hb9.mono HB19.out.size))
        clear hb9
        go_wp2
        go_ret
        exact ⟨rfl, HB9.out⟩
      · skip
        have hcap : nl ≤ ca := by have := hsee.2.2.1; have := HLA.out; omega
        have hkca : k ≤ ca := by omega
        have HLOr := Lib.hid (show NV wr (.slice (some ad) k ca) (l.take k) from ⟨_, _, by rw [HK1.out.1], hsee.1.take k, by rw [HK1.out.1]; exact hkca, fun h => by cases h⟩)
        have HHIr := Lib.hid (show NV wr (.slice (some (ad.add (k * 4))) (nl - k) (ca - k)) (l.drop k) from ⟨_, _, by rw [HK1.out.2], hsee.1.drop k, by rw [HK1.out.2]; omega, fun h => by cases h⟩)
        have HCK := Lib.hid (show ¬ ca = k by omega)
        clear hsee
        have hc := tapply_any _ _ [] (l.take k) 0 0 wr (tree_none wr) HLOr.out (by rw [HK1.out.1]; have := HL60.out; omega)
        rw [(right_app HKR.out.1 []).1, (right_app HKR.out.1 []).2, ← HP0.out] at hc
        go_wp2_with fail
        refine (hc).mono ?_
        clear  hc
        rintro e w11 ⟨v11, rfl, ht, hb⟩
        have HV11 := Lib.hid ht
        clear ht
        have HB11 := Lib.hid (HBr.out.trans (hb.mono HBr.out.size))
        have HA11 := Lib.hid (HAr.out.on hb)
        have HT11 := Lib.hid (HTr.out.on hb)
        have BX11 := Lib.hid (show TBox w11 g1 ⟨lo1, ⟨ka1, kn1, kc1⟩, ⟨na1, nn1, nc1⟩, ⟨pa1, pn1, pc1⟩⟩ from BXr.out.on hb)
        have BY11 := Lib.hid (show TBox w11 g7 ⟨lo7, ⟨ka7, kn7, kc7⟩, ⟨na7, nn7, nc7⟩, ⟨pa7, pn7, pc7⟩⟩ from BYr.out.on hb)
        have HU11 := Lib.hid (HUr.out.on hb)
        have HLO11 := Lib.hid (HLOr.out.on hb)
        have HHI11 := Lib.hid (HHIr.out.on hb)
        clear hb HBr HAr HTr BXr BYr HUr HLOr HHIr 
        clear HLO11
        obtain ⟨lo3, ka3, kn3, kc3, na3, nn3, nc3, pa3, pn3, pc3, rfl⟩ := tree_shape HV11.out
        obtain ⟨w12, hw12⟩ : ∃ wz, wz = w11.alloc (.cells #[.string lo3, .slice ka3 kn3 kc3, .slice na3 nn3 nc3, .slice pa3 pn3 pc3] 32) := ⟨_, rfl⟩
        obtain ⟨g13, hg13⟩ : ∃ gz, gz = w11.heap.size := ⟨_, rfl⟩
        have hb12 : Below w11.heap.size w11 w12 := by rw [hw12]; exact (Below.refl _ _).alloc (Nat.le_refl _) _
        have BZ12 := Lib.hid (show TBox w12 g13 ⟨lo3, ⟨ka3, kn3, kc3⟩, ⟨na3, nn3, nc3⟩, ⟨pa3, pn3, pc3⟩⟩ from by rw [hw12]; exact Box.at_ w11 _ _ hg13)
        have HV12 := Lib.hid (TreeV.off HV11.out hb12 (show w11.heap.size ≤ g13 by omega))
        have HI12 := Lib.hid (HHI11.out.on hb12)
        have HB12 := Lib.hid hb12
        have HG13 := Lib.hid (show w11.heap.size ≤ g13 from by omega)
        clear hb12
        go_upto_region 15 with fail
        rw [← hg13, ← hw12]
        clear hg13 hw12
        have HC3 := Lib.hid (show ∀ wx, Below w12.heap.size w12 wx → _ from fun wx h => TBox.cells (r := ⟨lo3, ⟨ka3, kn3, kc3⟩, ⟨na3, nn3, nc3⟩, ⟨pa3, pn3, pc3⟩⟩) (BZ12.out.on h))
        simp only at HC3
        have HAP := Lib.hid (show ∀ wx, Below w12.heap.size w12 wx → Calls Try.prog 11 #[.agg #[.string lo3, .slice ka3 kn3 kc3, .slice na3 nn3 nc3, .slice pa3 pn3 pc3], .slice (some (ad.add (k * 4))) (nl - k) (ca - k)] wx fun e w' => ∃ r : Nr, e = .returned (.tuple #[r.v, .int .i64 0]) ∧ TreeS w' (Off g13 w') r.v P 60 1000 ∧ Below wx.heap.size wx w' from fun wx h => by
          have hg : g13 < wx.heap.size := by have := Box.lt BZ12.out; have := h.size; omega
          have h1 := tapply_s (Off g13 wx) _ _ _ (l.drop k) _ _ wx (off_und _ _) (HV12.out.off h) (HI12.out.on h) (by rw [HK1.out.1, HK1.out.2]; have := HL60.out; omega)
          rw [(right_app HKR.out.2 P1).1, (right_app HKR.out.2 P1).2, HP1.out] at h1
          refine h1.mono ?_
          rintro e w' ⟨v', rfl, ht, hb⟩
          obtain ⟨hh, r, t, rfl, ht2⟩ := (ht.gr hg hb.size).more (M' := 60) (H' := 1000) (by rw [HK1.out.1, HK1.out.2]; have := HL60.out; omega) (by rw [HK1.out.1, HK1.out.2]; have := HL60.out; omega)
          exact ⟨r, rfl, ⟨hh, r, t, rfl, ht2⟩, hb⟩)
        refine wp_region_phase 10 [64, 65, 66, 67, 68, 63, 69, 70] (by kernel_rfl) [8] [] (fun _ _ => True) 1 rfl (by kernel_rfl) (OneS w11 w12 g13 P) (fun wa wb => Below wa.heap.size wa wb) (OneV (.agg #[.string lo3, .slice ka3 kn3 kc3, .slice na3 nn3 nc3, .slice pa3 pn3 pc3]) (.slice (some ad) nl ca) (.int .i64 (k : Int)) (.slice (some (ad.add (k * 4))) (nl - k) (ca - k)) g13 P) (by kernel_rfl) (fun _ wa wb h1 h2 => h2.on h1) (fun _ t v wa wb h1 h2 => h2.on h1) (fun _ _ _ _ _ _ _ => trivial) ⟨fun _ => (Below.refl _ _).drew, fun h => absurd h (by decide)⟩ trivial (phase1 ?_ ?_) ?_
        · skip
          refine Steps1.cons (fun _ ax wx hS hJ hG => ?_) (Steps1.cons (fun _ ax wx hS hJ hG => ?_) (Steps1.cons (fun _ ax wx hS hJ hG => ?_) (Steps1.cons (fun _ ax wx hS hJ hG => ?_) (Steps1.cons (fun _ ax wx hS hJ hG => ?_) (Steps1.cons (fun _ ax wx hS hJ hG => ?_) (Steps1.cons (fun _ ax wx hS hJ hG => ?_) (Steps1.cons (fun _ ax wx hS hJ hG => ?_) (Steps1.cons (fun _ ax wx hS hJ hG => ?_) Steps1.nil))))))))
          · have q13 := hG.old 13 (by kernel_rfl) (by kernel_rfl)
            obtain ⟨z0, z1, z2, z3⟩ := HC3.out wx (hS.1 rfl)
            refine step_slot rfl rfl rfl (step_value (v := .agg #[.string lo3, .slice ka3 kn3 kc3, .slice na3 nn3 nc3, .slice pa3 pn3 pc3]) (w' := wx) rfl rfl ?_ (Below.refl _ _) (fun d hd => by cases hd; exact rfl))
            go_simp
          · have q0 := hG.old 0 (by kernel_rfl) (by kernel_rfl)
            refine step_slot rfl rfl rfl (step_value (v := .slice (some ad) nl ca) (w' := wx) rfl rfl ?_ (Below.refl _ _) (fun d hd => by cases hd; exact rfl))
            go_simp
          · have q12 := hG.old 12 (by kernel_rfl) (by kernel_rfl)
            refine step_slot rfl rfl rfl (step_value (v := .int .i64 (k : Int)) (w' := wx) rfl rfl ?_ (Below.refl _ _) (fun d hd => by cases hd; exact rfl))
            go_simp
          · obtain ⟨_, q65, rfl⟩ := hG.new 65 (by kernel_rfl) (by kernel_rfl)
            obtain ⟨_, q66, rfl⟩ := hG.new 66 (by kernel_rfl) (by kernel_rfl)
            refine step_slot rfl rfl rfl (step_value (v := .slice (some (ad.add (k * 4))) (nl - k) (ca - k)) (w' := wx) rfl rfl ?_ (Below.refl _ _) (fun d hd => by cases hd; exact rfl))
            have hck := HCK.out
            go_simp
          · obtain ⟨_, q64, rfl⟩ := hG.new 64 (by kernel_rfl) (by kernel_rfl)
            obtain ⟨_, q67, rfl⟩ := hG.new 67 (by kernel_rfl) (by kernel_rfl)
            refine step_slot rfl rfl rfl (step_call (w1 := wx) (f := 11) (args := #[.agg #[.string lo3, .slice ka3 kn3 kc3, .slice na3 nn3 nc3, .slice pa3 pn3 pc3], .slice (some (ad.add (k * 4))) (nl - k) (ca - k)]) rfl rfl ?_ ((HAP.out wx (hS.1 rfl)).mono ?_))
            · skip
              go_simp
            · rintro e w' ⟨r, rfl, hv, hq⟩
              exact ⟨_, rfl, hq, fun d hd => by cases hd; exact ⟨r, rfl, fun _ => hv⟩⟩
          · obtain ⟨v68, q68, h68⟩ := hG.new 68 (by kernel_rfl) (by kernel_rfl)
            have h68b : ∃ r : Nr, v68 = .tuple #[r.v, .int .i64 0] ∧ (0 = 0 → TreeS wx (Off g13 wx) r.v P 60 1000) := h68
            obtain ⟨r, rfl, h0⟩ := h68b
            refine step_slot rfl rfl rfl (step_value (v := .tuple #[r.v, .int .i64 0]) (w' := wx) rfl rfl ?_ (Below.refl _ _) (fun d hd => by cases hd; exact ⟨r, rfl, h0⟩))
            clear h0 h68
            go_simp
          · obtain ⟨v63, q63, h63⟩ := hG.new 63 (by kernel_rfl) (by kernel_rfl)
            have h63b : ∃ r : Nr, v63 = .tuple #[r.v, .int .i64 0] ∧ (0 = 0 → TreeS wx (Off g13 wx) r.v P 60 1000) := h63
            obtain ⟨r, rfl, h0⟩ := h63b
            refine step_slot rfl rfl rfl (step_value (v := r.v) (w' := wx) rfl rfl ?_ (Below.refl _ _) (fun d hd => by cases hd; exact fun e => ⟨r, rfl, h0 e⟩))
            clear h0 h63
            go_simp
          · obtain ⟨v63, q63, h63⟩ := hG.new 63 (by kernel_rfl) (by kernel_rfl)
            have h63b : ∃ r : Nr, v63 = .tuple #[r.v, .int .i64 0] ∧ (0 = 0 → TreeS wx (Off g13 wx) r.v P 60 1000) := h63
            obtain ⟨r, rfl, h0⟩ := h63b
            refine step_slot rfl rfl rfl (step_value (v := .int .i64 0) (w' := wx) rfl rfl ?_ (Below.refl _ _) (fun d hd => by cases hd; exact rfl))
            clear h0 h63
            go_simp
          · have q13 := hG.old 13 (by kernel_rfl) (by kernel_rfl)
            obtain ⟨v69, q69, h69⟩ := hG.new 69 (by kernel_rfl) (by kernel_rfl)
            obtain ⟨r, rfl, h0⟩ := (show 0 = 0 → ∃ r : Nr, v69 = r.v ∧ TreeS wx (Off g13 wx) r.v P 60 1000 from h69) rfl
            obtain ⟨lo4, ⟨ka4, kn4, kc4⟩, ⟨na4, nn4, nc4⟩, ⟨pa4, pn4, pc4⟩⟩ := r
            have HZ := Lib.hid (show TBox wx g13 ⟨lo3, ⟨ka3, kn3, kc3⟩, ⟨na3, nn3, nc3⟩, ⟨pa3, pn3, pc3⟩⟩ from BZ12.out.on (hS.1 rfl))
            have HBZ := Lib.hid (HB12.out.trans ((hS.1 rfl).mono HB12.out.size))
            have H0 := Lib.hid h0
            have f0 := Box.free HZ.out 0
            have f1 := Box.free HZ.out 1
            have f2 := Box.free HZ.out 2
            have f3 := Box.free HZ.out 3
            obtain ⟨k0, k1, k2, k3⟩ := TBox.cells HZ.out
            simp only at k0 k1 k2 k3
            unfold Nr.v at q69
            simp only at q69
            refine step_store (w' := ((((wx.setCell ⟨g13, 0, none⟩ (.string lo4)).setCell ⟨g13, 1, none⟩ (.slice ka4 kn4 kc4)).setCell ⟨g13, 2, none⟩ (.slice na4 nn4 nc4)).setCell ⟨g13, 3, none⟩ (.slice pa4 pn4 pc4))) rfl rfl rfl rfl ?_ ⟨fun h => absurd h (by decide), fun _ => ⟨below_put HBZ.out HG13.out _ _ _ _, ⟨lo4, ⟨ka4, kn4, kc4⟩, ⟨na4, nn4, nc4⟩, ⟨pa4, pn4, pc4⟩⟩, NdB.put (r := ⟨lo3, ⟨ka3, kn3, kc3⟩, ⟨na3, nn3, nc3⟩, ⟨pa3, pn3, pc3⟩⟩) HZ.out ⟨lo4, ⟨ka4, kn4, kc4⟩, ⟨na4, nn4, nc4⟩, ⟨pa4, pn4, pc4⟩⟩, H0.out.put _ _ _ _⟩⟩ trivial ?_
            · clear h0 h69 hS
              go_simp
            · intro t u _ hu hV
              unfold OneV at hV ⊢
              split at hV
              · exact hV
              · exact hV
              · exact hV
              · exact hV
              · obtain ⟨r, e, _⟩ := hV
                exact ⟨r, e, fun h => absurd h (by decide)⟩
              · obtain ⟨r, e, _⟩ := hV
                exact ⟨r, e, fun h => absurd h (by decide)⟩
              · exact fun h => absurd h (by decide)
              · exact hV
              · trivial
        · skip
          refine Steps1.cons (fun hin _ _ _ _ _ => out (by kernel_rfl) hin) (Steps1.cons (fun hin _ _ _ _ _ => out (by kernel_rfl) hin) (Steps1.cons (fun hin _ _ _ _ _ => out (by kernel_rfl) hin) (Steps1.cons (fun hin _ _ _ _ _ => out (by kernel_rfl) hin) (Steps1.cons (fun hin _ _ _ _ _ => out (by kernel_rfl) hin) (Steps1.cons (fun hin _ _ _ _ _ => out (by kernel_rfl) hin) (Steps1.cons (fun hin _ _ _ _ _ => out (by kernel_rfl) hin) (Steps1.cons (fun _ ax wx hS hJ hG => ?_) (Steps1.cons (fun hin _ _ _ _ _ => out (by kernel_rfl) hin) Steps1.nil))))))))
          · obtain ⟨v63, q63, h63⟩ := hG.new 63 (by kernel_rfl) (by kernel_rfl)
            have h63b : ∃ r : Nr, v63 = .tuple #[r.v, .int .i64 0] ∧ (1 = 0 → TreeS wx (Off g13 wx) r.v P 60 1000) := h63
            obtain ⟨r, rfl, h0⟩ := h63b
            refine step_slot rfl rfl rfl (step_value (v := .int .i64 0) (w' := wx) rfl rfl ?_ (Below.refl _ _) (fun d hd => by cases hd; exact rfl))
            clear h0 h63
            go_simp
        intro gg wa hSa _ hVa
        simp only [puts, Act.put, List.setIfInBounds_toArray, List.set_cons_succ, List.set_cons_zero]
        clear hVa
        generalize gg 64 = f64 at *
        generalize gg 65 = f65 at *
        generalize gg 66 = f66 at *
        generalize gg 67 = f67 at *
        generalize gg 68 = f68 at *
        generalize gg 63 = f63 at *
        generalize gg 69 = f69 at *
        generalize gg 70 = f70 at *
        obtain ⟨hb, ⟨lo4, ⟨ka4, kn4, kc4⟩, ⟨na4, nn4, nc4⟩, ⟨pa4, pn4, pc4⟩⟩, hbz, hts⟩ := hSa.2 rfl
        have BZa := Lib.hid hbz
        have HWa := Lib.hid (show TreeV wa (.agg #[.string lo4, .slice ka4 kn4 kc4, .slice na4 nn4 nc4, .slice pa4 pn4 pc4]) P 60 1000 from hts.v)
        obtain ⟨w13, hw13⟩ : ∃ wz, wz = wa := ⟨_, rfl⟩
        rw [← hw13] at hb BZa HWa ⊢
        clear hw13 hSa hbz hts HV12 HI12 HB12 BZ12 HC3 HAP
        have HB13 := Lib.hid (HB11.out.trans (hb.mono HB11.out.size))
        have HA13 := Lib.hid (HA11.out.on hb)
        have HT13 := Lib.hid (HT11.out.on hb)
        have BX13 := Lib.hid (show TBox w13 g1 ⟨lo1, ⟨ka1, kn1, kc1⟩, ⟨na1, nn1, nc1⟩, ⟨pa1, pn1, pc1⟩⟩ from BX11.out.on hb)
        have BY13 := Lib.hid (show TBox w13 g7 ⟨lo7, ⟨ka7, kn7, kc7⟩, ⟨na7, nn7, nc7⟩, ⟨pa7, pn7, pc7⟩⟩ from BY11.out.on hb)
        have HU13 := Lib.hid (HU11.out.on hb)
        have HHI13 := Lib.hid (HHI11.out.on hb)
        have HV13 := Lib.hid (HV11.out.on hb)
        clear hb HB11 HA11 HT11 BX11 BY11 HU11 HHI11 HV11 
        have BZ13 := BZa
        have HW13 := HWa
        clear BZa HWa
        obtain ⟨w14, hw14⟩ : ∃ wz, wz = w13.alloc (.cells #[.string noB, .string noB, .bool true] 24) := ⟨_, rfl⟩
        obtain ⟨g15, hg15⟩ : ∃ gz, gz = w13.heap.size := ⟨_, rfl⟩
        have hb14 : Below w13.heap.size w13 w14 := by rw [hw14]; exact (Below.refl _ _).alloc (Nat.le_refl _) _
        have RXa := Lib.hid (show RBlk w14 g15 ⟨noB, noB, true⟩ from by rw [hw14]; exact Box.at_ w13 _ _ hg15)
        have HB14 := Lib.hid (HB13.out.trans (hb14.mono HB13.out.size))
        have HA14 := Lib.hid (HA13.out.on hb14)
        have HT14 := Lib.hid (HT13.out.on hb14)
        have BX14 := Lib.hid (show TBox w14 g1 ⟨lo1, ⟨ka1, kn1, kc1⟩, ⟨na1, nn1, nc1⟩, ⟨pa1, pn1, pc1⟩⟩ from BX13.out.on hb14)
        have BY14 := Lib.hid (show TBox w14 g7 ⟨lo7, ⟨ka7, kn7, kc7⟩, ⟨na7, nn7, nc7⟩, ⟨pa7, pn7, pc7⟩⟩ from BY13.out.on hb14)
        have HU14 := Lib.hid (HU13.out.on hb14)
        have HHI14 := Lib.hid (HHI13.out.on hb14)
        have HV14 := Lib.hid (HV13.out.on hb14)
        have BZ14 := Lib.hid (show TBox w14 g13 ⟨lo4, ⟨ka4, kn4, kc4⟩, ⟨na4, nn4, nc4⟩, ⟨pa4, pn4, pc4⟩⟩ from BZ13.out.on hb14)
        have HW14 := Lib.hid (HW13.out.on hb14)
        clear hb14 HB13 HA13 HT13 BX13 BY13 HU13 HHI13 HV13 BZ13 HW13 
        go_upto_region 17 with fail
        rw [← hg15, ← hw14]
        clear hg15 hw14
        have RX14 := RXa
        clear RXa
        have HPL := Lib.hid (show P.length ≤ 60 by have h1 := (tree_len HT14.out).1; rw [← HLA.out] at h1; have := HL60.out; omega)
        skip
        have hc : Calls Try.prog 17 #[.agg #[.string lo1, .slice ka1 kn1 kc1, .slice na1 nn1 nc1, .slice pa1 pn1 pc1], .agg #[.string noB, .string noB, .bool true]] w14 fun e w' => ∃ v', e = .returned v' ∧ PV w' v' P ∧ Below w14.heap.size w14 w' := by
          have h1 := tscan_any _ _ _ _ ⟨noS, noS, true⟩ w14 HT14.out (by rw [← HLA.out]; have := HL60.out; omega)
          rw [pick_all] at h1
          exact h1
        obtain ⟨b0, b1, b2, b3⟩ := TBox.cells BX14.out
        obtain ⟨r0, r1, r2⟩ := RBlk.cells RX14.out
        simp only at b0 b1 b2 b3 r0 r1 r2
        go_wp2_with fail
        refine hc.mono ?_
        clear hc b0 b1 b2 b3 r0 r1 r2
        rintro e w15 ⟨v15, rfl, hv, hb⟩
        have HX15 := Lib.hid hv
        clear hv
        have HB15 := Lib.hid (HB14.out.trans (hb.mono HB14.out.size))
        have HA15 := Lib.hid (HA14.out.on hb)
        have HT15 := Lib.hid (HT14.out.on hb)
        have BX15 := Lib.hid (show TBox w15 g1 ⟨lo1, ⟨ka1, kn1, kc1⟩, ⟨na1, nn1, nc1⟩, ⟨pa1, pn1, pc1⟩⟩ from BX14.out.on hb)
        have BY15 := Lib.hid (show TBox w15 g7 ⟨lo7, ⟨ka7, kn7, kc7⟩, ⟨na7, nn7, nc7⟩, ⟨pa7, pn7, pc7⟩⟩ from BY14.out.on hb)
        have HU15 := Lib.hid (HU14.out.on hb)
        have HHI15 := Lib.hid (HHI14.out.on hb)
        have HV15 := Lib.hid (HV14.out.on hb)
        have BZ15 := Lib.hid (show TBox w15 g13 ⟨lo4, ⟨ka4, kn4, kc4⟩, ⟨na4, nn4, nc4⟩, ⟨pa4, pn4, pc4⟩⟩ from BZ14.out.on hb)
        have HW15 := Lib.hid (HW14.out.on hb)
        have RX15 := Lib.hid (show RBlk w15 g15 ⟨noB, noB, true⟩ from cells_of RX14.out hb)
        clear hb HB14 HA14 HT14 BX14 BY14 HU14 HHI14 HV14 BZ14 HW14 RX14 
        have hc : Calls Try.prog 17 #[.agg #[.string lo7, .slice ka7 kn7 kc7, .slice na7 nn7 nc7, .slice pa7 pn7 pc7], .agg #[.string noB, .string noB, .bool true]] w15 fun e w' => ∃ v', e = .returned v' ∧ PV w' v' P ∧ Below w15.heap.size w15 w' := by
          have h1 := tscan_any _ _ _ _ ⟨noS, noS, true⟩ w15 HU15.out (by have := HIL.out; omega)
          rw [pick_all] at h1
          exact h1
        obtain ⟨b0, b1, b2, b3⟩ := TBox.cells BY15.out
        obtain ⟨r0, r1, r2⟩ := RBlk.cells RX15.out
        simp only at b0 b1 b2 b3 r0 r1 r2
        go_wp2_with fail
        refine hc.mono ?_
        clear hc b0 b1 b2 b3 r0 r1 r2
        rintro e w16 ⟨v16, rfl, hv, hb⟩
        have HY16 := Lib.hid hv
        clear hv
        have HB16 := Lib.hid (HB15.out.trans (hb.mono HB15.out.size))
        have HA16 := Lib.hid (HA15.out.on hb)
        have HT16 := Lib.hid (HT15.out.on hb)
        have BX16 := Lib.hid (show TBox w16 g1 ⟨lo1, ⟨ka1, kn1, kc1⟩, ⟨na1, nn1, nc1⟩, ⟨pa1, pn1, pc1⟩⟩ from BX15.out.on hb)
        have BY16 := Lib.hid (show TBox w16 g7 ⟨lo7, ⟨ka7, kn7, kc7⟩, ⟨na7, nn7, nc7⟩, ⟨pa7, pn7, pc7⟩⟩ from BY15.out.on hb)
        have HU16 := Lib.hid (HU15.out.on hb)
        have HHI16 := Lib.hid (HHI15.out.on hb)
        have HV16 := Lib.hid (HV15.out.on hb)
        have BZ16 := Lib.hid (show TBox w16 g13 ⟨lo4, ⟨ka4, kn4, kc4⟩, ⟨na4, nn4, nc4⟩, ⟨pa4, pn4, pc4⟩⟩ from BZ15.out.on hb)
        have HW16 := Lib.hid (HW15.out.on hb)
        have RX16 := Lib.hid (show RBlk w16 g15 ⟨noB, noB, true⟩ from cells_of RX15.out hb)
        have HX16 := Lib.hid (HX15.out.on hb)
        clear hb HB15 HA15 HT15 BX15 BY15 HU15 HHI15 HV15 BZ15 HW15 RX15 HX15 
        have hc := same_v HX16.out HY16.out (by have := HPL.out; unfold maxLen; omega)
        rw [decide_eq_true (rfl : P = P)] at hc
        go_wp2_with fail
        refine (hc).mono ?_
        clear  hc
        rintro e w17 ⟨rfl, hb⟩
        have HB17 := Lib.hid (HB16.out.trans (hb.mono HB16.out.size))
        have HA17 := Lib.hid (HA16.out.on hb)
        have HT17 := Lib.hid (HT16.out.on hb)
        have BX17 := Lib.hid (show TBox w17 g1 ⟨lo1, ⟨ka1, kn1, kc1⟩, ⟨na1, nn1, nc1⟩, ⟨pa1, pn1, pc1⟩⟩ from BX16.out.on hb)
        have BY17 := Lib.hid (show TBox w17 g7 ⟨lo7, ⟨ka7, kn7, kc7⟩, ⟨na7, nn7, nc7⟩, ⟨pa7, pn7, pc7⟩⟩ from BY16.out.on hb)
        have HU17 := Lib.hid (HU16.out.on hb)
        have HHI17 := Lib.hid (HHI16.out.on hb)
        have HV17 := Lib.hid (HV16.out.on hb)
        have BZ17 := Lib.hid (show TBox w17 g13 ⟨lo4, ⟨ka4, kn4, kc4⟩, ⟨na4, nn4, nc4⟩, ⟨pa4, pn4, pc4⟩⟩ from BZ16.out.on hb)
        have HW17 := Lib.hid (HW16.out.on hb)
        have RX17 := Lib.hid (show RBlk w17 g15 ⟨noB, noB, true⟩ from cells_of RX16.out hb)
        have HX17 := Lib.hid (HX16.out.on hb)
        have HY17 := Lib.hid (HY16.out.on hb)
        clear hb HB16 HA16 HT16 BX16 BY16 HU16 HHI16 HV16 BZ16 HW16 RX16 HX16 HY16 
        clear HY17 BY17 HU17
        have hc : Calls Try.prog 17 #[.agg #[.string lo4, .slice ka4 kn4 kc4, .slice na4 nn4 nc4, .slice pa4 pn4 pc4], .agg #[.string noB, .string noB, .bool true]] w17 fun e w' => ∃ v', e = .returned v' ∧ PV w' v' P ∧ Below w17.heap.size w17 w' := by
          have h1 := tscan_any _ _ _ _ ⟨noS, noS, true⟩ w17 HW17.out (by omega)
          rw [pick_all] at h1
          exact h1
        obtain ⟨b0, b1, b2, b3⟩ := TBox.cells BZ17.out
        obtain ⟨r0, r1, r2⟩ := RBlk.cells RX17.out
        simp only at b0 b1 b2 b3 r0 r1 r2
        go_wp2_with fail
        refine hc.mono ?_
        clear hc b0 b1 b2 b3 r0 r1 r2
        rintro e w18 ⟨v18, rfl, hv, hb⟩
        have HZ18 := Lib.hid hv
        clear hv
        have HB18 := Lib.hid (HB17.out.trans (hb.mono HB17.out.size))
        have HA18 := Lib.hid (HA17.out.on hb)
        have HT18 := Lib.hid (HT17.out.on hb)
        have BX18 := Lib.hid (show TBox w18 g1 ⟨lo1, ⟨ka1, kn1, kc1⟩, ⟨na1, nn1, nc1⟩, ⟨pa1, pn1, pc1⟩⟩ from BX17.out.on hb)
        have HHI18 := Lib.hid (HHI17.out.on hb)
        have HV18 := Lib.hid (HV17.out.on hb)
        have BZ18 := Lib.hid (show TBox w18 g13 ⟨lo4, ⟨ka4, kn4, kc4⟩, ⟨na4, nn4, nc4⟩, ⟨pa4, pn4, pc4⟩⟩ from BZ17.out.on hb)
        have HW18 := Lib.hid (HW17.out.on hb)
        have RX18 := Lib.hid (show RBlk w18 g15 ⟨noB, noB, true⟩ from cells_of RX17.out hb)
        have HX18 := Lib.hid (HX17.out.on hb)
        clear hb HB17 HA17 HT17 BX17 HHI17 HV17 BZ17 HW17 RX17 HX17 
        have hc := same_v HX18.out HZ18.out (by have := HPL.out; unfold maxLen; omega)
        rw [decide_eq_true (rfl : P = P)] at hc
        go_wp2_with fail
        refine (hc).mono ?_
        clear  hc
        rintro e w19 ⟨rfl, hb⟩
        have HB19 := Lib.hid (HB18.out.trans (hb.mono HB18.out.size))
        have HA19 := Lib.hid (HA18.out.on hb)
        have HT19 := Lib.hid (HT18.out.on hb)
        have BX19 := Lib.hid (show TBox w19 g1 ⟨lo1, ⟨ka1, kn1, kc1⟩, ⟨na1, nn1, nc1⟩, ⟨pa1, pn1, pc1⟩⟩ from BX18.out.on hb)
        have HHI19 := Lib.hid (HHI18.out.on hb)
        have HV19 := Lib.hid (HV18.out.on hb)
        have BZ19 := Lib.hid (show TBox w19 g13 ⟨lo4, ⟨ka4, kn4, kc4⟩, ⟨na4, nn4, nc4⟩, ⟨pa4, pn4, pc4⟩⟩ from BZ18.out.on hb)
        have HW19 := Lib.hid (HW18.out.on hb)
        have RX19 := Lib.hid (show RBlk w19 g15 ⟨noB, noB, true⟩ from cells_of RX18.out hb)
        have HX19 := Lib.hid (HX18.out.on hb)
        have HZ19 := Lib.hid (HZ18.out.on hb)
        clear hb HB18 HA18 HT18 BX18 HHI18 HV18 BZ18 HW18 RX18 HX18 HZ18 
        go_wp2_with fail
        refine (awake_true _).mono ?_
        rintro e w9 ⟨rfl, hb9⟩
        have HB9 := Lib.hid (HB19.out.trans (hb9.mono HB19.out.size))
        clear hb9
        go_wp2
        go_ret
        exact ⟨rfl, HB9.out⟩

end Go.Proofs.Yteddjmkoleclpaa
