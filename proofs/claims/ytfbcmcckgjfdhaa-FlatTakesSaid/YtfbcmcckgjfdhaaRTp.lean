/- The walk of the document's TakePair; its Texts at literal slices. -/
import Derived.Test.YtfbcmcckgjfdhaaRTx
set_option linter.unusedVariables false
set_option linter.unusedSimpArgs false
namespace Go.Proofs.Ytfbcmcckgjfdhaa
open Go.RowKit Go.Sort

theorem dtexts_two (s : ByteArray) (a b : Nat) (w : World) (t : TypeId) (hs : s.size ≤ maxLen) :
    Calls Try.prog 63 #[.string s, .slice (some ⟨w.heap.size, 0, none⟩) 2 2] (w.alloc (.cells #[.int .i64 (a : Int), .int .i64 (b : Int)] t)) fun e w' => ∃ v, e = .returned (.tuple #[v, .bool (textsT s [a, b]).isSome]) ∧ TV w' v (tT s [a, b]) ∧ Below w.heap.size w w' :=
  (dtexts_any s [a, b] ⟨w.heap.size, 0, none⟩ 2 2 _ rfl (by simp) (fun i hi => by
    match i, hi with
    | 0, _ => simp [Addr.add]
    | 1, _ => simp [Addr.add]) (by omega) hs).mono fun e w' h => by
    obtain ⟨v, e1, e2, e3⟩ := h
    exact ⟨v, e1, e2, below1 e3⟩
theorem dtexts_three (s : ByteArray) (a b c : Nat) (w : World) (t : TypeId) (hs : s.size ≤ maxLen) :
    Calls Try.prog 63 #[.string s, .slice (some ⟨w.heap.size, 0, none⟩) 3 3] (w.alloc (.cells #[.int .i64 (a : Int), .int .i64 (b : Int), .int .i64 (c : Int)] t)) fun e w' => ∃ v, e = .returned (.tuple #[v, .bool (textsT s [a, b, c]).isSome]) ∧ TV w' v (tT s [a, b, c]) ∧ Below w.heap.size w w' :=
  (dtexts_any s [a, b, c] ⟨w.heap.size, 0, none⟩ 3 3 _ rfl (by simp) (fun i hi => by
    match i, hi with
    | 0, _ => simp [Addr.add]
    | 1, _ => simp [Addr.add]
    | 2, _ => simp [Addr.add]) (by omega) hs).mono fun e w' h => by
    obtain ⟨v, e1, e2, e3⟩ := h
    exact ⟨v, e1, e2, below1 e3⟩
theorem TV.two {w : World} {v : Value} {t u : ByteArray} (h : TV w v [t, u]) : ∃ (ad : Addr) (c : Nat), v = .slice (some ad) 2 c ∧ ad.block < w.heap.size ∧ w.cell? ad = some (.string t) ∧ w.cell? ⟨ad.block, ad.off + 1, none⟩ = some (.string u) := by
  obtain ⟨A, c, rfl, hs⟩ := h
  obtain ⟨ad, rfl, hB, hc⟩ := hs (by simp)
  have h0 := hc 0 (by simp)
  have h1 := hc 1 (by simp)
  rw [Addr.add_zero'] at h0
  rw [Addr.add_succ'] at h1
  exact ⟨ad, c, rfl, hB, h0, h1⟩
theorem TV.three {w : World} {v : Value} {t u x : ByteArray} (h : TV w v [t, u, x]) : ∃ (ad : Addr) (c : Nat), v = .slice (some ad) 3 c ∧ ad.block < w.heap.size ∧ w.cell? ad = some (.string t) ∧ w.cell? ⟨ad.block, ad.off + 1, none⟩ = some (.string u) ∧ w.cell? ⟨ad.block, ad.off + 2, none⟩ = some (.string x) := by
  obtain ⟨A, c, rfl, hs⟩ := h
  obtain ⟨ad, rfl, hB, hc⟩ := hs (by simp)
  have h0 := hc 0 (by simp)
  have h1 := hc 1 (by simp)
  have h2 := hc 2 (by simp)
  rw [Addr.add_zero'] at h0
  rw [Addr.add_succ'] at h1 h2
  exact ⟨ad, c, rfl, hB, h0, h1, h2⟩
theorem textsT_two {s : ByteArray} {a b : Nat} {ts : List ByteArray} {r : ByteArray} (h : textsT s [a, b] = some (ts, r)) : ∃ t u, ts = [t, u] := by
  have h1 := (textsT_len s _ _ _ _ _ h).1
  match ts, h1 with
  | [t, u], _ => exact ⟨t, u, rfl⟩
theorem textsT_three {s : ByteArray} {a b c : Nat} {ts : List ByteArray} {r : ByteArray} (h : textsT s [a, b, c] = some (ts, r)) : ∃ t u x, ts = [t, u, x] := by
  have h1 := (textsT_len s _ _ _ _ _ h).1
  match ts, h1 with
  | [t, u, x], _ => exact ⟨t, u, x, rfl⟩

def TPaV (ta tb : ByteArray) (ad : Addr) (c : Nat) (B0 : Nat) (p t : Nat) (v : Value) (w : World) : Prop :=
  match t with
  | 17 => v = .slice (some ad) 2 c
  | 18 => v = .pointer (some ad)
  | 19 => v = .string ta
  | 20 => v = .slice (some ad) 2 c
  | 21 => v = .pointer (some ⟨ad.block, ad.off + 1, none⟩)
  | 22 => v = .string tb
  | 23 => v = .agg #[.string ta, .string tb]
  | 6 => NewB B0 66 #[.string ⟨#[]⟩, .string ⟨#[]⟩] #[.string ta, .string tb] p v w
  | _ => True
theorem TPaV.on {ta tb : ByteArray} {ad : Addr} {c : Nat} {B0 : Nat} {p t : Nat} {v : Value} {w w' : World} (h : TPaV ta tb ad c B0 p t v w) (hb : Below w.heap.size w w') : TPaV ta tb ad c B0 p t v w' := by
  unfold TPaV at *
  split at h <;> first | exact h | exact NewB.on h hb

set_option maxRecDepth 100000 in
set_option maxHeartbeats 4000000 in
theorem dtakepair_any (s : ByteArray) (w : World) (hs : s.size ≤ maxLen) :
    Calls Try.prog 30 #[.string s] w fun e w' => ∃ (x : Pr) (ok : Bool), e = .returned (.tuple #[Pr.v' x, .bool ok]) ∧ kP.Tells s x ok ∧ Below w.heap.size w w' := by
  obtain ⟨w1, hw1⟩ : ∃ w1, w1 = w.alloc (.cells #[.string ⟨#[]⟩, .string ⟨#[]⟩] 66) := ⟨_, rfl⟩
  obtain ⟨q, hq⟩ : ∃ q, q = w.heap.size := ⟨_, rfl⟩
  have hbq : Box w1 q 66 #[.string ⟨#[]⟩, .string ⟨#[]⟩] := by rw [hw1]; exact Box.at_ w _ _ hq
  have HB1 := Lib.hid (show Below w.heap.size w w1 from by rw [hw1]; exact (Below.refl _ _).alloc (Nat.le_refl _) _)
  have HQ := Lib.hid (show w.heap.size ≤ q from by omega)
  have Q1 := Lib.hid hbq
  have hc := dtexts_two s 0 0 w1 3 hs
  cases hx : textsT s [0, 0] with
  | none =>
    obtain ⟨e1, e2⟩ := tT_none hx
    rw [e1, e2] at hc
    have HC := Lib.hid hc
    have HT := Lib.hid (show kP.Tells s ⟨noB, noB⟩ false from kP.tells_no _ fun y r h => by rw [(pair_stands h).1] at hx; cases hx)
    clear hc e1 e2 hx hbq hs
    go_enter Try.func30, Try.ntmps30
    go_upto_region 1 with fail
    rw [← hq, ← hw1]
    clear hq hw1
    go_wp2_with fail
    refine HC.out.mono ?_
    rintro e w2 ⟨v, rfl, _, hb⟩
    have Q2 := Lib.hid (Q1.out.on hb)
    have HB2 := Lib.hid (HB1.out.trans (hb.mono HB1.out.size))
    clear hb Q1 HB1
    obtain ⟨j0, j1⟩ := (⟨Box.free Q2.out 0, Box.free Q2.out 1⟩ : _ ∧ _)
    obtain ⟨m0, m1⟩ := (⟨Box.cell Q2.out 0 rfl, Box.cell Q2.out 1 rfl⟩ : _ ∧ _)
    go_wp2
    obtain ⟨wz, hz⟩ : ∃ wz, wz = (w2.setCell ⟨q, 0, none⟩ (.string ⟨#[]⟩)).setCell ⟨q, 1, none⟩ (.string ⟨#[]⟩) := ⟨_, rfl⟩
    rw [← hz]
    have hqz : Box wz q 66 #[.string ⟨#[]⟩, .string ⟨#[]⟩] := by rw [hz]; exact (Box.set Q2.out 0 _).set 1 _
    have hbz : Below w.heap.size w wz := by rw [hz]; exact (HB2.out.setCell (p := ⟨q, 0, none⟩) HQ.out _).setCell (p := ⟨q, 1, none⟩) HQ.out _
    obtain ⟨p0, p1⟩ := (⟨Box.cell hqz 0 rfl, Box.cell hqz 1 rfl⟩ : _ ∧ _)
    clear hz j0 j1 m0 m1
    exact bodyPost_ret (v := .tuple #[.agg #[.string noB, .string noB], .bool false]) (by simp [results, Try.results30, go_sem, p0, p1]) rfl ⟨⟨noB, noB⟩, false, rfl, HT.out, hbz⟩
  | some p =>
    obtain ⟨ts, r⟩ := p
    obtain ⟨ta, tb, rfl⟩ := textsT_two hx
    obtain ⟨e1, e2⟩ := tT_some hx
    rw [e1, e2] at hc
    have HC := Lib.hid hc
    have HT := Lib.hid (pair_told hx)
    clear hc e1 e2 hx hbq hs
    go_enter Try.func30, Try.ntmps30
    go_upto_region 1 with fail
    rw [← hq, ← hw1]
    clear hq hw1
    go_wp2_with fail
    refine HC.out.mono ?_
    rintro e w2 ⟨v, rfl, hv, hb⟩
    have Q2 := Lib.hid (Q1.out.on hb)
    have HB2 := Lib.hid (HB1.out.trans (hb.mono HB1.out.size))
    clear hb Q1 HB1
    obtain ⟨ad, c, rfl, had, d0, d1⟩ := hv.two
    have HC0 := Lib.hid (show ∀ wx, Below w2.heap.size w2 wx → wx.cell? ad = some (.string ta) from fun wx hx => (hx.cell had).trans d0)
    have HC1 := Lib.hid (show ∀ wx, Below w2.heap.size w2 wx → wx.cell? ⟨ad.block, ad.off + 1, none⟩ = some (.string tb) from fun wx hx => (hx.cell (p := ⟨ad.block, ad.off + 1, none⟩) had).trans d1)
    clear hv had d0 d1
    go_upto_region 4 with fail
    refine wp_region_phase 14 [17, 18, 19, 20, 21, 22, 23, 6] (by kernel_rfl) [8] [] (fun _ _ => True) 1 rfl (by kernel_rfl) (fun _ wx => Below w2.heap.size w2 wx) (fun wa wb => Below wa.heap.size wa wb) (TPaV ta tb ad c w2.heap.size) (by kernel_rfl) (fun _ wa wb h1 h2 => h2.trans (h1.mono h2.size)) (fun _ t v wa wb h1 h2 => h2.on h1) (fun _ _ _ _ _ _ _ => trivial) (Below.refl _ _).drew trivial (phase1 ?_ ?_) ?_
    · refine Steps1.cons (fun _ ax wx hS _ hG => ?_) (Steps1.cons (fun _ ax wx hS _ hG => ?_) (Steps1.cons (fun _ ax wx hS _ hG => ?_) (Steps1.cons (fun _ ax wx hS _ hG => ?_) (Steps1.cons (fun _ ax wx hS _ hG => ?_) (Steps1.cons (fun _ ax wx hS _ hG => ?_) (Steps1.cons (fun _ ax wx hS _ hG => ?_) (Steps1.cons (fun _ ax wx hS _ hG => ?_) (Steps1.cons (fun _ ax wx hS _ hG => ?_) Steps1.nil))))))))
      · have q4 := hG.old 4 (by kernel_rfl) (by kernel_rfl)
        refine step_slot rfl rfl rfl (step_value (v := .slice (some ad) 2 c) (w' := wx) rfl rfl ?_ (Below.refl _ _) (fun d hd => by cases hd; exact rfl))
        go_simp
      · obtain ⟨_, q17, rfl⟩ := hG.new 17 (by kernel_rfl) (by kernel_rfl)
        refine step_slot rfl rfl rfl (step_value (v := .pointer (some ad)) (w' := wx) rfl rfl ?_ (Below.refl _ _) (fun d hd => by cases hd; exact rfl))
        go_simp
      · obtain ⟨_, q18, rfl⟩ := hG.new 18 (by kernel_rfl) (by kernel_rfl)
        have z0 := HC0.out wx hS
        refine step_slot rfl rfl rfl (step_value (v := .string ta) (w' := wx) rfl rfl ?_ (Below.refl _ _) (fun d hd => by cases hd; exact rfl))
        go_simp
      · have q4 := hG.old 4 (by kernel_rfl) (by kernel_rfl)
        refine step_slot rfl rfl rfl (step_value (v := .slice (some ad) 2 c) (w' := wx) rfl rfl ?_ (Below.refl _ _) (fun d hd => by cases hd; exact rfl))
        go_simp
      · obtain ⟨_, q20, rfl⟩ := hG.new 20 (by kernel_rfl) (by kernel_rfl)
        refine step_slot rfl rfl rfl (step_value (v := .pointer (some ⟨ad.block, ad.off + 1, none⟩)) (w' := wx) rfl rfl ?_ (Below.refl _ _) (fun d hd => by cases hd; exact rfl))
        go_simp
      · obtain ⟨_, q21, rfl⟩ := hG.new 21 (by kernel_rfl) (by kernel_rfl)
        have z0 := HC1.out wx hS
        refine step_slot rfl rfl rfl (step_value (v := .string tb) (w' := wx) rfl rfl ?_ (Below.refl _ _) (fun d hd => by cases hd; exact rfl))
        go_simp
      · obtain ⟨_, q19, rfl⟩ := hG.new 19 (by kernel_rfl) (by kernel_rfl)
        obtain ⟨_, q22, rfl⟩ := hG.new 22 (by kernel_rfl) (by kernel_rfl)
        refine step_slot rfl rfl rfl (step_value (v := .agg #[.string ta, .string tb]) (w' := wx) rfl rfl ?_ (Below.refl _ _) (fun d hd => by cases hd; exact rfl))
        go_simp
      · refine step_slot rfl rfl rfl (step_value (v := .pointer (some ⟨wx.heap.size, 0, none⟩)) (w' := wx.alloc (.cells #[.string ⟨#[]⟩, .string ⟨#[]⟩] 66)) rfl rfl ?_ ((Below.refl _ _).alloc (Nat.le_refl _) _) (fun d hd => by cases hd; exact ⟨_, rfl, hS.size, fun _ => Box.fresh _ _ _, fun h => absurd h (by decide)⟩))
        go_simp
      · obtain ⟨v6, q6, h6⟩ := hG.new 6 (by kernel_rfl) (by kernel_rfl)
        have p6 : NewB _ _ _ _ _ v6 wx := h6
        obtain ⟨g6, rfl, b6, z6, y6⟩ := p6
        obtain ⟨_, q23, rfl⟩ := hG.new 23 (by kernel_rfl) (by kernel_rfl)
        have hbq := z6 rfl
        have f0 := Box.free hbq 0
        have m0 := Box.cell hbq 0 rfl
        have f1 := Box.free hbq 1
        have m1 := Box.cell hbq 1 rfl
        have hbz := (Box.set (Box.set hbq 0 (.string ta)) 1 (.string tb))
        refine step_store (w' := ((wx.setCell ⟨g6, 0, none⟩ (.string ta)).setCell ⟨g6, 1, none⟩ (.string tb))) rfl rfl rfl rfl ?_ ((Below.setCell (Below.setCell hS (p := ⟨g6, 0, none⟩) b6 (.string ta)) (p := ⟨g6, 1, none⟩) b6 (.string tb))) trivial ?_
        · clear hbq hS hbz h6
          go_simp
        · intro t u _ hu hV
          by_cases ht : t = 6
          · subst ht
            rw [q6] at hu
            injection hu with hu
            subst hu
            exact ⟨g6, rfl, b6, fun h => absurd h (by decide), fun _ => hbz⟩
          · unfold TPaV at *
            split at hV <;> first | exact hV | exact absurd rfl ht
    · refine Steps1.cons (fun hin _ _ _ _ _ => out (by kernel_rfl) hin) (Steps1.cons (fun hin _ _ _ _ _ => out (by kernel_rfl) hin) (Steps1.cons (fun hin _ _ _ _ _ => out (by kernel_rfl) hin) (Steps1.cons (fun hin _ _ _ _ _ => out (by kernel_rfl) hin) (Steps1.cons (fun hin _ _ _ _ _ => out (by kernel_rfl) hin) (Steps1.cons (fun hin _ _ _ _ _ => out (by kernel_rfl) hin) (Steps1.cons (fun hin _ _ _ _ _ => out (by kernel_rfl) hin) (Steps1.cons (fun hin _ _ _ _ _ => out (by kernel_rfl) hin) (Steps1.cons (fun hin _ _ _ _ _ => out (by kernel_rfl) hin) Steps1.nil))))))))
    intro fv w8 hS8 _ hV8
    have e6 : NewB _ 66 #[.string ⟨#[]⟩, .string ⟨#[]⟩] #[.string ta, .string tb] 1 (fv 6) w8 := hV8 6 (by decide)
    simp only [puts, Act.put, List.setIfInBounds_toArray, List.set_cons_succ, List.set_cons_zero]
    clear hV8
    obtain ⟨g, hg6, hge, _, hgb⟩ := e6
    rw [hg6]
    clear hg6
    have X8 := Lib.hid (hgb rfl)
    have Q8 := Lib.hid (Q2.out.on hS8)
    have HB8 := Lib.hid (HB2.out.trans (hS8.mono HB2.out.size))
    have HNE := Lib.hid (show g ≠ q from by have := Q2.out.lt; omega)
    clear hge hgb hS8 Q2 HB2
    have hd := dright_pr (some ⟨w8.heap.size, 0, none⟩) 1 [⟨ta, tb⟩] (w8.alloc (.cells #[.string ta, .string tb] 66)) (by
      have h := Lies.lit (w := w8) (t := 66) (C := #[.string ta, .string tb]) (l := [(⟨ta, tb⟩ : Pr)]) Pr.cells2 rfl
      simpa using h) (by unfold maxLen; simp)
    rw [well_one] at hd
    have HD := Lib.hid hd
    clear hd
    obtain ⟨k0, k1⟩ := (⟨Box.cell X8.out 0 rfl, Box.cell X8.out 1 rfl⟩ : _ ∧ _)
    go_wp2_with fail
    refine HD.out.mono ?_
    rintro e w9 ⟨rfl, hb⟩
    have X9 := Lib.hid (X8.out.on (below1 hb))
    have Q9 := Lib.hid (Q8.out.on (below1 hb))
    have HB9 := Lib.hid (HB8.out.trans ((below1 hb).mono HB8.out.size))
    clear hb k0 k1 X8 Q8 HB8
    obtain ⟨k0, k1⟩ := (⟨Box.cell X9.out 0 rfl, Box.cell X9.out 1 rfl⟩ : _ ∧ _)
    obtain ⟨j0, j1⟩ := (⟨Box.free Q9.out 0, Box.free Q9.out 1⟩ : _ ∧ _)
    obtain ⟨m0, m1⟩ := (⟨Box.cell Q9.out 0 rfl, Box.cell Q9.out 1 rfl⟩ : _ ∧ _)
    go_wp2
    obtain ⟨wz, hz⟩ : ∃ wz, wz = (w9.setCell ⟨q, 0, none⟩ (.string ta)).setCell ⟨q, 1, none⟩ (.string tb) := ⟨_, rfl⟩
    rw [← hz]
    have hqz : Box wz q 66 #[.string ta, .string tb] := by rw [hz]; exact (Box.set Q9.out 0 _).set 1 _
    have hbz : Below w.heap.size w wz := by rw [hz]; exact (HB9.out.setCell (p := ⟨q, 0, none⟩) HQ.out _).setCell (p := ⟨q, 1, none⟩) HQ.out _
    obtain ⟨p0, p1⟩ := (⟨Box.cell hqz 0 rfl, Box.cell hqz 1 rfl⟩ : _ ∧ _)
    clear hz j0 j1 m0 m1 k0 k1
    exact bodyPost_ret (v := .tuple #[.agg #[.string ta, .string tb], .bool (fitsP ⟨ta, tb⟩)]) (by simp [results, Try.results30, go_sem, p0, p1]) rfl ⟨⟨ta, tb⟩, fitsP ⟨ta, tb⟩, rfl, HT.out, hbz⟩

end Go.Proofs.Ytfbcmcckgjfdhaa
