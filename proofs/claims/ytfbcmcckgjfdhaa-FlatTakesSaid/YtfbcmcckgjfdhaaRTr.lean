/- The walk of the document's TakeRange. -/
import Derived.Test.YtfbcmcckgjfdhaaRTp
set_option linter.unusedVariables false
set_option linter.unusedSimpArgs false
namespace Go.Proofs.Ytfbcmcckgjfdhaa
open Go.RowKit Go.Sort

theorem stepT_got {ts us : List ByteArray} {s r : ByteArray} {a : Nat} (h : stepT (some (ts, s)) a = some (us, r)) : ∃ t, us = ts ++ [t] ∧ a + 2 + t.size + r.size = s.size ∧ t.size ≤ 65535 := by
  by_cases hc : a ≤ s.size ∧ ttOk (s.extract a s.size) = true
  · rw [stepT_yes hc.1 hc.2] at h
    injection h with h
    injection h with h1 h2
    obtain ⟨g1, g2⟩ := tt_got hc.2
    have hz := textS_len g1
    have hs := congrArg ByteArray.size g2
    rw [ByteArray.size_append, ByteArray.size_extract, hz] at hs
    refine ⟨ttT (s.extract a s.size), h1.symm, by rw [← h2]; omega, ?_⟩
    unfold textOk at g1
    simpa using g1
  · rw [show stepT (some (ts, s)) a = none from by show (if _ then _ else _) = _; rw [if_neg hc]] at h
    cases h
theorem two_sizes {s ta tb r : ByteArray} {a b : Nat} (h : textsT s [a, b] = some ([ta, tb], r)) : a + b + 4 + ta.size + tb.size + r.size = s.size ∧ ta.size ≤ 65535 ∧ tb.size ≤ 65535 := by
  have h : stepT (stepT (some ([], s)) a) b = some ([ta, tb], r) := h
  cases h1 : stepT (some ([], s)) a with
  | none => rw [h1] at h; cases h
  | some p =>
    obtain ⟨us, q⟩ := p
    rw [h1] at h
    obtain ⟨t, e1, e2, e3⟩ := stepT_got h1
    obtain ⟨u, e4, e5, e6⟩ := stepT_got h
    subst e1
    have e7 : [ta, tb] = [t, u] := e4
    injection e7 with e8 e9
    injection e9 with e9 _
    subst e8 e9
    exact ⟨by omega, e3, e6⟩
theorem three_sizes {s ta tb tc r : ByteArray} {a b c : Nat} (h : textsT s [a, b, c] = some ([ta, tb, tc], r)) : a + b + c + 6 + ta.size + tb.size + tc.size + r.size = s.size ∧ ta.size ≤ 65535 ∧ tb.size ≤ 65535 ∧ tc.size ≤ 65535 := by
  have h : stepT (stepT (stepT (some ([], s)) a) b) c = some ([ta, tb, tc], r) := h
  cases h1 : stepT (some ([], s)) a with
  | none => rw [h1] at h; cases h
  | some p =>
    obtain ⟨us, q⟩ := p
    rw [h1] at h
    cases h2 : stepT (some (us, q)) b with
    | none => rw [h2] at h; cases h
    | some p2 =>
      obtain ⟨us2, q2⟩ := p2
      rw [h2] at h
      obtain ⟨t, e1, e2, e3⟩ := stepT_got h1
      obtain ⟨u, e4, e5, e6⟩ := stepT_got h2
      obtain ⟨x, e7, e8, e9⟩ := stepT_got h
      subst e1 e4
      have ea : [ta, tb, tc] = [t, u, x] := e7
      injection ea with f1 f2
      injection f2 with f2 f3
      injection f3 with f3 _
      subst f1 f2 f3
      exact ⟨by omega, e3, e6, e9⟩
/-- A byte of a text. -/
theorem byte_at (s : ByteArray) (k : Nat) (h : k < s.size) : s.data.toList[k]? = some s[k] := by
  rw [List.getElem?_eq_getElem (by rw [len_data]; exact h)]
  rfl

def TRa (ta tb : ByteArray) (ad : Addr) (c k : Nat) (t : Nat) (v : Value) (w : World) : Prop :=
  match t with
  | 19 => v = .slice (some ad) 2 c
  | 20 => v = .pointer (some ad)
  | 21 => v = .string ta
  | 22 => v = .int .i64 (ta.size : Int)
  | 23 => v = .int .i64 (4 + (ta.size : Int))
  | 24 => v = .slice (some ad) 2 c
  | 25 => v = .pointer (some ⟨ad.block, ad.off + 1, none⟩)
  | 26 => v = .string tb
  | 27 => v = .int .i64 (tb.size : Int)
  | 28 => v = .int .i64 (k : Int)
  | 7 => v = .int .i64 (k : Int)
  | _ => True
theorem TRa.on {ta tb : ByteArray} {ad : Addr} {c k : Nat} {t : Nat} {v : Value} {w w' : World} (h : TRa ta tb ad c k t v w) (hb : Below w.heap.size w w') : TRa ta tb ad c k t v w' := by
  unfold TRa at *
  split at h <;> first | exact h | exact h

def TRb (s ta tb : ByteArray) (ad : Addr) (c k bn : Nat) (xop : Bool) (B0 : Nat) (p t : Nat) (v : Value) (w : World) : Prop :=
  match t with
  | 40 => v = .slice (some ad) 2 c
  | 41 => v = .pointer (some ad)
  | 42 => v = .string ta
  | 43 => v = .slice (some ad) 2 c
  | 44 => v = .pointer (some ⟨ad.block, ad.off + 1, none⟩)
  | 45 => v = .string tb
  | 46 => v = .string s
  | 47 => v = .int .i64 (k : Int)
  | 48 => v = .int .u8 (bn : Int)
  | 49 => v = .bool xop
  | 50 => v = .agg #[.string ta, .string tb, .bool xop]
  | 8 => NewB B0 26 #[.string ⟨#[]⟩, .string ⟨#[]⟩, .bool false] #[.string ta, .string tb, .bool xop] p v w
  | _ => True
theorem TRb.on {s ta tb : ByteArray} {ad : Addr} {c k bn : Nat} {xop : Bool} {B0 : Nat} {p t : Nat} {v : Value} {w w' : World} (h : TRb s ta tb ad c k bn xop B0 p t v w) (hb : Below w.heap.size w w') : TRb s ta tb ad c k bn xop B0 p t v w' := by
  unfold TRb at *
  split at h <;> first | exact h | exact NewB.on h hb

def TRc (s ta tb rr : ByteArray) (k g : Nat) (xop : Bool) (p t : Nat) (v : Value) (w : World) : Prop :=
  match t with
  | 56 => v = .agg #[.string ta, .string tb, .bool xop]
  | 57 => v = .string s
  | 58 => v = .int .i64 (k : Int)
  | 59 => v = .int .i64 ((k : Int) + 1)
  | 60 => v = .string rr
  | 3 => v = .string rr
  | 4 => v = .bool true
  | _ => True
theorem TRc.on {s ta tb rr : ByteArray} {k g : Nat} {xop : Bool} {p t : Nat} {v : Value} {w w' : World} (h : TRc s ta tb rr k g xop p t v w) (hb : Below w.heap.size w w') : TRc s ta tb rr k g xop p t v w' := by
  unfold TRc at *
  split at h <;> first | exact h | exact NewB.on h hb

set_option maxRecDepth 100000 in
set_option maxHeartbeats 4000000 in
theorem dtakerange_any (s : ByteArray) (w : World) (hs : s.size ≤ 300) :
    Calls Try.prog 27 #[.string s] w fun e w' => e = .returned (.tuple #[(tRx s).v, .string (tRr s), .bool (kR.dec s).isSome]) ∧ Below w.heap.size w w' := by
  obtain ⟨X, hX⟩ : ∃ X, X = tRx s := ⟨_, rfl⟩
  obtain ⟨R, hR⟩ : ∃ R, R = tRr s := ⟨_, rfl⟩
  obtain ⟨E, hE⟩ : ∃ E, E = (kR.dec s).isSome := ⟨_, rfl⟩
  rw [← hX, ← hR, ← hE]
  have HNo := Lib.hid (show kR.dec s = none → X.v = .agg #[.string noB, .string noB, .bool false] ∧ R = noB ∧ E = false from fun h => by rw [hX, hR, hE, (tR_none h).1, (tR_none h).2.1, h]; exact ⟨rfl, rfl, rfl⟩)
  have HYes := Lib.hid (show ∀ x r, kR.dec s = some (x, r) → X = x ∧ R = r ∧ E = true from fun x r h => by rw [hX, hR, hE, (tR_some h).1, (tR_some h).2.1, h]; exact ⟨rfl, rfl, rfl⟩)
  clear hX hR hE
  obtain ⟨w1, hw1⟩ : ∃ w1, w1 = w.alloc (.cells #[.string ⟨#[]⟩, .string ⟨#[]⟩, .bool false] 26) := ⟨_, rfl⟩
  obtain ⟨q, hq⟩ : ∃ q, q = w.heap.size := ⟨_, rfl⟩
  have hbq : Box w1 q 26 #[.string ⟨#[]⟩, .string ⟨#[]⟩, .bool false] := by rw [hw1]; exact Box.at_ w _ _ hq
  have HB1 := Lib.hid (show Below w.heap.size w w1 from by rw [hw1]; exact (Below.refl _ _).alloc (Nat.le_refl _) _)
  have HQ := Lib.hid (show w.heap.size ≤ q from by omega)
  have Q1 := Lib.hid hbq
  have hc := dtexts_two s 0 0 w1 3 (by unfold maxLen; omega)
  have HD := Lib.hid (show ∀ y r, kR.dec s = some (y, r) → _ from fun y r h => range_stands h)
  have hno : (∀ y r, kR.dec s = some (y, r) → False) → kR.dec s = none := fun h => by
    cases hd : kR.dec s with
    | none => rfl
    | some p => obtain ⟨y, r⟩ := p; exact (h y r hd).elim
  have HN := Lib.hid hno
  clear hno
  cases hx : textsT s [0, 0] with
  | none =>
    obtain ⟨e1, e2⟩ := tT_none hx
    rw [e1, e2] at hc
    have HC := Lib.hid hc
    have HXN := Lib.hid hx
    clear hc e1 e2 hx hbq hs
    go_enter Try.func27, Try.ntmps27
    go_upto_region 1 with fail
    rw [← hq, ← hw1]
    clear hq hw1
    go_wp2_with fail
    refine HC.out.mono ?_
    rintro e w2 ⟨v, rfl, _, hb⟩
    have Q2 := Lib.hid (Q1.out.on hb)
    have HB2 := Lib.hid (HB1.out.trans (hb.mono HB1.out.size))
    clear hb Q1 HB1
    obtain ⟨e1, e2, e3⟩ := HNo.out (HN.out fun y r h => by obtain ⟨q2, e, _⟩ := HD.out y r h; rw [HXN.out] at e; cases e)
    have E1 := Lib.hid e1
    have E2 := Lib.hid e2
    have E3 := Lib.hid e3
    clear e1 e2 e3 
    obtain ⟨j0, j1, j2⟩ := (⟨Box.free Q2.out 0, Box.free Q2.out 1, Box.free Q2.out 2⟩ : _ ∧ _ ∧ _)
    obtain ⟨m0, m1, m2⟩ := (⟨Box.cell Q2.out 0 rfl, Box.cell Q2.out 1 rfl, Box.cell Q2.out 2 rfl⟩ : _ ∧ _ ∧ _)
    go_wp2
    obtain ⟨wz, hz⟩ : ∃ wz, wz = ((w2.setCell ⟨q, 0, none⟩ (.string ⟨#[]⟩)).setCell ⟨q, 1, none⟩ (.string ⟨#[]⟩)).setCell ⟨q, 2, none⟩ (.bool false) := ⟨_, rfl⟩
    rw [← hz]
    have hqz : Box wz q 26 #[.string ⟨#[]⟩, .string ⟨#[]⟩, .bool false] := by rw [hz]; exact ((Box.set Q2.out 0 _).set 1 _).set 2 _
    have hbz : Below w.heap.size w wz := by rw [hz]; exact ((HB2.out.setCell (p := ⟨q, 0, none⟩) HQ.out _).setCell (p := ⟨q, 1, none⟩) HQ.out _).setCell (p := ⟨q, 2, none⟩) HQ.out _
    obtain ⟨p0, p1, p2⟩ := (⟨Box.cell hqz 0 rfl, Box.cell hqz 1 rfl, Box.cell hqz 2 rfl⟩ : _ ∧ _ ∧ _)
    clear hz j0 j1 j2 m0 m1 m2
    exact bodyPost_ret (v := .tuple #[.agg #[.string noB, .string noB, .bool false], .string noB, .bool false]) (by simp [results, Try.results27, go_sem, p0, p1, p2]) rfl ⟨by rw [E1.out, E2.out, E3.out], hbz⟩
  | some p =>
    obtain ⟨ts, r⟩ := p
    obtain ⟨ta, tb, rfl⟩ := textsT_two hx
    obtain ⟨e1, e2⟩ := tT_some hx
    rw [e1, e2] at hc
    have HC := Lib.hid hc
    obtain ⟨hz1, hz2, hz3⟩ := two_sizes hx
    obtain ⟨k, hk⟩ : ∃ k, 4 + ta.size + tb.size = k := ⟨_, rfl⟩
    have HW1 := Lib.hid (show IntKind.i64.wrap (4 + (ta.size : Int)) = 4 + (ta.size : Int) from IntWalk.i64_in _ (by omega))
    have HW2 := Lib.hid (show IntKind.i64.wrap (4 + (ta.size : Int) + (tb.size : Int)) = (k : Int) from by rw [IntWalk.i64_in _ (by omega)]; omega)
    have HXN := Lib.hid hx
    have HK := Lib.hid hk
    have hdn : ∀ y r, kR.dec s = some (y, r) → y.lo = ta ∧ y.hi = tb := fun y r h => by
      obtain ⟨q2, e, _⟩ := HD.out y r h
      rw [hx] at e
      injection e with e
      injection e with e _
      injection e with e3 e4
      injection e4 with e4 _
      exact ⟨e3.symm, e4.symm⟩
    have HDN := Lib.hid hdn
    have hk65 : k ≤ 140000 := by omega
    clear hc e1 e2 hx hbq hdn hz1 hz2 hz3 hk
    go_enter Try.func27, Try.ntmps27
    go_upto_region 1 with fail
    rw [← hq, ← hw1]
    clear hq hw1
    go_wp2_with fail
    refine HC.out.mono ?_
    rintro e w2 ⟨v, rfl, hv, hb⟩
    have Q2 := Lib.hid (Q1.out.on hb)
    have HB2 := Lib.hid (HB1.out.trans (hb.mono HB1.out.size))
    clear hb Q1 HB1
    have TV2 := Lib.hid hv
    obtain ⟨ad, c, rfl, had, d0, d1⟩ := hv.two
    have HC0 := Lib.hid (show ∀ wx, Below w2.heap.size w2 wx → wx.cell? ad = some (.string ta) from fun wx hx => (hx.cell had).trans d0)
    have HC1 := Lib.hid (show ∀ wx, Below w2.heap.size w2 wx → wx.cell? ⟨ad.block, ad.off + 1, none⟩ = some (.string tb) from fun wx hx => (hx.cell (p := ⟨ad.block, ad.off + 1, none⟩) had).trans d1)
    clear had d0 d1
    go_upto_region 4 with fail
    refine wp_region_inv [19, 20, 21, 22, 23, 24, 25, 26, 27, 28, 7] (by kernel_rfl) (by kernel_rfl) (fun w' => Below w2.heap.size w2 w') (fun wa wb => Below wa.heap.size wa wb) (TRa ta tb ad c k) (by kernel_rfl) (fun wa wb h1 h2 => h2.trans (h1.mono h2.size)) (fun t v wa wb h1 h2 => h2.on h1) (Below.refl _ _).drew (steps_of ?_) ?_
    · skip
      refine Steps1.cons (fun ax wx hS hG => ?_) (Steps1.cons (fun ax wx hS hG => ?_) (Steps1.cons (fun ax wx hS hG => ?_) (Steps1.cons (fun ax wx hS hG => ?_) (Steps1.cons (fun ax wx hS hG => ?_) (Steps1.cons (fun ax wx hS hG => ?_) (Steps1.cons (fun ax wx hS hG => ?_) (Steps1.cons (fun ax wx hS hG => ?_) (Steps1.cons (fun ax wx hS hG => ?_) (Steps1.cons (fun ax wx hS hG => ?_) (Steps1.cons (fun ax wx hS hG => ?_) Steps1.nil))))))))))
      · have q5 := hG.old 5 (by kernel_rfl) (by kernel_rfl)
        refine step_value (v := .slice (some ad) 2 c) (w' := wx) rfl rfl ?_ (Below.refl _ _) (fun d hd => by cases hd; exact rfl)
        go_simp
      · obtain ⟨_, q19, rfl⟩ := hG.new 19 (by kernel_rfl) (by kernel_rfl)
        refine step_value (v := .pointer (some ad)) (w' := wx) rfl rfl ?_ (Below.refl _ _) (fun d hd => by cases hd; exact rfl)
        go_simp
      · obtain ⟨_, q20, rfl⟩ := hG.new 20 (by kernel_rfl) (by kernel_rfl)
        have z0 := HC0.out wx hS
        refine step_value (v := .string ta) (w' := wx) rfl rfl ?_ (Below.refl _ _) (fun d hd => by cases hd; exact rfl)
        go_simp
      · obtain ⟨_, q21, rfl⟩ := hG.new 21 (by kernel_rfl) (by kernel_rfl)
        refine step_value (v := .int .i64 (ta.size : Int)) (w' := wx) rfl rfl ?_ (Below.refl _ _) (fun d hd => by cases hd; exact rfl)
        go_simp
      · obtain ⟨_, q22, rfl⟩ := hG.new 22 (by kernel_rfl) (by kernel_rfl)
        refine step_value (v := .int .i64 (4 + (ta.size : Int))) (w' := wx) rfl rfl ?_ (Below.refl _ _) (fun d hd => by cases hd; exact rfl)
        have hw := HW1.out
        go_simp
      · have q5 := hG.old 5 (by kernel_rfl) (by kernel_rfl)
        refine step_value (v := .slice (some ad) 2 c) (w' := wx) rfl rfl ?_ (Below.refl _ _) (fun d hd => by cases hd; exact rfl)
        go_simp
      · obtain ⟨_, q24, rfl⟩ := hG.new 24 (by kernel_rfl) (by kernel_rfl)
        refine step_value (v := .pointer (some ⟨ad.block, ad.off + 1, none⟩)) (w' := wx) rfl rfl ?_ (Below.refl _ _) (fun d hd => by cases hd; exact rfl)
        go_simp
      · obtain ⟨_, q25, rfl⟩ := hG.new 25 (by kernel_rfl) (by kernel_rfl)
        have z0 := HC1.out wx hS
        refine step_value (v := .string tb) (w' := wx) rfl rfl ?_ (Below.refl _ _) (fun d hd => by cases hd; exact rfl)
        go_simp
      · obtain ⟨_, q26, rfl⟩ := hG.new 26 (by kernel_rfl) (by kernel_rfl)
        refine step_value (v := .int .i64 (tb.size : Int)) (w' := wx) rfl rfl ?_ (Below.refl _ _) (fun d hd => by cases hd; exact rfl)
        go_simp
      · obtain ⟨_, q23, rfl⟩ := hG.new 23 (by kernel_rfl) (by kernel_rfl)
        obtain ⟨_, q27, rfl⟩ := hG.new 27 (by kernel_rfl) (by kernel_rfl)
        refine step_value (v := .int .i64 (k : Int)) (w' := wx) rfl rfl ?_ (Below.refl _ _) (fun d hd => by cases hd; exact rfl)
        have hw := HW2.out
        go_simp
      · obtain ⟨_, q28, rfl⟩ := hG.new 28 (by kernel_rfl) (by kernel_rfl)
        refine step_value (v := .int .i64 (k : Int)) (w' := wx) rfl rfl ?_ (Below.refl _ _) (fun d hd => by cases hd; exact rfl)
        go_simp
    intro fv w5 hS5 hV8
    have e7 : fv 7 = .int .i64 (k : Int) := hV8 7 (by decide)
    simp only [puts, Act.put, List.setIfInBounds_toArray, List.set_cons_succ, List.set_cons_zero]
    clear hV8
    rw [e7]
    have Q5 := Lib.hid (Q2.out.on hS5)
    have HB5 := Lib.hid (HB2.out.trans (hS5.mono HB2.out.size))
    have HD0 := Lib.hid (show ∀ wx, Below w5.heap.size w5 wx → wx.cell? ad = some (.string ta) from fun wx hx => HC0.out wx (hS5.trans (hx.mono hS5.size)))
    have HD1 := Lib.hid (show ∀ wx, Below w5.heap.size w5 wx → wx.cell? ⟨ad.block, ad.off + 1, none⟩ = some (.string tb) from fun wx hx => HC1.out wx (hS5.trans (hx.mono hS5.size)))
    clear hS5 Q2 HB2 HC0 HC1
    by_cases hkl : k < s.size
    case neg =>
      have hd : decide ((s.size : Int) ≤ (k : Int)) = true := by simp; omega
      have hd2 : decide (s.size ≤ k) = true := by simp; omega
      have HKL := Lib.hid hkl
      clear hkl
      obtain ⟨e1, e2, e3⟩ := HNo.out (HN.out fun y r h => by
        obtain ⟨_, _, e, _⟩ := HD.out y r h
        obtain ⟨l1, l2⟩ := HDN.out y r h
        rw [l1, l2, HK.out] at e
        obtain ⟨h5, _⟩ := List.getElem?_eq_some_iff.1 e
        rw [len_data] at h5
        exact HKL.out h5)
      have E1 := Lib.hid e1
      have E2 := Lib.hid e2
      have E3 := Lib.hid e3
      clear e1 e2 e3 
      obtain ⟨j0, j1, j2⟩ := (⟨Box.free Q5.out 0, Box.free Q5.out 1, Box.free Q5.out 2⟩ : _ ∧ _ ∧ _)
      obtain ⟨m0, m1, m2⟩ := (⟨Box.cell Q5.out 0 rfl, Box.cell Q5.out 1 rfl, Box.cell Q5.out 2 rfl⟩ : _ ∧ _ ∧ _)
      go_wp2
      obtain ⟨wz, hz⟩ : ∃ wz, wz = ((w5.setCell ⟨q, 0, none⟩ (.string ⟨#[]⟩)).setCell ⟨q, 1, none⟩ (.string ⟨#[]⟩)).setCell ⟨q, 2, none⟩ (.bool false) := ⟨_, rfl⟩
      rw [← hz]
      have hqz : Box wz q 26 #[.string ⟨#[]⟩, .string ⟨#[]⟩, .bool false] := by rw [hz]; exact ((Box.set Q5.out 0 _).set 1 _).set 2 _
      have hbz : Below w.heap.size w wz := by rw [hz]; exact ((HB5.out.setCell (p := ⟨q, 0, none⟩) HQ.out _).setCell (p := ⟨q, 1, none⟩) HQ.out _).setCell (p := ⟨q, 2, none⟩) HQ.out _
      obtain ⟨p0, p1, p2⟩ := (⟨Box.cell hqz 0 rfl, Box.cell hqz 1 rfl, Box.cell hqz 2 rfl⟩ : _ ∧ _ ∧ _)
      clear hz j0 j1 j2 m0 m1 m2
      exact bodyPost_ret (v := .tuple #[.agg #[.string noB, .string noB, .bool false], .string noB, .bool false]) (by simp [results, Try.results27, go_sem, p0, p1, p2]) rfl ⟨by rw [E1.out, E2.out, E3.out], hbz⟩
    have hd : decide ((s.size : Int) ≤ (k : Int)) = false := by simp; omega
    have hd2 : decide (s.size ≤ k) = false := by simp; omega
    have hkb := byte_at s k hkl
    obtain ⟨bn, hbn⟩ : ∃ bn, (s[k]'hkl).toNat = bn := ⟨_, rfl⟩
    have hki : (k : Int) < (s.size : Int) := by omega
    have HKB := Lib.hid hkb
    have HBN := Lib.hid hbn
    have HKL := Lib.hid hkl
    have HKI := Lib.hid hki
    clear hkb
    by_cases hb1 : bn ≤ 1
    case neg =>
      have hdb : decide (1 < (bn : Int)) = true := by simp; omega
      have hdb2 : decide (1 < bn) = true := by simp; omega
      have HBB := Lib.hid hb1
      clear hb1
      obtain ⟨e1, e2, e3⟩ := HNo.out (HN.out fun y r h => by
        obtain ⟨_, _, e, _⟩ := HD.out y r h
        obtain ⟨l1, l2⟩ := HDN.out y r h
        rw [l1, l2, HK.out, HKB.out] at e
        injection e with e
        have h6 := HBN.out
        rw [e] at h6
        apply HBB.out
        rw [← h6]
        cases y.op <;> decide)
      have E1 := Lib.hid e1
      have E2 := Lib.hid e2
      have E3 := Lib.hid e3
      clear e1 e2 e3 
      obtain ⟨j0, j1, j2⟩ := (⟨Box.free Q5.out 0, Box.free Q5.out 1, Box.free Q5.out 2⟩ : _ ∧ _ ∧ _)
      obtain ⟨m0, m1, m2⟩ := (⟨Box.cell Q5.out 0 rfl, Box.cell Q5.out 1 rfl, Box.cell Q5.out 2 rfl⟩ : _ ∧ _ ∧ _)
      go_wp2
      obtain ⟨wz, hz⟩ : ∃ wz, wz = ((w5.setCell ⟨q, 0, none⟩ (.string ⟨#[]⟩)).setCell ⟨q, 1, none⟩ (.string ⟨#[]⟩)).setCell ⟨q, 2, none⟩ (.bool false) := ⟨_, rfl⟩
      rw [← hz]
      have hqz : Box wz q 26 #[.string ⟨#[]⟩, .string ⟨#[]⟩, .bool false] := by rw [hz]; exact ((Box.set Q5.out 0 _).set 1 _).set 2 _
      have hbz : Below w.heap.size w wz := by rw [hz]; exact ((HB5.out.setCell (p := ⟨q, 0, none⟩) HQ.out _).setCell (p := ⟨q, 1, none⟩) HQ.out _).setCell (p := ⟨q, 2, none⟩) HQ.out _
      obtain ⟨p0, p1, p2⟩ := (⟨Box.cell hqz 0 rfl, Box.cell hqz 1 rfl, Box.cell hqz 2 rfl⟩ : _ ∧ _ ∧ _)
      clear hz j0 j1 j2 m0 m1 m2
      exact bodyPost_ret (v := .tuple #[.agg #[.string noB, .string noB, .bool false], .string noB, .bool false]) (by simp [results, Try.results27, go_sem, p0, p1, p2]) rfl ⟨by rw [E1.out, E2.out, E3.out], hbz⟩
    have hdb : decide (1 < (bn : Int)) = false := by simp; omega
    have hdb2 : decide (1 < bn) = false := by simp; omega
    obtain ⟨xop, hxo⟩ : ∃ b, ((bn : Int) == 1) = b := ⟨_, rfl⟩
    have HXO := Lib.hid hxo
    have HTB := Lib.hid (show s.data.toList[4 + ta.size + tb.size]? = some (if xop then 1 else 0) from by
      rw [HK.out, HKB.out, ← hxo]
      congr 1
      apply UInt8.toNat_inj.1
      rw [hbn]
      by_cases h1 : bn = 1
      · subst h1; rfl
      · have h0 : bn = 0 := by omega
        subst h0; rfl)
    clear hxo hb1
    go_upto_region 7 with fail
    · skip
      · skip
        refine wp_region_phase 14 [40, 41, 42, 43, 44, 45, 46, 47, 48, 49, 50, 8] (by kernel_rfl) [12] [] (fun _ _ => True) 1 rfl (by kernel_rfl) (fun _ wx => Below w5.heap.size w5 wx) (fun wa wb => Below wa.heap.size wa wb) (TRb s ta tb ad c k bn xop w5.heap.size) (by kernel_rfl) (fun _ wa wb h1 h2 => h2.trans (h1.mono h2.size)) (fun _ t v wa wb h1 h2 => h2.on h1) (fun _ _ _ _ _ _ _ => trivial) (Below.refl _ _).drew trivial (phase1 ?_ ?_) ?_
        · refine Steps1.cons (fun _ ax wx hS _ hG => ?_) (Steps1.cons (fun _ ax wx hS _ hG => ?_) (Steps1.cons (fun _ ax wx hS _ hG => ?_) (Steps1.cons (fun _ ax wx hS _ hG => ?_) (Steps1.cons (fun _ ax wx hS _ hG => ?_) (Steps1.cons (fun _ ax wx hS _ hG => ?_) (Steps1.cons (fun _ ax wx hS _ hG => ?_) (Steps1.cons (fun _ ax wx hS _ hG => ?_) (Steps1.cons (fun _ ax wx hS _ hG => ?_) (Steps1.cons (fun _ ax wx hS _ hG => ?_) (Steps1.cons (fun _ ax wx hS _ hG => ?_) (Steps1.cons (fun _ ax wx hS _ hG => ?_) (Steps1.cons (fun _ ax wx hS _ hG => ?_) Steps1.nil))))))))))))
          · have q5 := hG.old 5 (by kernel_rfl) (by kernel_rfl)
            refine step_slot rfl rfl rfl (step_value (v := .slice (some ad) 2 c) (w' := wx) rfl rfl ?_ (Below.refl _ _) (fun d hd => by cases hd; exact rfl))
            go_simp
          · obtain ⟨_, q40, rfl⟩ := hG.new 40 (by kernel_rfl) (by kernel_rfl)
            refine step_slot rfl rfl rfl (step_value (v := .pointer (some ad)) (w' := wx) rfl rfl ?_ (Below.refl _ _) (fun d hd => by cases hd; exact rfl))
            go_simp
          · obtain ⟨_, q41, rfl⟩ := hG.new 41 (by kernel_rfl) (by kernel_rfl)
            have z0 := HD0.out wx hS
            refine step_slot rfl rfl rfl (step_value (v := .string ta) (w' := wx) rfl rfl ?_ (Below.refl _ _) (fun d hd => by cases hd; exact rfl))
            go_simp
          · have q5 := hG.old 5 (by kernel_rfl) (by kernel_rfl)
            refine step_slot rfl rfl rfl (step_value (v := .slice (some ad) 2 c) (w' := wx) rfl rfl ?_ (Below.refl _ _) (fun d hd => by cases hd; exact rfl))
            go_simp
          · obtain ⟨_, q43, rfl⟩ := hG.new 43 (by kernel_rfl) (by kernel_rfl)
            refine step_slot rfl rfl rfl (step_value (v := .pointer (some ⟨ad.block, ad.off + 1, none⟩)) (w' := wx) rfl rfl ?_ (Below.refl _ _) (fun d hd => by cases hd; exact rfl))
            go_simp
          · obtain ⟨_, q44, rfl⟩ := hG.new 44 (by kernel_rfl) (by kernel_rfl)
            have z0 := HD1.out wx hS
            refine step_slot rfl rfl rfl (step_value (v := .string tb) (w' := wx) rfl rfl ?_ (Below.refl _ _) (fun d hd => by cases hd; exact rfl))
            go_simp
          · have q0 := hG.old 0 (by kernel_rfl) (by kernel_rfl)
            refine step_slot rfl rfl rfl (step_value (v := .string s) (w' := wx) rfl rfl ?_ (Below.refl _ _) (fun d hd => by cases hd; exact rfl))
            go_simp
          · have q7 := hG.old 7 (by kernel_rfl) (by kernel_rfl)
            refine step_slot rfl rfl rfl (step_value (v := .int .i64 (k : Int)) (w' := wx) rfl rfl ?_ (Below.refl _ _) (fun d hd => by cases hd; exact rfl))
            go_simp
          · obtain ⟨_, q46, rfl⟩ := hG.new 46 (by kernel_rfl) (by kernel_rfl)
            obtain ⟨_, q47, rfl⟩ := hG.new 47 (by kernel_rfl) (by kernel_rfl)
            refine step_slot rfl rfl rfl (step_value (v := .int .u8 (bn : Int)) (w' := wx) rfl rfl ?_ (Below.refl _ _) (fun d hd => by cases hd; exact rfl))
            have hkl := HKL.out
            have hki := HKI.out
            have hbn := HBN.out
            go_simp
          · obtain ⟨_, q48, rfl⟩ := hG.new 48 (by kernel_rfl) (by kernel_rfl)
            refine step_slot rfl rfl rfl (step_value (v := .bool xop) (w' := wx) rfl rfl ?_ (Below.refl _ _) (fun d hd => by cases hd; exact rfl))
            have hx := HXO.out
            go_simp
          · obtain ⟨_, q42, rfl⟩ := hG.new 42 (by kernel_rfl) (by kernel_rfl)
            obtain ⟨_, q45, rfl⟩ := hG.new 45 (by kernel_rfl) (by kernel_rfl)
            obtain ⟨_, q49, rfl⟩ := hG.new 49 (by kernel_rfl) (by kernel_rfl)
            refine step_slot rfl rfl rfl (step_value (v := .agg #[.string ta, .string tb, .bool xop]) (w' := wx) rfl rfl ?_ (Below.refl _ _) (fun d hd => by cases hd; exact rfl))
            go_simp
          · refine step_slot rfl rfl rfl (step_value (v := .pointer (some ⟨wx.heap.size, 0, none⟩)) (w' := wx.alloc (.cells #[.string ⟨#[]⟩, .string ⟨#[]⟩, .bool false] 26)) rfl rfl ?_ ((Below.refl _ _).alloc (Nat.le_refl _) _) (fun d hd => by cases hd; exact ⟨_, rfl, hS.size, fun _ => Box.fresh _ _ _, fun h => absurd h (by decide)⟩))
            go_simp
          · obtain ⟨v8, q8, h8⟩ := hG.new 8 (by kernel_rfl) (by kernel_rfl)
            have p8 : NewB _ _ _ _ _ v8 wx := h8
            obtain ⟨g8, rfl, b8, z8, y8⟩ := p8
            obtain ⟨_, q50, rfl⟩ := hG.new 50 (by kernel_rfl) (by kernel_rfl)
            have hbq := z8 rfl
            have f0 := Box.free hbq 0
            have m0 := Box.cell hbq 0 rfl
            have f1 := Box.free hbq 1
            have m1 := Box.cell hbq 1 rfl
            have f2 := Box.free hbq 2
            have m2 := Box.cell hbq 2 rfl
            have hbz := (Box.set (Box.set (Box.set hbq 0 (.string ta)) 1 (.string tb)) 2 (.bool xop))
            refine step_store (w' := (((wx.setCell ⟨g8, 0, none⟩ (.string ta)).setCell ⟨g8, 1, none⟩ (.string tb)).setCell ⟨g8, 2, none⟩ (.bool xop))) rfl rfl rfl rfl ?_ ((Below.setCell (Below.setCell (Below.setCell hS (p := ⟨g8, 0, none⟩) b8 (.string ta)) (p := ⟨g8, 1, none⟩) b8 (.string tb)) (p := ⟨g8, 2, none⟩) b8 (.bool xop))) trivial ?_
            · clear hbq hS hbz h8
              go_simp
            · intro t u _ hu hV
              by_cases ht : t = 8
              · subst ht
                rw [q8] at hu
                injection hu with hu
                subst hu
                exact ⟨g8, rfl, b8, fun h => absurd h (by decide), fun _ => hbz⟩
              · unfold TRb at *
                split at hV <;> first | exact hV | exact absurd rfl ht
        · refine Steps1.cons (fun hin _ _ _ _ _ => out (by kernel_rfl) hin) (Steps1.cons (fun hin _ _ _ _ _ => out (by kernel_rfl) hin) (Steps1.cons (fun hin _ _ _ _ _ => out (by kernel_rfl) hin) (Steps1.cons (fun hin _ _ _ _ _ => out (by kernel_rfl) hin) (Steps1.cons (fun hin _ _ _ _ _ => out (by kernel_rfl) hin) (Steps1.cons (fun hin _ _ _ _ _ => out (by kernel_rfl) hin) (Steps1.cons (fun hin _ _ _ _ _ => out (by kernel_rfl) hin) (Steps1.cons (fun hin _ _ _ _ _ => out (by kernel_rfl) hin) (Steps1.cons (fun hin _ _ _ _ _ => out (by kernel_rfl) hin) (Steps1.cons (fun hin _ _ _ _ _ => out (by kernel_rfl) hin) (Steps1.cons (fun hin _ _ _ _ _ => out (by kernel_rfl) hin) (Steps1.cons (fun hin _ _ _ _ _ => out (by kernel_rfl) hin) (Steps1.cons (fun hin _ _ _ _ _ => out (by kernel_rfl) hin) Steps1.nil))))))))))))
        intro fv w8 hS8 _ hV8
        have e8 : NewB _ 26 #[.string ⟨#[]⟩, .string ⟨#[]⟩, .bool false] #[.string ta, .string tb, .bool xop] 1 (fv 8) w8 := hV8 8 (by decide)
        simp only [puts, Act.put, List.setIfInBounds_toArray, List.set_cons_succ, List.set_cons_zero]
        clear hV8
        obtain ⟨g, hg6, hge, _, hgb⟩ := e8
        rw [hg6]
        clear hg6 hd hd2 hdb hdb2 hbn hki
        have X8 := Lib.hid (hgb rfl)
        have Q8 := Lib.hid (Q5.out.on hS8)
        have HB8 := Lib.hid (HB5.out.trans (hS8.mono HB5.out.size))
        have HNE := Lib.hid (show g ≠ q from by have := Q5.out.lt; omega)
        clear hge hgb hS8 Q5 HB5 HD0 HD1
        obtain ⟨k0, k1, k2⟩ := (⟨Box.cell X8.out 0 rfl, Box.cell X8.out 1 rfl, Box.cell X8.out 2 rfl⟩ : _ ∧ _ ∧ _)
        go_wp2_with fail
        refine (dright_rng ta tb xop _).mono ?_
        rintro e w9 ⟨rfl, hb⟩
        have X9 := Lib.hid (X8.out.on hb)
        have Q9 := Lib.hid (Q8.out.on hb)
        have HB9 := Lib.hid (HB8.out.trans (hb.mono HB8.out.size))
        clear hb k0 k1 k2 X8 Q8 HB8
        cases hf : rightB ⟨ta, tb, xop⟩ with
        | false =>
          have HF := Lib.hid hf
          clear hf
          obtain ⟨e1, e2, e3⟩ := HNo.out (HN.out fun y r h => by
            obtain ⟨_, _, e, e3, _⟩ := HD.out y r h
            obtain ⟨l1, l2⟩ := HDN.out y r h
            rw [l1, l2, HTB.out] at e
            injection e with e
            have e5 : y = ⟨ta, tb, xop⟩ := by
              obtain ⟨a1, a2, a3⟩ := y
              simp only at l1 l2 e
              subst l1 l2
              have : a3 = xop := by cases a3 <;> cases xop <;> first | rfl | (exfalso; simp at e)
              rw [this]
            rw [e5, HF.out] at e3
            cases e3)
          have E1 := Lib.hid e1
          have E2 := Lib.hid e2
          have E3 := Lib.hid e3
          clear e1 e2 e3 
          obtain ⟨j0, j1, j2⟩ := (⟨Box.free Q9.out 0, Box.free Q9.out 1, Box.free Q9.out 2⟩ : _ ∧ _ ∧ _)
          obtain ⟨m0, m1, m2⟩ := (⟨Box.cell Q9.out 0 rfl, Box.cell Q9.out 1 rfl, Box.cell Q9.out 2 rfl⟩ : _ ∧ _ ∧ _)
          go_wp2
          obtain ⟨wz, hz⟩ : ∃ wz, wz = ((w9.setCell ⟨q, 0, none⟩ (.string ⟨#[]⟩)).setCell ⟨q, 1, none⟩ (.string ⟨#[]⟩)).setCell ⟨q, 2, none⟩ (.bool false) := ⟨_, rfl⟩
          rw [← hz]
          have hqz : Box wz q 26 #[.string ⟨#[]⟩, .string ⟨#[]⟩, .bool false] := by rw [hz]; exact ((Box.set Q9.out 0 _).set 1 _).set 2 _
          have hbz : Below w.heap.size w wz := by rw [hz]; exact ((HB9.out.setCell (p := ⟨q, 0, none⟩) HQ.out _).setCell (p := ⟨q, 1, none⟩) HQ.out _).setCell (p := ⟨q, 2, none⟩) HQ.out _
          obtain ⟨p0, p1, p2⟩ := (⟨Box.cell hqz 0 rfl, Box.cell hqz 1 rfl, Box.cell hqz 2 rfl⟩ : _ ∧ _ ∧ _)
          clear hz j0 j1 j2 m0 m1 m2
          exact bodyPost_ret (v := .tuple #[.agg #[.string noB, .string noB, .bool false], .string noB, .bool false]) (by simp [results, Try.results27, go_sem, p0, p1, p2]) rfl ⟨by rw [E1.out, E2.out, E3.out], hbz⟩
        | true =>
          obtain ⟨e1, e2, e3⟩ := HYes.out _ _ (range_told HXN.out HTB.out hf)
          rw [HK.out] at e2
          obtain ⟨rr, hrr⟩ : ∃ rr, s.extract (k + 1) s.size = rr := ⟨_, rfl⟩
          rw [hrr] at e2
          have E1 := Lib.hid e1
          have E2 := Lib.hid e2
          have E3 := Lib.hid e3
          have HE1 := Lib.hid hrr
          have hkl := HKL.out
          have HE2 := Lib.hid (show (k : Int) + 1 ≤ (s.size : Int) from by omega)
          have HE3 := Lib.hid (show k + 1 ≤ s.size from by omega)
          have HE4 := Lib.hid (show ((k : Int) + 1).toNat = k + 1 from by omega)
          have HE5 := Lib.hid (show ¬ (k : Int) + 1 < 0 from by omega)
          have HW3 := Lib.hid (show IntKind.i64.wrap ((k : Int) + 1) = (k : Int) + 1 from IntWalk.i64_in _ (by omega))
          clear e1 e2 e3 hf hrr
          have HX := Lib.hid (show ∀ wx, Ex q w9 wx → wx.cell? ⟨g, 0, none⟩ = some (.string ta) ∧ wx.cell? ⟨g, 1, none⟩ = some (.string tb) ∧ wx.cell? ⟨g, 2, none⟩ = some (.bool xop) from fun wx hx => by
            have hb := hx.box X9.out HNE.out
            exact ⟨hb.cell 0 rfl, hb.cell 1 rfl, hb.cell 2 rfl⟩)
          go_upto_region 11 with fail
          refine wp_region_phase 14 [56, 57, 58, 59, 60, 3, 4] (by kernel_rfl) [5] [] (fun _ _ => True) 1 rfl (by kernel_rfl) (ResS w9 q 26 #[.string ta, .string tb, .bool xop]) (fun wa wb => Below wa.heap.size wa wb) (TRc s ta tb rr k g xop) (by kernel_rfl) (fun _ wa wb h1 h2 => h2.on h1) (fun _ t v wa wb h1 h2 => h2.on h1) (fun _ _ _ _ _ _ _ => trivial) (ResS.start _ _ _ _) trivial (phase1 ?_ ?_) ?_
          · refine Steps1.cons (fun _ ax wx hS _ hG => ?_) (Steps1.cons (fun _ ax wx hS _ hG => ?_) (Steps1.cons (fun _ ax wx hS _ hG => ?_) (Steps1.cons (fun _ ax wx hS _ hG => ?_) (Steps1.cons (fun _ ax wx hS _ hG => ?_) (Steps1.cons (fun _ ax wx hS _ hG => ?_) (Steps1.cons (fun _ ax wx hS _ hG => ?_) (Steps1.cons (fun _ ax wx hS _ hG => ?_) Steps1.nil)))))))
            · have q8 := hG.old 8 (by kernel_rfl) (by kernel_rfl)
              obtain ⟨z0, z1, z2⟩ := HX.out wx hS.ex
              refine step_slot rfl rfl rfl (step_value (v := .agg #[.string ta, .string tb, .bool xop]) (w' := wx) rfl rfl ?_ (Below.refl _ _) (fun d hd => by cases hd; exact rfl))
              go_simp
            · have q0 := hG.old 0 (by kernel_rfl) (by kernel_rfl)
              refine step_slot rfl rfl rfl (step_value (v := .string s) (w' := wx) rfl rfl ?_ (Below.refl _ _) (fun d hd => by cases hd; exact rfl))
              go_simp
            · have q7 := hG.old 7 (by kernel_rfl) (by kernel_rfl)
              refine step_slot rfl rfl rfl (step_value (v := .int .i64 (k : Int)) (w' := wx) rfl rfl ?_ (Below.refl _ _) (fun d hd => by cases hd; exact rfl))
              go_simp
            · obtain ⟨_, q58, rfl⟩ := hG.new 58 (by kernel_rfl) (by kernel_rfl)
              refine step_slot rfl rfl rfl (step_value (v := .int .i64 ((k : Int) + 1)) (w' := wx) rfl rfl ?_ (Below.refl _ _) (fun d hd => by cases hd; exact rfl))
              have hw := HW3.out
              go_simp
            · obtain ⟨_, q57, rfl⟩ := hG.new 57 (by kernel_rfl) (by kernel_rfl)
              obtain ⟨_, q59, rfl⟩ := hG.new 59 (by kernel_rfl) (by kernel_rfl)
              refine step_slot rfl rfl rfl (step_value (v := .string rr) (w' := wx) rfl rfl ?_ (Below.refl _ _) (fun d hd => by cases hd; exact rfl))
              have h1 := HE1.out
              have h2 := HE2.out
              have h3 := HE3.out
              have h4 := HE4.out
              have h5 := HE5.out
              go_simp
            · have q2 := hG.old 2 (by kernel_rfl) (by kernel_rfl)
              obtain ⟨_, q56, rfl⟩ := hG.new 56 (by kernel_rfl) (by kernel_rfl)
              have hbq := Q9.out.on (hS.fresh rfl)
              have f0 := Box.free hbq 0
              have m0 := Box.cell hbq 0 rfl
              have f1 := Box.free hbq 1
              have m1 := Box.cell hbq 1 rfl
              have f2 := Box.free hbq 2
              have m2 := Box.cell hbq 2 rfl
              skip
              refine step_store (w' := (((wx.setCell ⟨q, 0, none⟩ (.string ta)).setCell ⟨q, 1, none⟩ (.string tb)).setCell ⟨q, 2, none⟩ (.bool xop))) rfl rfl rfl rfl ?_ (⟨(Ex.trans (Ex.trans (Ex.trans hS.ex (Ex.set (g := q) (i := 0) _ (.string ta))) (Ex.set (g := q) (i := 1) _ (.string tb))) (Ex.set (g := q) (i := 2) _ (.bool xop))), fun h => absurd h (by decide), fun _ => (Box.set (Box.set (Box.set hbq 0 (.string ta)) 1 (.string tb)) 2 (.bool xop))⟩) trivial ?_
              · clear hbq hS
                go_simp
              · intro t u _ hu hV
                unfold TRc at *
                split at hV <;> exact hV
            · obtain ⟨_, q60, rfl⟩ := hG.new 60 (by kernel_rfl) (by kernel_rfl)
              refine step_slot rfl rfl rfl (step_value (v := .string rr) (w' := wx) rfl rfl ?_ (Below.refl _ _) (fun d hd => by cases hd; exact rfl))
              go_simp
            · refine step_slot rfl rfl rfl (step_value (v := .bool true) (w' := wx) rfl rfl ?_ (Below.refl _ _) (fun d hd => by cases hd; exact rfl))
              go_simp
          · refine Steps1.cons (fun hin _ _ _ _ _ => out (by kernel_rfl) hin) (Steps1.cons (fun _ ax wx hS _ hG => ?_) (Steps1.cons (fun _ ax wx hS _ hG => ?_) (Steps1.cons (fun _ ax wx hS _ hG => ?_) (Steps1.cons (fun _ ax wx hS _ hG => ?_) (Steps1.cons (fun hin _ _ _ _ _ => out (by kernel_rfl) hin) (Steps1.cons (fun _ ax wx hS _ hG => ?_) (Steps1.cons (fun _ ax wx hS _ hG => ?_) Steps1.nil)))))))
            · have q0 := hG.old 0 (by kernel_rfl) (by kernel_rfl)
              refine step_slot rfl rfl rfl (step_value (v := .string s) (w' := wx) rfl rfl ?_ (Below.refl _ _) (fun d hd => by cases hd; exact rfl))
              go_simp
            · have q7 := hG.old 7 (by kernel_rfl) (by kernel_rfl)
              refine step_slot rfl rfl rfl (step_value (v := .int .i64 (k : Int)) (w' := wx) rfl rfl ?_ (Below.refl _ _) (fun d hd => by cases hd; exact rfl))
              go_simp
            · obtain ⟨_, q58, rfl⟩ := hG.new 58 (by kernel_rfl) (by kernel_rfl)
              refine step_slot rfl rfl rfl (step_value (v := .int .i64 ((k : Int) + 1)) (w' := wx) rfl rfl ?_ (Below.refl _ _) (fun d hd => by cases hd; exact rfl))
              have hw := HW3.out
              go_simp
            · obtain ⟨_, q57, rfl⟩ := hG.new 57 (by kernel_rfl) (by kernel_rfl)
              obtain ⟨_, q59, rfl⟩ := hG.new 59 (by kernel_rfl) (by kernel_rfl)
              refine step_slot rfl rfl rfl (step_value (v := .string rr) (w' := wx) rfl rfl ?_ (Below.refl _ _) (fun d hd => by cases hd; exact rfl))
              have h1 := HE1.out
              have h2 := HE2.out
              have h3 := HE3.out
              have h4 := HE4.out
              have h5 := HE5.out
              go_simp
            · obtain ⟨_, q60, rfl⟩ := hG.new 60 (by kernel_rfl) (by kernel_rfl)
              refine step_slot rfl rfl rfl (step_value (v := .string rr) (w' := wx) rfl rfl ?_ (Below.refl _ _) (fun d hd => by cases hd; exact rfl))
              go_simp
            · refine step_slot rfl rfl rfl (step_value (v := .bool true) (w' := wx) rfl rfl ?_ (Below.refl _ _) (fun d hd => by cases hd; exact rfl))
              go_simp
          intro fv w8 hS8 _ hV8
          have e3 : fv 3 = .string rr := hV8 3 (by decide)
          have e4 : fv 4 = .bool true := hV8 4 (by decide)
          simp only [puts, Act.put, List.setIfInBounds_toArray, List.set_cons_succ, List.set_cons_zero]
          clear hV8
          rw [e3, e4]
          have hqz := hS8.done rfl
          obtain ⟨p0, p1, p2⟩ := (⟨Box.cell hqz 0 rfl, Box.cell hqz 1 rfl, Box.cell hqz 2 rfl⟩ : _ ∧ _ ∧ _)
          have HBZ := Lib.hid (show Below w.heap.size w w8 from Ex.below HB9.out hS8.ex HQ.out HB9.out.size)
          clear hqz hS8
          go_wp2
          exact bodyPost_ret (v := .tuple #[.agg #[.string ta, .string tb, .bool xop], .string rr, .bool true]) (by simp [results, Try.results27, go_sem, p0, p1, p2]) rfl ⟨by rw [E1.out, E2.out, E3.out]; rfl, HBZ.out⟩

end Go.Proofs.Ytfbcmcckgjfdhaa
