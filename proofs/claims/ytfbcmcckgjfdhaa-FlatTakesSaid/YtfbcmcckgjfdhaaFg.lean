/- The walks of flat's Range and TakeRange, and of the document's Range. -/
import Derived.Test.YtfbcmcckgjfdhaaPh7
set_option linter.unusedVariables false
set_option linter.unusedSimpArgs false
namespace Go.Proofs.Ytfbcmcckgjfdhaa
open Go.RowKit Go.Sort

def rS (r : Rng) : ByteArray := if rightB r then rngB r else noB
def rE (r : Rng) : Int := if rightB r then 0 else 1
def RGV (lo hi : ByteArray) (op : Bool) (g : Nat) (t : Nat) (v : Value) (w : World) : Prop :=
  match t with
  | 7 => v = .pointer (some ⟨g, 0, none⟩)
  | 8 => v = .string lo
  | 9 => v = .pointer (some ⟨g, 1, none⟩)
  | 10 => v = .string hi
  | 11 => ∃ B, v = .slice (some B) 2 2 ∧ Strs w w.heap.size (some B) [lo, hi]
  | 12 => v = .string (textS lo ++ textS hi)
  | 13 => v = .pointer (some ⟨g, 2, none⟩)
  | 14 => v = .bool op
  | 15 => v = .string (fS op)
  | 16 => v = .string (textS lo ++ textS hi ++ fS op)
  | 2 => v = .string (textS lo ++ textS hi ++ fS op)
  | 3 => v = .int .i64 0
  | _ => True
theorem RGV.on {lo hi : ByteArray} {op : Bool} {g : Nat} {t : Nat} {v : Value} {w w' : World} (h : RGV lo hi op g t v w) (hb : Below w.heap.size w w') : RGV lo hi op g t v w' := by
  unfold RGV at *
  split at h <;> first | exact h | exact (let ⟨B, e, hs⟩ := h; ⟨B, e, (hs.below hb).more hb.size⟩)

set_option maxRecDepth 100000 in
set_option maxHeartbeats 2000000 in
theorem rangew_any (lo hi : ByteArray) (op : Bool) (w : World) :
    Calls Try.prog 15 #[.agg #[.string lo, .string hi, .bool op]] w fun e w' => e = .returned (.tuple #[.string (rS ⟨lo, hi, op⟩), .int .i64 (rE ⟨lo, hi, op⟩)]) ∧ Below w.heap.size w w' := by
  obtain ⟨S, hS⟩ : ∃ S, S = rS ⟨lo, hi, op⟩ := ⟨_, rfl⟩
  obtain ⟨E, hE⟩ : ∃ E, E = rE ⟨lo, hi, op⟩ := ⟨_, rfl⟩
  rw [← hS, ← hE]
  obtain ⟨b, hb⟩ : ∃ b, rightB ⟨lo, hi, op⟩ = b := ⟨_, rfl⟩
  unfold rS at hS
  unfold rE at hE
  rw [hb] at hS hE
  have hc := fun w => sright_any lo hi op w
  rw [hb] at hc
  have HC0 := Lib.hid hc
  clear hc
  obtain ⟨w1, hw1⟩ : ∃ w1, w1 = w.alloc (.cells #[.string lo, .string hi, .bool op] 26) := ⟨_, rfl⟩
  obtain ⟨g, hg⟩ : ∃ g, g = w.heap.size := ⟨_, rfl⟩
  have hbx : Box w1 g 26 #[.string lo, .string hi, .bool op] := by rw [hw1]; exact Box.at_ w _ _ hg
  have HB1 := Lib.hid (show Below w.heap.size w w1 from by rw [hw1]; exact (Below.refl _ _).alloc (Nat.le_refl _) _)
  have BX := Lib.hid hbx
  clear hbx
  cases b with
  | false =>
    have HS := Lib.hid (show S = noB from hS)
    have HE := Lib.hid (show E = 1 from hE)
    clear hS hE hb
    obtain ⟨c0, c1, c2⟩ := (⟨Box.cell BX.out 0 rfl, Box.cell BX.out 1 rfl, Box.cell BX.out 2 rfl⟩ : _ ∧ _ ∧ _)
    go_enter Try.func15, Try.ntmps15
    go_upto_region 1 with fail
    rw [← hg, ← hw1]
    clear hg hw1
    go_wp2_with fail
    refine (HC0.out _).mono ?_
    rintro e w2 ⟨rfl, hb⟩
    have HB2 := Lib.hid (HB1.out.trans (hb.mono HB1.out.size))
    clear hb
    go_wp2
    go_ret2
    rw [HS.out, HE.out]
    exact ⟨rfl, HB2.out⟩
  | true =>
    have HS := Lib.hid (show S = rngB ⟨lo, hi, op⟩ from hS)
    have HE := Lib.hid (show E = 0 from hE)
    obtain ⟨hk, hv⟩ := rng_of hb
    simp only at hk hv
    have HK := Lib.hid (show lo.size ≤ 32 from by omega)
    have HV := Lib.hid (show hi.size ≤ 32 from by omega)
    have s1 := textS_small hk (by omega)
    have s2 := textS_small hv (by omega)
    have HZ0 := Lib.hid (show ¬ 9223372036854775807 < (textS lo).size + (textS hi).size from by rw [s1, s2]; omega)
    have HZ1 := Lib.hid (show ¬ 9223372036854775807 < (textS lo ++ textS hi).size + (fS op).size from by simp only [ByteArray.size_append, fS_size, s1, s2]; omega)
    clear hS hE hb hk hv s1 s2
    obtain ⟨c0, c1, c2⟩ := (⟨Box.cell BX.out 0 rfl, Box.cell BX.out 1 rfl, Box.cell BX.out 2 rfl⟩ : _ ∧ _ ∧ _)
    go_enter Try.func15, Try.ntmps15
    go_upto_region 1 with fail
    rw [← hg, ← hw1]
    clear hg hw1
    go_wp2_with fail
    refine (HC0.out _).mono ?_
    rintro e w2 ⟨rfl, hb⟩
    have HB2 := Lib.hid (HB1.out.trans (hb.mono HB1.out.size))
    have BX2 := Lib.hid (BX.out.on hb)
    clear hb c0 c1 c2 BX HB1
    go_upto_region 3 with fail
    have HC := Lib.hid (show ∀ wx, Below w2.heap.size w2 wx → wx.cell? ⟨g, 0, none⟩ = some (.string lo) ∧ wx.cell? ⟨g, 1, none⟩ = some (.string hi) ∧ wx.cell? ⟨g, 2, none⟩ = some (.bool op) from fun wx hx => by
      have hb := BX2.out.on hx
      exact ⟨hb.cell 0 rfl, hb.cell 1 rfl, hb.cell 2 rfl⟩)
    refine wp_region_inv [7, 8, 9, 10, 11, 12, 13, 14, 15, 16, 2, 3] (by kernel_rfl) (by kernel_rfl) (fun w' => Below w2.heap.size w2 w') (fun wa wb => Below wa.heap.size wa wb) (RGV lo hi op g) (by kernel_rfl) (fun wa wb h1 h2 => h2.trans (h1.mono h2.size)) (fun t v wa wb h1 h2 => h2.on h1) (Below.refl _ _).drew (steps_of ?_) ?_
    · skip
      refine Steps1.cons (fun ax wx hS hG => ?_) (Steps1.cons (fun ax wx hS hG => ?_) (Steps1.cons (fun ax wx hS hG => ?_) (Steps1.cons (fun ax wx hS hG => ?_) (Steps1.cons (fun ax wx hS hG => ?_) (Steps1.cons (fun ax wx hS hG => ?_) (Steps1.cons (fun ax wx hS hG => ?_) (Steps1.cons (fun ax wx hS hG => ?_) (Steps1.cons (fun ax wx hS hG => ?_) (Steps1.cons (fun ax wx hS hG => ?_) (Steps1.cons (fun ax wx hS hG => ?_) (Steps1.cons (fun ax wx hS hG => ?_) Steps1.nil)))))))))))
      · have q1 := hG.old 1 (by kernel_rfl) (by kernel_rfl)
        refine step_value (v := .pointer (some ⟨g, 0, none⟩)) (w' := wx) rfl rfl ?_ (Below.refl _ _) (fun d hd => by cases hd; exact rfl)
        go_simp
      · obtain ⟨_, q7, rfl⟩ := hG.new 7 (by kernel_rfl) (by kernel_rfl)
        obtain ⟨z0, z1, z2⟩ := HC.out wx hS
        refine step_value (v := .string lo) (w' := wx) rfl rfl ?_ (Below.refl _ _) (fun d hd => by cases hd; exact rfl)
        go_simp
      · have q1 := hG.old 1 (by kernel_rfl) (by kernel_rfl)
        refine step_value (v := .pointer (some ⟨g, 1, none⟩)) (w' := wx) rfl rfl ?_ (Below.refl _ _) (fun d hd => by cases hd; exact rfl)
        go_simp
      · obtain ⟨_, q9, rfl⟩ := hG.new 9 (by kernel_rfl) (by kernel_rfl)
        obtain ⟨z0, z1, z2⟩ := HC.out wx hS
        refine step_value (v := .string hi) (w' := wx) rfl rfl ?_ (Below.refl _ _) (fun d hd => by cases hd; exact rfl)
        go_simp
      · obtain ⟨_, q8, rfl⟩ := hG.new 8 (by kernel_rfl) (by kernel_rfl)
        obtain ⟨_, q10, rfl⟩ := hG.new 10 (by kernel_rfl) (by kernel_rfl)
        refine step_value (v := .slice (some ⟨wx.heap.size, 0, none⟩) 2 2) (w' := wx.alloc (.cells #[.string lo, .string hi] 9)) rfl rfl ?_ ((Below.refl _ _).alloc (Nat.le_refl _) _) (fun d hd => by cases hd; exact ⟨_, rfl, by simpa using strs_two wx 9 lo hi⟩)
        go_simp
      · obtain ⟨v11, q11, h11⟩ := hG.new 11 (by kernel_rfl) (by kernel_rfl)
        have p11 : ∃ B, v11 = .slice (some B) 2 2 ∧ Strs wx wx.heap.size (some B) [lo, hi] := h11
        obtain ⟨B11, rfl, p11⟩ := p11
        refine step_call (w1 := wx) (f := 47) (args := #[.slice (some B11) 2 2]) rfl rfl ?_ ((ftexts_two lo hi B11 wx HK.out HV.out p11).mono ?_)
        · clear h11 p11
          go_simp
        · rintro e w' ⟨rfl, hq⟩
          exact ⟨_, rfl, hq, fun d hd => by cases hd; exact rfl⟩
      · have q1 := hG.old 1 (by kernel_rfl) (by kernel_rfl)
        refine step_value (v := .pointer (some ⟨g, 2, none⟩)) (w' := wx) rfl rfl ?_ (Below.refl _ _) (fun d hd => by cases hd; exact rfl)
        go_simp
      · obtain ⟨_, q13, rfl⟩ := hG.new 13 (by kernel_rfl) (by kernel_rfl)
        obtain ⟨z0, z1, z2⟩ := HC.out wx hS
        refine step_value (v := .bool op) (w' := wx) rfl rfl ?_ (Below.refl _ _) (fun d hd => by cases hd; exact rfl)
        go_simp
      · obtain ⟨_, q14, rfl⟩ := hG.new 14 (by kernel_rfl) (by kernel_rfl)
        refine step_call (w1 := wx) (f := 48) (args := #[.bool op]) rfl rfl ?_ ((fflag_any op wx).mono ?_)
        · skip
          go_simp
        · rintro e w' ⟨rfl, hq⟩
          exact ⟨_, rfl, hq, fun d hd => by cases hd; exact rfl⟩
      · obtain ⟨_, q12, rfl⟩ := hG.new 12 (by kernel_rfl) (by kernel_rfl)
        obtain ⟨_, q15, rfl⟩ := hG.new 15 (by kernel_rfl) (by kernel_rfl)
        refine step_value (v := .string (textS lo ++ textS hi ++ fS op)) (w' := wx) rfl rfl ?_ (Below.refl _ _) (fun d hd => by cases hd; exact rfl)
        have hz := HZ1.out
        simp only [ByteArray.size_append, Nat.not_lt] at hz
        go_simp
      · obtain ⟨_, q16, rfl⟩ := hG.new 16 (by kernel_rfl) (by kernel_rfl)
        refine step_value (v := .string (textS lo ++ textS hi ++ fS op)) (w' := wx) rfl rfl ?_ (Below.refl _ _) (fun d hd => by cases hd; exact rfl)
        go_simp
      · refine step_value (v := .int .i64 0) (w' := wx) rfl rfl ?_ (Below.refl _ _) (fun d hd => by cases hd; exact rfl)
        go_simp
    intro fv w8 hS8 hV8
    have e2 : fv 2 = .string (textS lo ++ textS hi ++ fS op) := hV8 2 (by decide)
    have e3 : fv 3 = .int .i64 0 := hV8 3 (by decide)
    simp only [puts, Act.put, List.setIfInBounds_toArray, List.set_cons_succ, List.set_cons_zero]
    clear hV8
    rw [e2, e3]
    go_wp2
    go_ret2
    rw [HS.out, HE.out]
    exact ⟨rfl, HB2.out.trans (hS8.mono HB2.out.size)⟩

def DRGV (lo hi : ByteArray) (op : Bool) (g : Nat) (t : Nat) (v : Value) (w : World) : Prop :=
  match t with
  | 9 => v = .pointer (some ⟨g, 0, none⟩)
  | 10 => v = .string lo
  | 11 => v = .string (textS lo)
  | 12 => v = .pointer (some ⟨g, 1, none⟩)
  | 13 => v = .string hi
  | 14 => v = .string (textS hi)
  | 15 => v = .string (textS lo ++ textS hi)
  | 16 => v = .pointer (some ⟨g, 2, none⟩)
  | 17 => v = .bool op
  | 18 => v = .string (fS op)
  | 19 => v = .string (textS lo ++ textS hi ++ fS op)
  | 2 => v = .string (textS lo ++ textS hi ++ fS op)
  | 3 => v = .bool true
  | _ => True
theorem DRGV.on {lo hi : ByteArray} {op : Bool} {g : Nat} {t : Nat} {v : Value} {w w' : World} (h : DRGV lo hi op g t v w) (hb : Below w.heap.size w w') : DRGV lo hi op g t v w' := by
  unfold DRGV at *
  split at h <;> first | exact h | exact h

set_option maxRecDepth 100000 in
set_option maxHeartbeats 2000000 in
theorem drangew_any (lo hi : ByteArray) (op : Bool) (w : World) :
    Calls Try.prog 19 #[.agg #[.string lo, .string hi, .bool op]] w fun e w' => e = .returned (.tuple #[.string (rS ⟨lo, hi, op⟩), .bool (rightB ⟨lo, hi, op⟩)]) ∧ Below w.heap.size w w' := by
  obtain ⟨S, hS⟩ : ∃ S, S = rS ⟨lo, hi, op⟩ := ⟨_, rfl⟩
  obtain ⟨E, hE⟩ : ∃ E, E = rightB ⟨lo, hi, op⟩ := ⟨_, rfl⟩
  rw [← hS, ← hE]
  obtain ⟨b, hb⟩ : ∃ b, rightB ⟨lo, hi, op⟩ = b := ⟨_, rfl⟩
  unfold rS at hS
  rw [hb] at hS hE
  have hc := fun w => dright_rng lo hi op w
  rw [hb] at hc
  have HC0 := Lib.hid hc
  clear hc
  obtain ⟨w1, hw1⟩ : ∃ w1, w1 = w.alloc (.cells #[.string lo, .string hi, .bool op] 26) := ⟨_, rfl⟩
  obtain ⟨g, hg⟩ : ∃ g, g = w.heap.size := ⟨_, rfl⟩
  have hbx : Box w1 g 26 #[.string lo, .string hi, .bool op] := by rw [hw1]; exact Box.at_ w _ _ hg
  have HB1 := Lib.hid (show Below w.heap.size w w1 from by rw [hw1]; exact (Below.refl _ _).alloc (Nat.le_refl _) _)
  have BX := Lib.hid hbx
  clear hbx
  cases b with
  | false =>
    have HS := Lib.hid (show S = noB from hS)
    have HE := Lib.hid (show E = false from hE)
    clear hS hE hb
    obtain ⟨c0, c1, c2⟩ := (⟨Box.cell BX.out 0 rfl, Box.cell BX.out 1 rfl, Box.cell BX.out 2 rfl⟩ : _ ∧ _ ∧ _)
    go_enter Try.func19, Try.ntmps19
    go_upto_region 1 with fail
    rw [← hg, ← hw1]
    clear hg hw1
    go_wp2_with fail
    refine (HC0.out _).mono ?_
    rintro e w2 ⟨rfl, hb⟩
    have HB2 := Lib.hid (HB1.out.trans (hb.mono HB1.out.size))
    clear hb
    go_wp2
    go_ret2
    rw [HS.out, HE.out]
    exact ⟨rfl, HB2.out⟩
  | true =>
    have HS := Lib.hid (show S = rngB ⟨lo, hi, op⟩ from hS)
    have HE := Lib.hid (show E = true from hE)
    obtain ⟨hk, hv⟩ := rng_of hb
    simp only at hk hv
    have HK := Lib.hid (show lo.size ≤ 32 from by omega)
    have HV := Lib.hid (show hi.size ≤ 32 from by omega)
    have s1 := textS_small hk (by omega)
    have s2 := textS_small hv (by omega)
    have HZ0 := Lib.hid (show ¬ 9223372036854775807 < (textS lo).size + (textS hi).size from by rw [s1, s2]; omega)
    have HZ1 := Lib.hid (show ¬ 9223372036854775807 < (textS lo ++ textS hi).size + (fS op).size from by simp only [ByteArray.size_append, fS_size, s1, s2]; omega)
    clear hS hE hb hk hv s1 s2
    obtain ⟨c0, c1, c2⟩ := (⟨Box.cell BX.out 0 rfl, Box.cell BX.out 1 rfl, Box.cell BX.out 2 rfl⟩ : _ ∧ _ ∧ _)
    go_enter Try.func19, Try.ntmps19
    go_upto_region 1 with fail
    rw [← hg, ← hw1]
    clear hg hw1
    go_wp2_with fail
    refine (HC0.out _).mono ?_
    rintro e w2 ⟨rfl, hb⟩
    have HB2 := Lib.hid (HB1.out.trans (hb.mono HB1.out.size))
    have BX2 := Lib.hid (BX.out.on hb)
    clear hb c0 c1 c2 BX HB1
    go_upto_region 4 with fail
    have HC := Lib.hid (show ∀ wx, Below w2.heap.size w2 wx → wx.cell? ⟨g, 0, none⟩ = some (.string lo) ∧ wx.cell? ⟨g, 1, none⟩ = some (.string hi) ∧ wx.cell? ⟨g, 2, none⟩ = some (.bool op) from fun wx hx => by
      have hb := BX2.out.on hx
      exact ⟨hb.cell 0 rfl, hb.cell 1 rfl, hb.cell 2 rfl⟩)
    refine wp_region_inv [9, 10, 11, 12, 13, 14, 15, 16, 17, 18, 19, 2, 3] (by kernel_rfl) (by kernel_rfl) (fun w' => Below w2.heap.size w2 w') (fun wa wb => Below wa.heap.size wa wb) (DRGV lo hi op g) (by kernel_rfl) (fun wa wb h1 h2 => h2.trans (h1.mono h2.size)) (fun t v wa wb h1 h2 => h2.on h1) (Below.refl _ _).drew (steps_of ?_) ?_
    · skip
      refine Steps1.cons (fun ax wx hS hG => ?_) (Steps1.cons (fun ax wx hS hG => ?_) (Steps1.cons (fun ax wx hS hG => ?_) (Steps1.cons (fun ax wx hS hG => ?_) (Steps1.cons (fun ax wx hS hG => ?_) (Steps1.cons (fun ax wx hS hG => ?_) (Steps1.cons (fun ax wx hS hG => ?_) (Steps1.cons (fun ax wx hS hG => ?_) (Steps1.cons (fun ax wx hS hG => ?_) (Steps1.cons (fun ax wx hS hG => ?_) (Steps1.cons (fun ax wx hS hG => ?_) (Steps1.cons (fun ax wx hS hG => ?_) (Steps1.cons (fun ax wx hS hG => ?_) Steps1.nil))))))))))))
      · have q1 := hG.old 1 (by kernel_rfl) (by kernel_rfl)
        refine step_value (v := .pointer (some ⟨g, 0, none⟩)) (w' := wx) rfl rfl ?_ (Below.refl _ _) (fun d hd => by cases hd; exact rfl)
        go_simp
      · obtain ⟨_, q9, rfl⟩ := hG.new 9 (by kernel_rfl) (by kernel_rfl)
        obtain ⟨z0, z1, z2⟩ := HC.out wx hS
        refine step_value (v := .string lo) (w' := wx) rfl rfl ?_ (Below.refl _ _) (fun d hd => by cases hd; exact rfl)
        go_simp
      · obtain ⟨_, q10, rfl⟩ := hG.new 10 (by kernel_rfl) (by kernel_rfl)
        refine step_call (w1 := wx) (f := 53) (args := #[.string lo]) rfl rfl ?_ ((dtext_flat lo wx (by have := HK.out; unfold maxLen; omega)).mono ?_)
        · skip
          go_simp
        · rintro e w' ⟨rfl, hq⟩
          exact ⟨_, rfl, hq, fun d hd => by cases hd; exact rfl⟩
      · have q1 := hG.old 1 (by kernel_rfl) (by kernel_rfl)
        refine step_value (v := .pointer (some ⟨g, 1, none⟩)) (w' := wx) rfl rfl ?_ (Below.refl _ _) (fun d hd => by cases hd; exact rfl)
        go_simp
      · obtain ⟨_, q12, rfl⟩ := hG.new 12 (by kernel_rfl) (by kernel_rfl)
        obtain ⟨z0, z1, z2⟩ := HC.out wx hS
        refine step_value (v := .string hi) (w' := wx) rfl rfl ?_ (Below.refl _ _) (fun d hd => by cases hd; exact rfl)
        go_simp
      · obtain ⟨_, q13, rfl⟩ := hG.new 13 (by kernel_rfl) (by kernel_rfl)
        refine step_call (w1 := wx) (f := 53) (args := #[.string hi]) rfl rfl ?_ ((dtext_flat hi wx (by have := HV.out; unfold maxLen; omega)).mono ?_)
        · skip
          go_simp
        · rintro e w' ⟨rfl, hq⟩
          exact ⟨_, rfl, hq, fun d hd => by cases hd; exact rfl⟩
      · obtain ⟨_, q11, rfl⟩ := hG.new 11 (by kernel_rfl) (by kernel_rfl)
        obtain ⟨_, q14, rfl⟩ := hG.new 14 (by kernel_rfl) (by kernel_rfl)
        refine step_value (v := .string (textS lo ++ textS hi)) (w' := wx) rfl rfl ?_ (Below.refl _ _) (fun d hd => by cases hd; exact rfl)
        have hz := HZ0.out
        simp only [ByteArray.size_append, Nat.not_lt] at hz
        go_simp
      · have q1 := hG.old 1 (by kernel_rfl) (by kernel_rfl)
        refine step_value (v := .pointer (some ⟨g, 2, none⟩)) (w' := wx) rfl rfl ?_ (Below.refl _ _) (fun d hd => by cases hd; exact rfl)
        go_simp
      · obtain ⟨_, q16, rfl⟩ := hG.new 16 (by kernel_rfl) (by kernel_rfl)
        obtain ⟨z0, z1, z2⟩ := HC.out wx hS
        refine step_value (v := .bool op) (w' := wx) rfl rfl ?_ (Below.refl _ _) (fun d hd => by cases hd; exact rfl)
        go_simp
      · obtain ⟨_, q17, rfl⟩ := hG.new 17 (by kernel_rfl) (by kernel_rfl)
        refine step_call (w1 := wx) (f := 54) (args := #[.bool op]) rfl rfl ?_ ((dflag_any op wx).mono ?_)
        · skip
          go_simp
        · rintro e w' ⟨rfl, hq⟩
          exact ⟨_, rfl, hq, fun d hd => by cases hd; exact rfl⟩
      · obtain ⟨_, q15, rfl⟩ := hG.new 15 (by kernel_rfl) (by kernel_rfl)
        obtain ⟨_, q18, rfl⟩ := hG.new 18 (by kernel_rfl) (by kernel_rfl)
        refine step_value (v := .string (textS lo ++ textS hi ++ fS op)) (w' := wx) rfl rfl ?_ (Below.refl _ _) (fun d hd => by cases hd; exact rfl)
        have hz := HZ1.out
        simp only [ByteArray.size_append, Nat.not_lt] at hz
        go_simp
      · obtain ⟨_, q19, rfl⟩ := hG.new 19 (by kernel_rfl) (by kernel_rfl)
        refine step_value (v := .string (textS lo ++ textS hi ++ fS op)) (w' := wx) rfl rfl ?_ (Below.refl _ _) (fun d hd => by cases hd; exact rfl)
        go_simp
      · refine step_value (v := .bool true) (w' := wx) rfl rfl ?_ (Below.refl _ _) (fun d hd => by cases hd; exact rfl)
        go_simp
    intro fv w8 hS8 hV8
    have e2 : fv 2 = .string (textS lo ++ textS hi ++ fS op) := hV8 2 (by decide)
    have e3 : fv 3 = .bool true := hV8 3 (by decide)
    simp only [puts, Act.put, List.setIfInBounds_toArray, List.set_cons_succ, List.set_cons_zero]
    clear hV8
    rw [e2, e3]
    go_wp2
    go_ret2
    rw [HS.out, HE.out]
    exact ⟨rfl, HB2.out.trans (hS8.mono HB2.out.size)⟩

/-- What is told of bytes: a range, the rest, and whether there is something. -/
def noR : Rng := ⟨noB, noB, false⟩
def tRx (s : ByteArray) : Rng := match kR.dec s with
  | some q => q.1
  | none => noR
def tRr (s : ByteArray) : ByteArray := match kR.dec s with
  | some q => q.2
  | none => noB
def tRe (s : ByteArray) : Int := match kR.dec s with
  | some _ => 0
  | none => 2
theorem tR_some {s : ByteArray} {x : Rng} {r : ByteArray} (h : kR.dec s = some (x, r)) : tRx s = x ∧ tRr s = r ∧ tRe s = 0 := by
  unfold tRx tRr tRe
  rw [h]
  exact ⟨rfl, rfl, rfl⟩
theorem tR_none {s : ByteArray} (h : kR.dec s = none) : tRx s = noR ∧ tRr s = noB ∧ tRe s = 2 := by
  unfold tRx tRr tRe
  rw [h]
  exact ⟨rfl, rfl, rfl⟩

def TRV (xlo xhi r : ByteArray) (xop : Bool) (g : Nat) (p t : Nat) (v : Value) (w : World) : Prop :=
  match t with
  | 18 => v = .agg #[.string xlo, .string xhi, .bool xop]
  | 19 => v = .pointer (some ⟨g, 0, none⟩)
  | 20 => v = .string r
  | 3 => v = .string r
  | 4 => v = .int .i64 0
  | _ => True
theorem TRV.on {xlo xhi r : ByteArray} {xop : Bool} {g : Nat} {p t : Nat} {v : Value} {w w' : World} (h : TRV xlo xhi r xop g p t v w) (hb : Below w.heap.size w w') : TRV xlo xhi r xop g p t v w' := by
  unfold TRV at *
  split at h <;> first | exact h | exact NewB.on h hb

set_option maxRecDepth 100000 in
set_option maxHeartbeats 2000000 in
theorem ranget_any (s : ByteArray) (w : World) (hs : s.size ≤ maxLen) :
    Calls Try.prog 26 #[.string s] w fun e w' => e = .returned (.tuple #[(tRx s).v, .string (tRr s), .int .i64 (tRe s)]) ∧ Below w.heap.size w w' := by
  obtain ⟨X, hX⟩ : ∃ X, X = tRx s := ⟨_, rfl⟩
  obtain ⟨R, hR⟩ : ∃ R, R = tRr s := ⟨_, rfl⟩
  obtain ⟨E, hE⟩ : ∃ E, E = tRe s := ⟨_, rfl⟩
  rw [← hX, ← hR, ← hE]
  have HNo := Lib.hid (show kR.dec s = none → X.v = .agg #[.string noB, .string noB, .bool false] ∧ R = noB ∧ E = 2 from fun h => by rw [hX, hR, hE, (tR_none h).1]; exact ⟨rfl, (tR_none h).2⟩)
  have HYes := Lib.hid (show ∀ x r, kR.dec s = some (x, r) → X = x ∧ R = r ∧ E = 0 from fun x r h => by rw [hX, hR, hE]; exact tR_some h)
  clear hX hR hE
  obtain ⟨x, b, hx⟩ : ∃ x b, rRng (s, false) = (x, b) := ⟨_, _, rfl⟩
  obtain ⟨r, f⟩ := b
  obtain ⟨xlo, xhi, xop⟩ := x
  have hK : kR.rd (s, false) = (⟨xlo, xhi, xop⟩, r, f) := hx
  have HK := Lib.hid hK
  obtain ⟨w1, hw1⟩ : ∃ w1, w1 = w.alloc (.cells #[.string ⟨#[]⟩, .string ⟨#[]⟩, .bool false] 26) := ⟨_, rfl⟩
  obtain ⟨q, hq⟩ : ∃ q, q = w.heap.size := ⟨_, rfl⟩
  obtain ⟨w2, hw2⟩ : ∃ w2, w2 = w1.alloc (.cells #[.string s, .bool false] 108) := ⟨_, rfl⟩
  obtain ⟨g, hg⟩ : ∃ g, g = w1.heap.size := ⟨_, rfl⟩
  have hq1 : Box w1 q 26 #[.string ⟨#[]⟩, .string ⟨#[]⟩, .bool false] := by rw [hw1]; exact Box.at_ w _ _ hq
  have hq2 : Box w2 q 26 #[.string ⟨#[]⟩, .string ⟨#[]⟩, .bool false] := by rw [hw2]; exact hq1.push _
  have hr2 : RdB w2 g (s, false) := by rw [hw2]; exact Box.at_ w1 _ _ hg
  have hb1 : Below w.heap.size w w1 := by rw [hw1]; exact (Below.refl _ _).alloc (Nat.le_refl _) _
  have hb2 : Below w.heap.size w w2 := by rw [hw2]; exact hb1.alloc hb1.size _
  have hgq : q < g := by rw [hq, hg, hw1]; simp
  have HQ := Lib.hid (show w.heap.size ≤ q from by omega)
  have HGQ := Lib.hid hgq
  have Q2 := Lib.hid hq2
  have R2 := Lib.hid hr2
  have HB2 := Lib.hid hb2
  have HC := Lib.hid (fun w h => rdrng_any g (s, false) ⟨xlo, xhi, xop⟩ (r, f) w h hs hx)
  have hg' : g = w.heap.size + 1 := by rw [hg, hw1]; simp
  rw [hw1] at hw2
  clear hq1 hq2 hr2 hb1 hb2 hgq hK hs hx hg hw1
  have hg := hg'
  clear hg'
  go_enter Try.func26, Try.ntmps26
  go_upto_region 2 with fail
  rw [← hg, ← hq, ← hw2]
  clear hq hg hw2
  go_wp2_with fail
  refine (HC.out _ R2.out).mono ?_
  rintro e w3 ⟨rfl, hr, hx⟩
  have R3 := Lib.hid hr
  have Q3 := Lib.hid (hx.box Q2.out (by have := HGQ.out; omega))
  have HB3 := Lib.hid (hx.below HB2.out (by have h1 := HGQ.out; have h2 := HQ.out; omega) HB2.out.size)
  clear hr hx Q2 R2 HB2 HC
  unfold Rng.v
  simp only
  obtain ⟨w4, hw4⟩ : ∃ w4, w4 = w3.alloc (.cells #[.string xlo, .string xhi, .bool xop] 26) := ⟨_, rfl⟩
  obtain ⟨u, hu⟩ : ∃ u, u = w3.heap.size := ⟨_, rfl⟩
  have hb4 : Below w3.heap.size w3 w4 := by rw [hw4]; exact (Below.refl _ _).alloc (Nat.le_refl _) _
  have X4 := Lib.hid (show Box w4 u 26 #[.string xlo, .string xhi, .bool xop] from by rw [hw4]; exact Box.at_ w3 _ _ hu)
  have R4 := Lib.hid (R3.out.on hb4)
  have Q4 := Lib.hid (Q3.out.on hb4)
  have HB4 := Lib.hid (HB3.out.trans (hb4.mono HB3.out.size))
  have HQU := Lib.hid (show u ≠ q from by have := Q3.out.lt; omega)
  clear hb4 R3 Q3 HB3
  go_upto_region 3 with fail
  rw [← hu, ← hw4]
  clear hu hw4
  obtain ⟨c0, c1, _, _⟩ := R4.out.cells
  simp only at c0 c1
  cases f with
  | true =>
    obtain ⟨e1, e2, e3⟩ := HNo.out (kR.dec_no HK.out (.inl rfl))
    have E1 := Lib.hid e1
    have E2 := Lib.hid e2
    have E3 := Lib.hid e3
    clear e1 e2 e3 c0
    obtain ⟨j0, j1, j2⟩ := (⟨Box.free Q4.out 0, Box.free Q4.out 1, Box.free Q4.out 2⟩ : _ ∧ _ ∧ _)
    obtain ⟨m0, m1, m2⟩ := (⟨Box.cell Q4.out 0 rfl, Box.cell Q4.out 1 rfl, Box.cell Q4.out 2 rfl⟩ : _ ∧ _ ∧ _)
    go_wp2
    obtain ⟨wz, hz⟩ : ∃ wz, wz = ((w4.setCell ⟨q, 0, none⟩ (.string ⟨#[]⟩)).setCell ⟨q, 1, none⟩ (.string ⟨#[]⟩)).setCell ⟨q, 2, none⟩ (.bool false) := ⟨_, rfl⟩
    rw [← hz]
    have hqz : Box wz q 26 #[.string ⟨#[]⟩, .string ⟨#[]⟩, .bool false] := by rw [hz]; exact ((Box.set Q4.out 0 _).set 1 _).set 2 _
    have hbz : Below w.heap.size w wz := by rw [hz]; exact ((HB4.out.setCell (p := ⟨q, 0, none⟩) HQ.out _).setCell (p := ⟨q, 1, none⟩) HQ.out _).setCell (p := ⟨q, 2, none⟩) HQ.out _
    obtain ⟨p0, p1, p2⟩ := (⟨Box.cell hqz 0 rfl, Box.cell hqz 1 rfl, Box.cell hqz 2 rfl⟩ : _ ∧ _ ∧ _)
    clear hz j0 j1 j2 m0 m1 m2
    exact bodyPost_ret (v := .tuple #[.agg #[.string noB, .string noB, .bool false], .string noB, .int .i64 2]) (by simp [results, Try.results26, go_sem, p0, p1, p2]) rfl ⟨by rw [E1.out, E2.out, E3.out], hbz⟩
  | false =>
    obtain ⟨k0, k1, k2⟩ := (⟨Box.cell X4.out 0 rfl, Box.cell X4.out 1 rfl, Box.cell X4.out 2 rfl⟩ : _ ∧ _ ∧ _)
    go_wp2_with fail
    refine (sright_any xlo xhi xop _).mono ?_
    rintro e w5 ⟨rfl, hb⟩
    have R5 := Lib.hid (R4.out.on hb)
    have Q5 := Lib.hid (Q4.out.on hb)
    have X5 := Lib.hid (X4.out.on hb)
    have HB5 := Lib.hid (HB4.out.trans (hb.mono HB4.out.size))
    clear hb c0 c1 k0 k1 k2 R4 Q4 X4 HB4
    cases hf : rightB ⟨xlo, xhi, xop⟩ with
    | false =>
      obtain ⟨e1, e2, e3⟩ := HNo.out (kR.dec_no HK.out (.inr hf))
      have E1 := Lib.hid e1
      have E2 := Lib.hid e2
      have E3 := Lib.hid e3
      clear e1 e2 e3 hf
      obtain ⟨j0, j1, j2⟩ := (⟨Box.free Q5.out 0, Box.free Q5.out 1, Box.free Q5.out 2⟩ : _ ∧ _ ∧ _)
      obtain ⟨m0, m1, m2⟩ := (⟨Box.cell Q5.out 0 rfl, Box.cell Q5.out 1 rfl, Box.cell Q5.out 2 rfl⟩ : _ ∧ _ ∧ _)
      go_wp2
      obtain ⟨wz, hz⟩ : ∃ wz, wz = ((w5.setCell ⟨q, 0, none⟩ (.string ⟨#[]⟩)).setCell ⟨q, 1, none⟩ (.string ⟨#[]⟩)).setCell ⟨q, 2, none⟩ (.bool false) := ⟨_, rfl⟩
      rw [← hz]
      have hqz : Box wz q 26 #[.string ⟨#[]⟩, .string ⟨#[]⟩, .bool false] := by rw [hz]; exact ((Box.set Q5.out 0 _).set 1 _).set 2 _
      have hbz : Below w.heap.size w wz := by rw [hz]; exact ((HB5.out.setCell (p := ⟨q, 0, none⟩) HQ.out _).setCell (p := ⟨q, 1, none⟩) HQ.out _).setCell (p := ⟨q, 2, none⟩) HQ.out _
      obtain ⟨p0, p1, p2⟩ := (⟨Box.cell hqz 0 rfl, Box.cell hqz 1 rfl, Box.cell hqz 2 rfl⟩ : _ ∧ _ ∧ _)
      clear hz j0 j1 j2 m0 m1 m2
      exact bodyPost_ret (v := .tuple #[.agg #[.string noB, .string noB, .bool false], .string noB, .int .i64 2]) (by simp [results, Try.results26, go_sem, p0, p1, p2]) rfl ⟨by rw [E1.out, E2.out, E3.out], hbz⟩
    | true =>
      obtain ⟨e1, e2, e3⟩ := HYes.out _ _ (kR.dec_yes HK.out hf)
      have E1 := Lib.hid e1
      have E2 := Lib.hid e2
      have E3 := Lib.hid e3
      clear e1 e2 e3 hf
      have HX := Lib.hid (show ∀ wx, Ex q w5 wx → wx.cell? ⟨u, 0, none⟩ = some (.string xlo) ∧ wx.cell? ⟨u, 1, none⟩ = some (.string xhi) ∧ wx.cell? ⟨u, 2, none⟩ = some (.bool xop) from fun wx hx => by
        have hb := hx.box X5.out HQU.out
        exact ⟨hb.cell 0 rfl, hb.cell 1 rfl, hb.cell 2 rfl⟩)
      have HR := Lib.hid (show ∀ wx, Ex q w5 wx → wx.cell? ⟨g, 0, none⟩ = some (.string r) from fun wx hx => by
        have hb := hx.box R5.out (by have := HGQ.out; omega)
        exact hb.cell 0 rfl)
      go_upto_region 5 with fail
      refine wp_region_phase 14 [18, 19, 20, 3, 4] (by kernel_rfl) [3] [] (fun _ _ => True) 1 rfl (by kernel_rfl) (ResS w5 q 26 #[.string xlo, .string xhi, .bool xop]) (fun wa wb => Below wa.heap.size wa wb) (TRV xlo xhi r xop g) (by kernel_rfl) (fun _ wa wb h1 h2 => h2.on h1) (fun _ t v wa wb h1 h2 => h2.on h1) (fun _ _ _ _ _ _ _ => trivial) (ResS.start _ _ _ _) trivial (phase1 ?_ ?_) ?_
      · refine Steps1.cons (fun _ ax wx hS _ hG => ?_) (Steps1.cons (fun _ ax wx hS _ hG => ?_) (Steps1.cons (fun _ ax wx hS _ hG => ?_) (Steps1.cons (fun _ ax wx hS _ hG => ?_) (Steps1.cons (fun _ ax wx hS _ hG => ?_) (Steps1.cons (fun _ ax wx hS _ hG => ?_) Steps1.nil)))))
        · have q6 := hG.old 6 (by kernel_rfl) (by kernel_rfl)
          obtain ⟨z0, z1, z2⟩ := HX.out wx hS.ex
          refine step_slot rfl rfl rfl (step_value (v := .agg #[.string xlo, .string xhi, .bool xop]) (w' := wx) rfl rfl ?_ (Below.refl _ _) (fun d hd => by cases hd; exact rfl))
          go_simp
        · have q5 := hG.old 5 (by kernel_rfl) (by kernel_rfl)
          refine step_slot rfl rfl rfl (step_value (v := .pointer (some ⟨g, 0, none⟩)) (w' := wx) rfl rfl ?_ (Below.refl _ _) (fun d hd => by cases hd; exact rfl))
          go_simp
        · obtain ⟨_, q19, rfl⟩ := hG.new 19 (by kernel_rfl) (by kernel_rfl)
          have z0 := HR.out wx hS.ex
          refine step_slot rfl rfl rfl (step_value (v := .string r) (w' := wx) rfl rfl ?_ (Below.refl _ _) (fun d hd => by cases hd; exact rfl))
          go_simp
        · have q2 := hG.old 2 (by kernel_rfl) (by kernel_rfl)
          obtain ⟨_, q18, rfl⟩ := hG.new 18 (by kernel_rfl) (by kernel_rfl)
          have hbq := Q5.out.on (hS.fresh rfl)
          have f0 := Box.free hbq 0
          have m0 := Box.cell hbq 0 rfl
          have f1 := Box.free hbq 1
          have m1 := Box.cell hbq 1 rfl
          have f2 := Box.free hbq 2
          have m2 := Box.cell hbq 2 rfl
          skip
          refine step_store (w' := (((wx.setCell ⟨q, 0, none⟩ (.string xlo)).setCell ⟨q, 1, none⟩ (.string xhi)).setCell ⟨q, 2, none⟩ (.bool xop))) rfl rfl rfl rfl ?_ (⟨(Ex.trans (Ex.trans (Ex.trans hS.ex (Ex.set (g := q) (i := 0) _ (.string xlo))) (Ex.set (g := q) (i := 1) _ (.string xhi))) (Ex.set (g := q) (i := 2) _ (.bool xop))), fun h => absurd h (by decide), fun _ => (Box.set (Box.set (Box.set hbq 0 (.string xlo)) 1 (.string xhi)) 2 (.bool xop))⟩) trivial ?_
          · clear hbq hS
            go_simp
          · intro t u _ hu hV
            unfold TRV at *
            split at hV <;> exact hV
        · obtain ⟨_, q20, rfl⟩ := hG.new 20 (by kernel_rfl) (by kernel_rfl)
          refine step_slot rfl rfl rfl (step_value (v := .string r) (w' := wx) rfl rfl ?_ (Below.refl _ _) (fun d hd => by cases hd; exact rfl))
          go_simp
        · refine step_slot rfl rfl rfl (step_value (v := .int .i64 0) (w' := wx) rfl rfl ?_ (Below.refl _ _) (fun d hd => by cases hd; exact rfl))
          go_simp
      · refine Steps1.cons (fun hin _ _ _ _ _ => out (by kernel_rfl) hin) (Steps1.cons (fun _ ax wx hS _ hG => ?_) (Steps1.cons (fun _ ax wx hS _ hG => ?_) (Steps1.cons (fun hin _ _ _ _ _ => out (by kernel_rfl) hin) (Steps1.cons (fun _ ax wx hS _ hG => ?_) (Steps1.cons (fun _ ax wx hS _ hG => ?_) Steps1.nil)))))
        · have q5 := hG.old 5 (by kernel_rfl) (by kernel_rfl)
          refine step_slot rfl rfl rfl (step_value (v := .pointer (some ⟨g, 0, none⟩)) (w' := wx) rfl rfl ?_ (Below.refl _ _) (fun d hd => by cases hd; exact rfl))
          go_simp
        · obtain ⟨_, q19, rfl⟩ := hG.new 19 (by kernel_rfl) (by kernel_rfl)
          have z0 := HR.out wx hS.ex
          refine step_slot rfl rfl rfl (step_value (v := .string r) (w' := wx) rfl rfl ?_ (Below.refl _ _) (fun d hd => by cases hd; exact rfl))
          go_simp
        · obtain ⟨_, q20, rfl⟩ := hG.new 20 (by kernel_rfl) (by kernel_rfl)
          refine step_slot rfl rfl rfl (step_value (v := .string r) (w' := wx) rfl rfl ?_ (Below.refl _ _) (fun d hd => by cases hd; exact rfl))
          go_simp
        · refine step_slot rfl rfl rfl (step_value (v := .int .i64 0) (w' := wx) rfl rfl ?_ (Below.refl _ _) (fun d hd => by cases hd; exact rfl))
          go_simp
      intro fv w8 hS8 _ hV8
      have e3 : fv 3 = .string r := hV8 3 (by decide)
      have e4 : fv 4 = .int .i64 0 := hV8 4 (by decide)
      simp only [puts, Act.put, List.setIfInBounds_toArray, List.set_cons_succ, List.set_cons_zero]
      clear hV8
      rw [e3, e4]
      have hqz := hS8.done rfl
      obtain ⟨p0, p1, p2⟩ := (⟨Box.cell hqz 0 rfl, Box.cell hqz 1 rfl, Box.cell hqz 2 rfl⟩ : _ ∧ _ ∧ _)
      have HBZ := Lib.hid (show Below w.heap.size w w8 from Ex.below HB5.out hS8.ex HQ.out HB5.out.size)
      clear hqz hS8
      go_wp2
      exact bodyPost_ret (v := .tuple #[.agg #[.string xlo, .string xhi, .bool xop], .string r, .int .i64 0]) (by simp [results, Try.results26, go_sem, p0, p1, p2]) rfl ⟨by rw [E1.out, E2.out, E3.out]; rfl, HBZ.out⟩

end Go.Proofs.Ytfbcmcckgjfdhaa
