/- The walks of flat's noteBytes, pairBytes, changeBytes, and of the document's Note, Pair and Change. -/
import Derived.Test.YtfbcmcckgjfdhaaFw
import Derived.Test.YtfbcmcckgjfdhaaInv
import Derived.Test.YtfbcmcckgjfdhaaVals
set_option linter.unusedVariables false
set_option linter.unusedSimpArgs false
namespace Go.Proofs.Ytfbcmcckgjfdhaa
open Go.RowKit Go.Sort

theorem len_ok {a b : ByteArray} (h : a.size + b.size ≤ 1000) : ¬ 9223372036854775807 < a.size + b.size := by omega
theorem u64_nat (q : Nat) (h : q < 1000000000000) : IntKind.u64.wrap (q : Int) = (q : Int) := by
  simp [IntKind.wrap, IntKind.bits, IntKind.signed]; omega
theorem texts_one {t : ByteArray} (h : textOk t = true) : textsS [t] = textS t := by
  have e : allOk [t] = true := by simp [allOk, h]
  unfold textsS
  rw [if_pos e, cat_one]
theorem texts_two {t u : ByteArray} (h : textOk t = true) (g : textOk u = true) : textsS [t, u] = textS t ++ textS u := by
  have e : allOk [t, u] = true := by simp [allOk, h, g]
  unfold textsS
  rw [if_pos e, cat_two]
theorem ftexts_one (t : ByteArray) (B : Addr) (w : World) (h : t.size ≤ 32) (hA : Strs w w.heap.size (some B) [t]) :
    Calls Try.prog 47 #[.slice (some B) 1 1] w fun e w' => e = .returned (.string (textS t)) ∧ Below w.heap.size w w' :=
  ftexts_any _ 1 [t] 1 _ w rfl hA (by omega) (by intro x hx; simp at hx; subst hx; unfold maxLen; omega) (texts_one (text_small h (by omega)))
theorem ftexts_two (t u : ByteArray) (B : Addr) (w : World) (h : t.size ≤ 32) (g : u.size ≤ 32) (hA : Strs w w.heap.size (some B) [t, u]) :
    Calls Try.prog 47 #[.slice (some B) 2 2] w fun e w' => e = .returned (.string (textS t ++ textS u)) ∧ Below w.heap.size w w' :=
  ftexts_any _ 2 [t, u] 2 _ w rfl hA (by omega) (by intro x hx; simp at hx; unfold maxLen; rcases hx with rfl | rfl <;> omega) (texts_two (text_small h (by omega)) (text_small g (by omega)))

def NBV (xkey xval : ByteArray) (q n g : Nat) (t : Nat) (v : Value) (w : World) : Prop :=
  match t with
  | 3 => v = .pointer (some ⟨g, 0, none⟩)
  | 4 => v = .int .i64 (q : Int)
  | 5 => v = .int .u64 (q : Int)
  | 6 => v = .string (nS 1 q)
  | 7 => v = .pointer (some ⟨g, 1, none⟩)
  | 8 => v = .string xkey
  | 9 => v = .pointer (some ⟨g, 2, none⟩)
  | 10 => v = .string xval
  | 11 => ∃ B, v = .slice (some B) 2 2 ∧ Strs w w.heap.size (some B) [xkey, xval]
  | 12 => v = .string (textS xkey ++ textS xval)
  | 13 => v = .string (nS 1 q ++ (textS xkey ++ textS xval))
  | 14 => v = .pointer (some ⟨g, 3, none⟩)
  | 15 => v = .int .u64 (n : Int)
  | 16 => v = .string (nS 8 n)
  | 17 => v = .string (nS 1 q ++ (textS xkey ++ textS xval) ++ nS 8 n)
  | 2 => v = .string (nS 1 q ++ (textS xkey ++ textS xval) ++ nS 8 n)
  | _ => True
theorem NBV.on {xkey xval : ByteArray} {q n g : Nat} {t : Nat} {v : Value} {w w' : World} (h : NBV xkey xval q n g t v w) (hb : Below w.heap.size w w') : NBV xkey xval q n g t v w' := by
  unfold NBV at *
  split at h <;> first | exact h | exact (let ⟨B, e, hs⟩ := h; ⟨B, e, (hs.below hb).more hb.size⟩)

set_option maxRecDepth 100000 in
set_option maxHeartbeats 2000000 in
theorem notebytes_any (xkey xval : ByteArray) (q n : Nat) (w : World) (hq : q < 256) (hk : xkey.size ≤ 32) (hv : xval.size ≤ 32) (hn : n < 18446744073709551616) :
    Calls Try.prog 40 #[.agg #[.int .i64 (q : Int), .string xkey, .string xval, .int .u64 (n : Int)]] w fun e w' => e = .returned (.string (nS 1 q ++ (textS xkey ++ textS xval) ++ nS 8 n)) ∧ Below w.heap.size w w' := by
  have HQ := Lib.hid hq
  have HK := Lib.hid hk
  have HV := Lib.hid hv
  have HN := Lib.hid hn
  have HZ1 := Lib.hid (show ¬ 9223372036854775807 < (nS 1 q).size + (textS xkey ++ textS xval).size from by
    rw [ByteArray.size_append, nS_size, textS_small hk (by omega), textS_small hv (by omega)]; omega)
  have HZ2 := Lib.hid (show ¬ 9223372036854775807 < (nS 1 q ++ (textS xkey ++ textS xval)).size + (nS 8 n).size from by
    rw [ByteArray.size_append, ByteArray.size_append, nS_size, nS_size, textS_small hk (by omega), textS_small hv (by omega)]; omega)
  clear hq hk hv hn
  obtain ⟨w1, hw1⟩ : ∃ w1, w1 = w.alloc (.cells #[.int .i64 (q : Int), .string xkey, .string xval, .int .u64 (n : Int)] 62) := ⟨_, rfl⟩
  obtain ⟨g, hg⟩ : ∃ g, g = w.heap.size := ⟨_, rfl⟩
  have hbx : Box w1 g 62 #[.int .i64 (q : Int), .string xkey, .string xval, .int .u64 (n : Int)] := by rw [hw1]; exact Box.at_ w _ _ hg
  have HB1 := Lib.hid (show Below w.heap.size w w1 from by rw [hw1]; exact (Below.refl _ _).alloc (Nat.le_refl _) _)
  have HC := Lib.hid (show ∀ wx, Below w1.heap.size w1 wx → wx.cell? ⟨g, 0, none⟩ = some (.int .i64 (q : Int)) ∧ wx.cell? ⟨g, 1, none⟩ = some (.string xkey) ∧ wx.cell? ⟨g, 2, none⟩ = some (.string xval) ∧ wx.cell? ⟨g, 3, none⟩ = some (.int .u64 (n : Int)) from fun wx hx => by
    have hb := hbx.on hx
    exact ⟨hb.cell 0 rfl, hb.cell 1 rfl, hb.cell 2 rfl, hb.cell 3 rfl⟩)
  clear hbx
  go_enter Try.func40, Try.ntmps40
  go_upto_region 1 with fail
  rw [← hg, ← hw1]
  clear hg hw1
  refine wp_region_inv [3, 4, 5, 6, 7, 8, 9, 10, 11, 12, 13, 14, 15, 16, 17, 2] (by kernel_rfl) (by kernel_rfl) (fun w' => Below w1.heap.size w1 w') (fun wa wb => Below wa.heap.size wa wb) (NBV xkey xval q n g) (by kernel_rfl) (fun wa wb h1 h2 => h2.trans (h1.mono h2.size)) (fun t v wa wb h1 h2 => h2.on h1) (Below.refl _ _).drew (steps_of ?_) ?_
  · skip
    refine Steps1.cons (fun ax wx hS hG => ?_) (Steps1.cons (fun ax wx hS hG => ?_) (Steps1.cons (fun ax wx hS hG => ?_) (Steps1.cons (fun ax wx hS hG => ?_) (Steps1.cons (fun ax wx hS hG => ?_) (Steps1.cons (fun ax wx hS hG => ?_) (Steps1.cons (fun ax wx hS hG => ?_) (Steps1.cons (fun ax wx hS hG => ?_) (Steps1.cons (fun ax wx hS hG => ?_) (Steps1.cons (fun ax wx hS hG => ?_) (Steps1.cons (fun ax wx hS hG => ?_) (Steps1.cons (fun ax wx hS hG => ?_) (Steps1.cons (fun ax wx hS hG => ?_) (Steps1.cons (fun ax wx hS hG => ?_) (Steps1.cons (fun ax wx hS hG => ?_) (Steps1.cons (fun ax wx hS hG => ?_) Steps1.nil)))))))))))))))
    · have q1 := hG.old 1 (by kernel_rfl) (by kernel_rfl)
      refine step_value (v := .pointer (some ⟨g, 0, none⟩)) (w' := wx) rfl rfl ?_ (Below.refl _ _) (fun d hd => by cases hd; exact rfl)
      go_simp
    · obtain ⟨_, q3, rfl⟩ := hG.new 3 (by kernel_rfl) (by kernel_rfl)
      obtain ⟨z0, z1, z2, z3⟩ := HC.out wx hS
      refine step_value (v := .int .i64 (q : Int)) (w' := wx) rfl rfl ?_ (Below.refl _ _) (fun d hd => by cases hd; exact rfl)
      go_simp
    · obtain ⟨_, q4, rfl⟩ := hG.new 4 (by kernel_rfl) (by kernel_rfl)
      refine step_value (v := .int .u64 (q : Int)) (w' := wx) rfl rfl ?_ (Below.refl _ _) (fun d hd => by cases hd; exact rfl)
      have hw := u64_nat q (by have := HQ.out; omega)
      go_simp
    · obtain ⟨_, q5, rfl⟩ := hG.new 5 (by kernel_rfl) (by kernel_rfl)
      refine step_call (w1 := wx) (f := 67) (args := #[.int .u64 (q : Int), .int .i64 1]) rfl rfl ?_ ((fnum_any q 1 wx (by decide) (by decide) (by have := HQ.out; omega)).mono ?_)
      · skip
        go_simp
      · rintro e w' ⟨rfl, hq⟩
        exact ⟨_, rfl, hq, fun d hd => by cases hd; exact rfl⟩
    · have q1 := hG.old 1 (by kernel_rfl) (by kernel_rfl)
      refine step_value (v := .pointer (some ⟨g, 1, none⟩)) (w' := wx) rfl rfl ?_ (Below.refl _ _) (fun d hd => by cases hd; exact rfl)
      go_simp
    · obtain ⟨_, q7, rfl⟩ := hG.new 7 (by kernel_rfl) (by kernel_rfl)
      obtain ⟨z0, z1, z2, z3⟩ := HC.out wx hS
      refine step_value (v := .string xkey) (w' := wx) rfl rfl ?_ (Below.refl _ _) (fun d hd => by cases hd; exact rfl)
      go_simp
    · have q1 := hG.old 1 (by kernel_rfl) (by kernel_rfl)
      refine step_value (v := .pointer (some ⟨g, 2, none⟩)) (w' := wx) rfl rfl ?_ (Below.refl _ _) (fun d hd => by cases hd; exact rfl)
      go_simp
    · obtain ⟨_, q9, rfl⟩ := hG.new 9 (by kernel_rfl) (by kernel_rfl)
      obtain ⟨z0, z1, z2, z3⟩ := HC.out wx hS
      refine step_value (v := .string xval) (w' := wx) rfl rfl ?_ (Below.refl _ _) (fun d hd => by cases hd; exact rfl)
      go_simp
    · obtain ⟨_, q8, rfl⟩ := hG.new 8 (by kernel_rfl) (by kernel_rfl)
      obtain ⟨_, q10, rfl⟩ := hG.new 10 (by kernel_rfl) (by kernel_rfl)
      refine step_value (v := .slice (some ⟨wx.heap.size, 0, none⟩) 2 2) (w' := wx.alloc (.cells #[.string xkey, .string xval] 9)) rfl rfl ?_ ((Below.refl _ _).alloc (Nat.le_refl _) _) (fun d hd => by cases hd; exact ⟨_, rfl, by simpa using strs_two wx 9 xkey xval⟩)
      go_simp
    · obtain ⟨v11, q11, h11⟩ := hG.new 11 (by kernel_rfl) (by kernel_rfl)
      have p11 : ∃ B, v11 = .slice (some B) 2 2 ∧ Strs wx wx.heap.size (some B) [xkey, xval] := h11
      obtain ⟨B11, rfl, p11⟩ := p11
      refine step_call (w1 := wx) (f := 47) (args := #[.slice (some B11) 2 2]) rfl rfl ?_ ((ftexts_two xkey xval B11 wx HK.out HV.out p11).mono ?_)
      · clear h11 p11
        go_simp
      · rintro e w' ⟨rfl, hq⟩
        exact ⟨_, rfl, hq, fun d hd => by cases hd; exact rfl⟩
    · obtain ⟨_, q6, rfl⟩ := hG.new 6 (by kernel_rfl) (by kernel_rfl)
      obtain ⟨_, q12, rfl⟩ := hG.new 12 (by kernel_rfl) (by kernel_rfl)
      refine step_value (v := .string (nS 1 q ++ (textS xkey ++ textS xval))) (w' := wx) rfl rfl ?_ (Below.refl _ _) (fun d hd => by cases hd; exact rfl)
      have hz := HZ1.out
      simp only [ByteArray.size_append, Nat.not_lt] at hz
      go_simp
    · have q1 := hG.old 1 (by kernel_rfl) (by kernel_rfl)
      refine step_value (v := .pointer (some ⟨g, 3, none⟩)) (w' := wx) rfl rfl ?_ (Below.refl _ _) (fun d hd => by cases hd; exact rfl)
      go_simp
    · obtain ⟨_, q14, rfl⟩ := hG.new 14 (by kernel_rfl) (by kernel_rfl)
      obtain ⟨z0, z1, z2, z3⟩ := HC.out wx hS
      refine step_value (v := .int .u64 (n : Int)) (w' := wx) rfl rfl ?_ (Below.refl _ _) (fun d hd => by cases hd; exact rfl)
      go_simp
    · obtain ⟨_, q15, rfl⟩ := hG.new 15 (by kernel_rfl) (by kernel_rfl)
      refine step_call (w1 := wx) (f := 67) (args := #[.int .u64 (n : Int), .int .i64 8]) rfl rfl ?_ ((fnum_any n 8 wx (by decide) (by decide) (by have := HN.out; omega)).mono ?_)
      · skip
        go_simp
      · rintro e w' ⟨rfl, hq⟩
        exact ⟨_, rfl, hq, fun d hd => by cases hd; exact rfl⟩
    · obtain ⟨_, q13, rfl⟩ := hG.new 13 (by kernel_rfl) (by kernel_rfl)
      obtain ⟨_, q16, rfl⟩ := hG.new 16 (by kernel_rfl) (by kernel_rfl)
      refine step_value (v := .string (nS 1 q ++ (textS xkey ++ textS xval) ++ nS 8 n)) (w' := wx) rfl rfl ?_ (Below.refl _ _) (fun d hd => by cases hd; exact rfl)
      have hz := HZ2.out
      simp only [ByteArray.size_append, Nat.not_lt] at hz
      go_simp
    · obtain ⟨_, q17, rfl⟩ := hG.new 17 (by kernel_rfl) (by kernel_rfl)
      refine step_value (v := .string (nS 1 q ++ (textS xkey ++ textS xval) ++ nS 8 n)) (w' := wx) rfl rfl ?_ (Below.refl _ _) (fun d hd => by cases hd; exact rfl)
      go_simp
  intro fv w8 hS8 hV8
  have e2 : fv 2 = .string (nS 1 q ++ (textS xkey ++ textS xval) ++ nS 8 n) := hV8 2 (by decide)
  simp only [puts, Act.put, List.setIfInBounds_toArray, List.set_cons_succ, List.set_cons_zero]
  clear hV8
  rw [e2]
  go_wp2
  go_ret
  exact ⟨rfl, HB1.out.trans (hS8.mono HB1.out.size)⟩

set_option maxRecDepth 100000 in
set_option maxHeartbeats 2000000 in
theorem pairbytes_any (xkey xval : ByteArray) (w : World) (hk : xkey.size ≤ 32) (hv : xval.size ≤ 32) :
    Calls Try.prog 43 #[.agg #[.string xkey, .string xval]] w fun e w' => e = .returned (.string (textS xkey ++ textS xval)) ∧ Below w.heap.size w w' := by
  obtain ⟨w1, hw1⟩ : ∃ w1, w1 = w.alloc (.cells #[.string xkey, .string xval] 66) := ⟨_, rfl⟩
  obtain ⟨g, hg⟩ : ∃ g, g = w.heap.size := ⟨_, rfl⟩
  have hbx : Box w1 g 66 #[.string xkey, .string xval] := by rw [hw1]; exact Box.at_ w _ _ hg
  have HB1 := Lib.hid (show Below w.heap.size w w1 from by rw [hw1]; exact (Below.refl _ _).alloc (Nat.le_refl _) _)
  have hc := ftexts_two xkey xval ⟨w1.heap.size, 0, none⟩ (w1.alloc (.cells #[.string xkey, .string xval] 9)) hk hv (by simpa using strs_two w1 9 xkey xval)
  have HT := Lib.hid hc
  clear hc
  obtain ⟨c0, c1⟩ := (⟨hbx.cell 0 rfl, hbx.cell 1 rfl⟩ : _ ∧ _)
  clear hbx
  go_enter Try.func43, Try.ntmps43
  go_upto_region 1 with fail
  rw [← hg, ← hw1]
  clear hg hw1
  go_wp2_with fail
  refine HT.out.mono ?_
  rintro e w2 ⟨rfl, hb⟩
  have HB2 := Lib.hid (HB1.out.trans ((((Below.refl _ w1).alloc (Nat.le_refl _) _).trans (hb.mono (by simp))).mono HB1.out.size))
  clear hb
  go_wp2
  go_ret
  exact ⟨rfl, HB2.out⟩

def CBV (xkey xb xa : ByteArray) (had has : Bool) (q g : Nat) (t : Nat) (v : Value) (w : World) : Prop :=
  match t with
  | 5 => v = .pointer (some ⟨g, 2, none⟩)
  | 6 => v = .bool had
  | 7 => v = .string (fS had)
  | 8 => v = .pointer (some ⟨g, 3, none⟩)
  | 9 => v = .string xb
  | 10 => ∃ B, v = .slice (some B) 1 1 ∧ Strs w w.heap.size (some B) [xb]
  | 11 => v = .string (textS xb)
  | 12 => v = .string (fS had ++ textS xb)
  | 13 => v = .pointer (some ⟨g, 4, none⟩)
  | 14 => v = .bool has
  | 15 => v = .string (fS has)
  | 16 => v = .pointer (some ⟨g, 5, none⟩)
  | 17 => v = .string xa
  | 18 => ∃ B, v = .slice (some B) 1 1 ∧ Strs w w.heap.size (some B) [xa]
  | 19 => v = .string (textS xa)
  | 20 => v = .string (fS has ++ textS xa)
  | 3 => v = .string (fS had ++ textS xb)
  | 4 => v = .string (fS has ++ textS xa)
  | _ => True
theorem CBV.on {xkey xb xa : ByteArray} {had has : Bool} {q g : Nat} {t : Nat} {v : Value} {w w' : World} (h : CBV xkey xb xa had has q g t v w) (hb : Below w.heap.size w w') : CBV xkey xb xa had has q g t v w' := by
  unfold CBV at *
  split at h <;> first | exact h | exact (let ⟨B, e, hs⟩ := h; ⟨B, e, (hs.below hb).more hb.size⟩)

def CBU (xkey xb xa : ByteArray) (had has : Bool) (q g : Nat) (t : Nat) (v : Value) (w : World) : Prop :=
  match t with
  | 21 => v = .pointer (some ⟨g, 0, none⟩)
  | 22 => v = .int .i64 (q : Int)
  | 23 => v = .int .u64 (q : Int)
  | 24 => v = .string (nS 4 q)
  | 25 => v = .pointer (some ⟨g, 1, none⟩)
  | 26 => v = .string xkey
  | 27 => ∃ B, v = .slice (some B) 1 1 ∧ Strs w w.heap.size (some B) [xkey]
  | 28 => v = .string (textS xkey)
  | 29 => v = .string (nS 4 q ++ textS xkey)
  | 30 => v = .string (fS had ++ textS xb)
  | 31 => v = .string (nS 4 q ++ textS xkey ++ (fS had ++ textS xb))
  | 32 => v = .string (fS has ++ textS xa)
  | 33 => v = .string (nS 4 q ++ textS xkey ++ (fS had ++ textS xb) ++ (fS has ++ textS xa))
  | 2 => v = .string (nS 4 q ++ textS xkey ++ (fS had ++ textS xb) ++ (fS has ++ textS xa))
  | _ => True
theorem CBU.on {xkey xb xa : ByteArray} {had has : Bool} {q g : Nat} {t : Nat} {v : Value} {w w' : World} (h : CBU xkey xb xa had has q g t v w) (hb : Below w.heap.size w w') : CBU xkey xb xa had has q g t v w' := by
  unfold CBU at *
  split at h <;> first | exact h | exact (let ⟨B, e, hs⟩ := h; ⟨B, e, (hs.below hb).more hb.size⟩)

set_option maxRecDepth 100000 in
set_option maxHeartbeats 2000000 in
theorem chbytes_any (xkey xb xa : ByteArray) (had has : Bool) (q : Nat) (w : World) (hq : q < 4294967296) (hk : xkey.size ≤ 32) (hxb : xb.size ≤ 32) (hxa : xa.size ≤ 32) :
    Calls Try.prog 45 #[.agg #[.int .i64 (q : Int), .string xkey, .bool had, .string xb, .bool has, .string xa]] w fun e w' => e = .returned (.string (nS 4 q ++ textS xkey ++ (fS had ++ textS xb) ++ (fS has ++ textS xa))) ∧ Below w.heap.size w w' := by
  have HQ := Lib.hid hq
  have HK := Lib.hid hk
  have HXB := Lib.hid hxb
  have HXA := Lib.hid hxa
  have s1 := textS_small hk (by omega)
  have s2 := textS_small hxb (by omega)
  have s3 := textS_small hxa (by omega)
  have HZ1 := Lib.hid (show ¬ 9223372036854775807 < (fS had).size + (textS xb).size from by rw [fS_size, s2]; omega)
  have HZ2 := Lib.hid (show ¬ 9223372036854775807 < (fS has).size + (textS xa).size from by rw [fS_size, s3]; omega)
  have HZ3 := Lib.hid (show ¬ 9223372036854775807 < (nS 4 q).size + (textS xkey).size from by rw [nS_size, s1]; omega)
  have HZ4 := Lib.hid (show ¬ 9223372036854775807 < (nS 4 q ++ textS xkey).size + (fS had ++ textS xb).size from by simp only [ByteArray.size_append, nS_size, fS_size, s1, s2]; omega)
  have HZ5 := Lib.hid (show ¬ 9223372036854775807 < (nS 4 q ++ textS xkey ++ (fS had ++ textS xb)).size + (fS has ++ textS xa).size from by simp only [ByteArray.size_append, nS_size, fS_size, s1, s2, s3]; omega)
  clear hq hk hxb hxa s1 s2 s3
  obtain ⟨w1, hw1⟩ : ∃ w1, w1 = w.alloc (.cells #[.int .i64 (q : Int), .string xkey, .bool had, .string xb, .bool has, .string xa] 42) := ⟨_, rfl⟩
  obtain ⟨g, hg⟩ : ∃ g, g = w.heap.size := ⟨_, rfl⟩
  have hbx : Box w1 g 42 #[.int .i64 (q : Int), .string xkey, .bool had, .string xb, .bool has, .string xa] := by rw [hw1]; exact Box.at_ w _ _ hg
  have HB1 := Lib.hid (show Below w.heap.size w w1 from by rw [hw1]; exact (Below.refl _ _).alloc (Nat.le_refl _) _)
  have HC := Lib.hid (show ∀ wx, Below w1.heap.size w1 wx → wx.cell? ⟨g, 0, none⟩ = some (.int .i64 (q : Int)) ∧ wx.cell? ⟨g, 1, none⟩ = some (.string xkey) ∧ wx.cell? ⟨g, 2, none⟩ = some (.bool had) ∧ wx.cell? ⟨g, 3, none⟩ = some (.string xb) ∧ wx.cell? ⟨g, 4, none⟩ = some (.bool has) ∧ wx.cell? ⟨g, 5, none⟩ = some (.string xa) from fun wx hx => by
    have hb := hbx.on hx
    exact ⟨hb.cell 0 rfl, hb.cell 1 rfl, hb.cell 2 rfl, hb.cell 3 rfl, hb.cell 4 rfl, hb.cell 5 rfl⟩)
  clear hbx
  go_enter Try.func45, Try.ntmps45
  go_upto_region 1 with fail
  rw [← hg, ← hw1]
  clear hg hw1
  refine wp_region_inv [5, 6, 7, 8, 9, 10, 11, 12, 13, 14, 15, 16, 17, 18, 19, 20, 3, 4] (by kernel_rfl) (by kernel_rfl) (fun w' => Below w1.heap.size w1 w') (fun wa wb => Below wa.heap.size wa wb) (CBV xkey xb xa had has q g) (by kernel_rfl) (fun wa wb h1 h2 => h2.trans (h1.mono h2.size)) (fun t v wa wb h1 h2 => h2.on h1) (Below.refl _ _).drew (steps_of ?_) ?_
  · skip
    refine Steps1.cons (fun ax wx hS hG => ?_) (Steps1.cons (fun ax wx hS hG => ?_) (Steps1.cons (fun ax wx hS hG => ?_) (Steps1.cons (fun ax wx hS hG => ?_) (Steps1.cons (fun ax wx hS hG => ?_) (Steps1.cons (fun ax wx hS hG => ?_) (Steps1.cons (fun ax wx hS hG => ?_) (Steps1.cons (fun ax wx hS hG => ?_) (Steps1.cons (fun ax wx hS hG => ?_) (Steps1.cons (fun ax wx hS hG => ?_) (Steps1.cons (fun ax wx hS hG => ?_) (Steps1.cons (fun ax wx hS hG => ?_) (Steps1.cons (fun ax wx hS hG => ?_) (Steps1.cons (fun ax wx hS hG => ?_) (Steps1.cons (fun ax wx hS hG => ?_) (Steps1.cons (fun ax wx hS hG => ?_) (Steps1.cons (fun ax wx hS hG => ?_) (Steps1.cons (fun ax wx hS hG => ?_) Steps1.nil)))))))))))))))))
    · have q1 := hG.old 1 (by kernel_rfl) (by kernel_rfl)
      refine step_value (v := .pointer (some ⟨g, 2, none⟩)) (w' := wx) rfl rfl ?_ (Below.refl _ _) (fun d hd => by cases hd; exact rfl)
      go_simp
    · obtain ⟨_, q5, rfl⟩ := hG.new 5 (by kernel_rfl) (by kernel_rfl)
      obtain ⟨z0, z1, z2, z3, z4, z5⟩ := HC.out wx hS
      refine step_value (v := .bool had) (w' := wx) rfl rfl ?_ (Below.refl _ _) (fun d hd => by cases hd; exact rfl)
      go_simp
    · obtain ⟨_, q6, rfl⟩ := hG.new 6 (by kernel_rfl) (by kernel_rfl)
      refine step_call (w1 := wx) (f := 48) (args := #[.bool had]) rfl rfl ?_ ((fflag_any had wx).mono ?_)
      · skip
        go_simp
      · rintro e w' ⟨rfl, hq⟩
        exact ⟨_, rfl, hq, fun d hd => by cases hd; exact rfl⟩
    · have q1 := hG.old 1 (by kernel_rfl) (by kernel_rfl)
      refine step_value (v := .pointer (some ⟨g, 3, none⟩)) (w' := wx) rfl rfl ?_ (Below.refl _ _) (fun d hd => by cases hd; exact rfl)
      go_simp
    · obtain ⟨_, q8, rfl⟩ := hG.new 8 (by kernel_rfl) (by kernel_rfl)
      obtain ⟨z0, z1, z2, z3, z4, z5⟩ := HC.out wx hS
      refine step_value (v := .string xb) (w' := wx) rfl rfl ?_ (Below.refl _ _) (fun d hd => by cases hd; exact rfl)
      go_simp
    · obtain ⟨_, q9, rfl⟩ := hG.new 9 (by kernel_rfl) (by kernel_rfl)
      refine step_value (v := .slice (some ⟨wx.heap.size, 0, none⟩) 1 1) (w' := wx.alloc (.cells #[.string xb] 9)) rfl rfl ?_ ((Below.refl _ _).alloc (Nat.le_refl _) _) (fun d hd => by cases hd; exact ⟨_, rfl, by simpa using strs_one wx 9 xb⟩)
      go_simp
    · obtain ⟨v10, q10, h10⟩ := hG.new 10 (by kernel_rfl) (by kernel_rfl)
      have p10 : ∃ B, v10 = .slice (some B) 1 1 ∧ Strs wx wx.heap.size (some B) [xb] := h10
      obtain ⟨B10, rfl, p10⟩ := p10
      refine step_call (w1 := wx) (f := 47) (args := #[.slice (some B10) 1 1]) rfl rfl ?_ ((ftexts_one xb B10 wx HXB.out p10).mono ?_)
      · clear h10 p10
        go_simp
      · rintro e w' ⟨rfl, hq⟩
        exact ⟨_, rfl, hq, fun d hd => by cases hd; exact rfl⟩
    · obtain ⟨_, q7, rfl⟩ := hG.new 7 (by kernel_rfl) (by kernel_rfl)
      obtain ⟨_, q11, rfl⟩ := hG.new 11 (by kernel_rfl) (by kernel_rfl)
      refine step_value (v := .string (fS had ++ textS xb)) (w' := wx) rfl rfl ?_ (Below.refl _ _) (fun d hd => by cases hd; exact rfl)
      have hz := HZ1.out
      simp only [ByteArray.size_append, Nat.not_lt] at hz
      go_simp
    · have q1 := hG.old 1 (by kernel_rfl) (by kernel_rfl)
      refine step_value (v := .pointer (some ⟨g, 4, none⟩)) (w' := wx) rfl rfl ?_ (Below.refl _ _) (fun d hd => by cases hd; exact rfl)
      go_simp
    · obtain ⟨_, q13, rfl⟩ := hG.new 13 (by kernel_rfl) (by kernel_rfl)
      obtain ⟨z0, z1, z2, z3, z4, z5⟩ := HC.out wx hS
      refine step_value (v := .bool has) (w' := wx) rfl rfl ?_ (Below.refl _ _) (fun d hd => by cases hd; exact rfl)
      go_simp
    · obtain ⟨_, q14, rfl⟩ := hG.new 14 (by kernel_rfl) (by kernel_rfl)
      refine step_call (w1 := wx) (f := 48) (args := #[.bool has]) rfl rfl ?_ ((fflag_any has wx).mono ?_)
      · skip
        go_simp
      · rintro e w' ⟨rfl, hq⟩
        exact ⟨_, rfl, hq, fun d hd => by cases hd; exact rfl⟩
    · have q1 := hG.old 1 (by kernel_rfl) (by kernel_rfl)
      refine step_value (v := .pointer (some ⟨g, 5, none⟩)) (w' := wx) rfl rfl ?_ (Below.refl _ _) (fun d hd => by cases hd; exact rfl)
      go_simp
    · obtain ⟨_, q16, rfl⟩ := hG.new 16 (by kernel_rfl) (by kernel_rfl)
      obtain ⟨z0, z1, z2, z3, z4, z5⟩ := HC.out wx hS
      refine step_value (v := .string xa) (w' := wx) rfl rfl ?_ (Below.refl _ _) (fun d hd => by cases hd; exact rfl)
      go_simp
    · obtain ⟨_, q17, rfl⟩ := hG.new 17 (by kernel_rfl) (by kernel_rfl)
      refine step_value (v := .slice (some ⟨wx.heap.size, 0, none⟩) 1 1) (w' := wx.alloc (.cells #[.string xa] 9)) rfl rfl ?_ ((Below.refl _ _).alloc (Nat.le_refl _) _) (fun d hd => by cases hd; exact ⟨_, rfl, by simpa using strs_one wx 9 xa⟩)
      go_simp
    · obtain ⟨v18, q18, h18⟩ := hG.new 18 (by kernel_rfl) (by kernel_rfl)
      have p18 : ∃ B, v18 = .slice (some B) 1 1 ∧ Strs wx wx.heap.size (some B) [xa] := h18
      obtain ⟨B18, rfl, p18⟩ := p18
      refine step_call (w1 := wx) (f := 47) (args := #[.slice (some B18) 1 1]) rfl rfl ?_ ((ftexts_one xa B18 wx HXA.out p18).mono ?_)
      · clear h18 p18
        go_simp
      · rintro e w' ⟨rfl, hq⟩
        exact ⟨_, rfl, hq, fun d hd => by cases hd; exact rfl⟩
    · obtain ⟨_, q15, rfl⟩ := hG.new 15 (by kernel_rfl) (by kernel_rfl)
      obtain ⟨_, q19, rfl⟩ := hG.new 19 (by kernel_rfl) (by kernel_rfl)
      refine step_value (v := .string (fS has ++ textS xa)) (w' := wx) rfl rfl ?_ (Below.refl _ _) (fun d hd => by cases hd; exact rfl)
      have hz := HZ2.out
      simp only [ByteArray.size_append, Nat.not_lt] at hz
      go_simp
    · obtain ⟨_, q12, rfl⟩ := hG.new 12 (by kernel_rfl) (by kernel_rfl)
      refine step_value (v := .string (fS had ++ textS xb)) (w' := wx) rfl rfl ?_ (Below.refl _ _) (fun d hd => by cases hd; exact rfl)
      go_simp
    · obtain ⟨_, q20, rfl⟩ := hG.new 20 (by kernel_rfl) (by kernel_rfl)
      refine step_value (v := .string (fS has ++ textS xa)) (w' := wx) rfl rfl ?_ (Below.refl _ _) (fun d hd => by cases hd; exact rfl)
      go_simp
  intro fv w5 hS5 hV8
  have e3 : fv 3 = .string (fS had ++ textS xb) := hV8 3 (by decide)
  have e4 : fv 4 = .string (fS has ++ textS xa) := hV8 4 (by decide)
  simp only [puts, Act.put, List.setIfInBounds_toArray, List.set_cons_succ, List.set_cons_zero]
  clear hV8
  rw [e3, e4]
  have HD := Lib.hid (show ∀ wx, Below w5.heap.size w5 wx → wx.cell? ⟨g, 0, none⟩ = some (.int .i64 (q : Int)) ∧ wx.cell? ⟨g, 1, none⟩ = some (.string xkey) ∧ wx.cell? ⟨g, 2, none⟩ = some (.bool had) ∧ wx.cell? ⟨g, 3, none⟩ = some (.string xb) ∧ wx.cell? ⟨g, 4, none⟩ = some (.bool has) ∧ wx.cell? ⟨g, 5, none⟩ = some (.string xa) from fun wx hx => HC.out wx (hS5.trans (hx.mono hS5.size)))
  have HB5 := Lib.hid (HB1.out.trans (hS5.mono HB1.out.size))
  clear hS5
  go_upto_region 2 with fail
  refine wp_region_inv [21, 22, 23, 24, 25, 26, 27, 28, 29, 30, 31, 32, 33, 2] (by kernel_rfl) (by kernel_rfl) (fun w' => Below w5.heap.size w5 w') (fun wa wb => Below wa.heap.size wa wb) (CBU xkey xb xa had has q g) (by kernel_rfl) (fun wa wb h1 h2 => h2.trans (h1.mono h2.size)) (fun t v wa wb h1 h2 => h2.on h1) (Below.refl _ _).drew (steps_of ?_) ?_
  · skip
    refine Steps1.cons (fun ax wx hS hG => ?_) (Steps1.cons (fun ax wx hS hG => ?_) (Steps1.cons (fun ax wx hS hG => ?_) (Steps1.cons (fun ax wx hS hG => ?_) (Steps1.cons (fun ax wx hS hG => ?_) (Steps1.cons (fun ax wx hS hG => ?_) (Steps1.cons (fun ax wx hS hG => ?_) (Steps1.cons (fun ax wx hS hG => ?_) (Steps1.cons (fun ax wx hS hG => ?_) (Steps1.cons (fun ax wx hS hG => ?_) (Steps1.cons (fun ax wx hS hG => ?_) (Steps1.cons (fun ax wx hS hG => ?_) (Steps1.cons (fun ax wx hS hG => ?_) (Steps1.cons (fun ax wx hS hG => ?_) Steps1.nil)))))))))))))
    · have q1 := hG.old 1 (by kernel_rfl) (by kernel_rfl)
      refine step_value (v := .pointer (some ⟨g, 0, none⟩)) (w' := wx) rfl rfl ?_ (Below.refl _ _) (fun d hd => by cases hd; exact rfl)
      go_simp
    · obtain ⟨_, q21, rfl⟩ := hG.new 21 (by kernel_rfl) (by kernel_rfl)
      obtain ⟨z0, z1, z2, z3, z4, z5⟩ := HD.out wx hS
      refine step_value (v := .int .i64 (q : Int)) (w' := wx) rfl rfl ?_ (Below.refl _ _) (fun d hd => by cases hd; exact rfl)
      go_simp
    · obtain ⟨_, q22, rfl⟩ := hG.new 22 (by kernel_rfl) (by kernel_rfl)
      refine step_value (v := .int .u64 (q : Int)) (w' := wx) rfl rfl ?_ (Below.refl _ _) (fun d hd => by cases hd; exact rfl)
      have hw := u64_nat q (by have := HQ.out; omega)
      go_simp
    · obtain ⟨_, q23, rfl⟩ := hG.new 23 (by kernel_rfl) (by kernel_rfl)
      refine step_call (w1 := wx) (f := 67) (args := #[.int .u64 (q : Int), .int .i64 4]) rfl rfl ?_ ((fnum_any q 4 wx (by decide) (by decide) (by have := HQ.out; omega)).mono ?_)
      · skip
        go_simp
      · rintro e w' ⟨rfl, hq⟩
        exact ⟨_, rfl, hq, fun d hd => by cases hd; exact rfl⟩
    · have q1 := hG.old 1 (by kernel_rfl) (by kernel_rfl)
      refine step_value (v := .pointer (some ⟨g, 1, none⟩)) (w' := wx) rfl rfl ?_ (Below.refl _ _) (fun d hd => by cases hd; exact rfl)
      go_simp
    · obtain ⟨_, q25, rfl⟩ := hG.new 25 (by kernel_rfl) (by kernel_rfl)
      obtain ⟨z0, z1, z2, z3, z4, z5⟩ := HD.out wx hS
      refine step_value (v := .string xkey) (w' := wx) rfl rfl ?_ (Below.refl _ _) (fun d hd => by cases hd; exact rfl)
      go_simp
    · obtain ⟨_, q26, rfl⟩ := hG.new 26 (by kernel_rfl) (by kernel_rfl)
      refine step_value (v := .slice (some ⟨wx.heap.size, 0, none⟩) 1 1) (w' := wx.alloc (.cells #[.string xkey] 9)) rfl rfl ?_ ((Below.refl _ _).alloc (Nat.le_refl _) _) (fun d hd => by cases hd; exact ⟨_, rfl, by simpa using strs_one wx 9 xkey⟩)
      go_simp
    · obtain ⟨v27, q27, h27⟩ := hG.new 27 (by kernel_rfl) (by kernel_rfl)
      have p27 : ∃ B, v27 = .slice (some B) 1 1 ∧ Strs wx wx.heap.size (some B) [xkey] := h27
      obtain ⟨B27, rfl, p27⟩ := p27
      refine step_call (w1 := wx) (f := 47) (args := #[.slice (some B27) 1 1]) rfl rfl ?_ ((ftexts_one xkey B27 wx HK.out p27).mono ?_)
      · clear h27 p27
        go_simp
      · rintro e w' ⟨rfl, hq⟩
        exact ⟨_, rfl, hq, fun d hd => by cases hd; exact rfl⟩
    · obtain ⟨_, q24, rfl⟩ := hG.new 24 (by kernel_rfl) (by kernel_rfl)
      obtain ⟨_, q28, rfl⟩ := hG.new 28 (by kernel_rfl) (by kernel_rfl)
      refine step_value (v := .string (nS 4 q ++ textS xkey)) (w' := wx) rfl rfl ?_ (Below.refl _ _) (fun d hd => by cases hd; exact rfl)
      have hz := HZ3.out
      simp only [ByteArray.size_append, Nat.not_lt] at hz
      go_simp
    · have q3 := hG.old 3 (by kernel_rfl) (by kernel_rfl)
      refine step_value (v := .string (fS had ++ textS xb)) (w' := wx) rfl rfl ?_ (Below.refl _ _) (fun d hd => by cases hd; exact rfl)
      go_simp
    · obtain ⟨_, q29, rfl⟩ := hG.new 29 (by kernel_rfl) (by kernel_rfl)
      obtain ⟨_, q30, rfl⟩ := hG.new 30 (by kernel_rfl) (by kernel_rfl)
      refine step_value (v := .string (nS 4 q ++ textS xkey ++ (fS had ++ textS xb))) (w' := wx) rfl rfl ?_ (Below.refl _ _) (fun d hd => by cases hd; exact rfl)
      have hz := HZ4.out
      simp only [ByteArray.size_append, Nat.not_lt] at hz
      go_simp
    · have q4 := hG.old 4 (by kernel_rfl) (by kernel_rfl)
      refine step_value (v := .string (fS has ++ textS xa)) (w' := wx) rfl rfl ?_ (Below.refl _ _) (fun d hd => by cases hd; exact rfl)
      go_simp
    · obtain ⟨_, q31, rfl⟩ := hG.new 31 (by kernel_rfl) (by kernel_rfl)
      obtain ⟨_, q32, rfl⟩ := hG.new 32 (by kernel_rfl) (by kernel_rfl)
      refine step_value (v := .string (nS 4 q ++ textS xkey ++ (fS had ++ textS xb) ++ (fS has ++ textS xa))) (w' := wx) rfl rfl ?_ (Below.refl _ _) (fun d hd => by cases hd; exact rfl)
      have hz := HZ5.out
      simp only [ByteArray.size_append, Nat.not_lt] at hz
      go_simp
    · obtain ⟨_, q33, rfl⟩ := hG.new 33 (by kernel_rfl) (by kernel_rfl)
      refine step_value (v := .string (nS 4 q ++ textS xkey ++ (fS had ++ textS xb) ++ (fS has ++ textS xa))) (w' := wx) rfl rfl ?_ (Below.refl _ _) (fun d hd => by cases hd; exact rfl)
      go_simp
  intro fv w8 hS8 hV8
  have e2 : fv 2 = .string (nS 4 q ++ textS xkey ++ (fS had ++ textS xb) ++ (fS has ++ textS xa)) := hV8 2 (by decide)
  simp only [puts, Act.put, List.setIfInBounds_toArray, List.set_cons_succ, List.set_cons_zero]
  clear hV8
  rw [e2]
  go_wp2
  go_ret
  exact ⟨rfl, HB5.out.trans (hS8.mono HB5.out.size)⟩

def DNV (xkey xval : ByteArray) (q n g : Nat) (t : Nat) (v : Value) (w : World) : Prop :=
  match t with
  | 3 => v = .pointer (some ⟨g, 0, none⟩)
  | 4 => v = .int .i64 (q : Int)
  | 5 => v = .int .u64 (q : Int)
  | 6 => v = .string (nS 1 q)
  | 7 => v = .pointer (some ⟨g, 1, none⟩)
  | 8 => v = .string xkey
  | 9 => v = .string (textS xkey)
  | 10 => v = .string (nS 1 q ++ textS xkey)
  | 11 => v = .pointer (some ⟨g, 2, none⟩)
  | 12 => v = .string xval
  | 13 => v = .string (textS xval)
  | 14 => v = .string (nS 1 q ++ textS xkey ++ textS xval)
  | 15 => v = .pointer (some ⟨g, 3, none⟩)
  | 16 => v = .int .u64 (n : Int)
  | 17 => v = .string (nS 8 n)
  | 18 => v = .string (nS 1 q ++ textS xkey ++ textS xval ++ nS 8 n)
  | 2 => v = .string (nS 1 q ++ textS xkey ++ textS xval ++ nS 8 n)
  | _ => True
theorem DNV.on {xkey xval : ByteArray} {q n g : Nat} {t : Nat} {v : Value} {w w' : World} (h : DNV xkey xval q n g t v w) (hb : Below w.heap.size w w') : DNV xkey xval q n g t v w' := by
  unfold DNV at *
  split at h <;> first | exact h | exact h

set_option maxRecDepth 100000 in
set_option maxHeartbeats 2000000 in
theorem dnotebytes_any (xkey xval : ByteArray) (q n : Nat) (w : World) (hq : q < 256) (hk : xkey.size ≤ 32) (hv : xval.size ≤ 32) (hn : n < 18446744073709551616) :
    Calls Try.prog 32 #[.agg #[.int .i64 (q : Int), .string xkey, .string xval, .int .u64 (n : Int)]] w fun e w' => e = .returned (.string (nS 1 q ++ textS xkey ++ textS xval ++ nS 8 n)) ∧ Below w.heap.size w w' := by
  have HQ := Lib.hid hq
  have HK := Lib.hid hk
  have HV := Lib.hid hv
  have HN := Lib.hid hn
  have s1 := textS_small hk (by omega)
  have s2 := textS_small hv (by omega)
  have HZ1 := Lib.hid (show ¬ 9223372036854775807 < (nS 1 q).size + (textS xkey).size from by rw [nS_size, s1]; omega)
  have HZ2 := Lib.hid (show ¬ 9223372036854775807 < (nS 1 q ++ textS xkey).size + (textS xval).size from by simp only [ByteArray.size_append, nS_size, s1, s2]; omega)
  have HZ3 := Lib.hid (show ¬ 9223372036854775807 < (nS 1 q ++ textS xkey ++ textS xval).size + (nS 8 n).size from by simp only [ByteArray.size_append, nS_size, s1, s2]; omega)
  clear hq hk hv hn s1 s2
  obtain ⟨w1, hw1⟩ : ∃ w1, w1 = w.alloc (.cells #[.int .i64 (q : Int), .string xkey, .string xval, .int .u64 (n : Int)] 62) := ⟨_, rfl⟩
  obtain ⟨g, hg⟩ : ∃ g, g = w.heap.size := ⟨_, rfl⟩
  have hbx : Box w1 g 62 #[.int .i64 (q : Int), .string xkey, .string xval, .int .u64 (n : Int)] := by rw [hw1]; exact Box.at_ w _ _ hg
  have HB1 := Lib.hid (show Below w.heap.size w w1 from by rw [hw1]; exact (Below.refl _ _).alloc (Nat.le_refl _) _)
  have HC := Lib.hid (show ∀ wx, Below w1.heap.size w1 wx → wx.cell? ⟨g, 0, none⟩ = some (.int .i64 (q : Int)) ∧ wx.cell? ⟨g, 1, none⟩ = some (.string xkey) ∧ wx.cell? ⟨g, 2, none⟩ = some (.string xval) ∧ wx.cell? ⟨g, 3, none⟩ = some (.int .u64 (n : Int)) from fun wx hx => by
    have hb := hbx.on hx
    exact ⟨hb.cell 0 rfl, hb.cell 1 rfl, hb.cell 2 rfl, hb.cell 3 rfl⟩)
  clear hbx
  go_enter Try.func32, Try.ntmps32
  go_upto_region 1 with fail
  rw [← hg, ← hw1]
  clear hg hw1
  refine wp_region_inv [3, 4, 5, 6, 7, 8, 9, 10, 11, 12, 13, 14, 15, 16, 17, 18, 2] (by kernel_rfl) (by kernel_rfl) (fun w' => Below w1.heap.size w1 w') (fun wa wb => Below wa.heap.size wa wb) (DNV xkey xval q n g) (by kernel_rfl) (fun wa wb h1 h2 => h2.trans (h1.mono h2.size)) (fun t v wa wb h1 h2 => h2.on h1) (Below.refl _ _).drew (steps_of ?_) ?_
  · skip
    refine Steps1.cons (fun ax wx hS hG => ?_) (Steps1.cons (fun ax wx hS hG => ?_) (Steps1.cons (fun ax wx hS hG => ?_) (Steps1.cons (fun ax wx hS hG => ?_) (Steps1.cons (fun ax wx hS hG => ?_) (Steps1.cons (fun ax wx hS hG => ?_) (Steps1.cons (fun ax wx hS hG => ?_) (Steps1.cons (fun ax wx hS hG => ?_) (Steps1.cons (fun ax wx hS hG => ?_) (Steps1.cons (fun ax wx hS hG => ?_) (Steps1.cons (fun ax wx hS hG => ?_) (Steps1.cons (fun ax wx hS hG => ?_) (Steps1.cons (fun ax wx hS hG => ?_) (Steps1.cons (fun ax wx hS hG => ?_) (Steps1.cons (fun ax wx hS hG => ?_) (Steps1.cons (fun ax wx hS hG => ?_) (Steps1.cons (fun ax wx hS hG => ?_) Steps1.nil))))))))))))))))
    · have q1 := hG.old 1 (by kernel_rfl) (by kernel_rfl)
      refine step_value (v := .pointer (some ⟨g, 0, none⟩)) (w' := wx) rfl rfl ?_ (Below.refl _ _) (fun d hd => by cases hd; exact rfl)
      go_simp
    · obtain ⟨_, q3, rfl⟩ := hG.new 3 (by kernel_rfl) (by kernel_rfl)
      obtain ⟨z0, z1, z2, z3⟩ := HC.out wx hS
      refine step_value (v := .int .i64 (q : Int)) (w' := wx) rfl rfl ?_ (Below.refl _ _) (fun d hd => by cases hd; exact rfl)
      go_simp
    · obtain ⟨_, q4, rfl⟩ := hG.new 4 (by kernel_rfl) (by kernel_rfl)
      refine step_value (v := .int .u64 (q : Int)) (w' := wx) rfl rfl ?_ (Below.refl _ _) (fun d hd => by cases hd; exact rfl)
      have hw := u64_nat q (by have := HQ.out; omega)
      go_simp
    · obtain ⟨_, q5, rfl⟩ := hG.new 5 (by kernel_rfl) (by kernel_rfl)
      refine step_call (w1 := wx) (f := 49) (args := #[.int .u64 (q : Int), .int .i64 1]) rfl rfl ?_ ((dnum_flat q 1 wx (by decide) (by decide) (by have := HQ.out; omega)).mono ?_)
      · skip
        go_simp
      · rintro e w' ⟨rfl, hq⟩
        exact ⟨_, rfl, hq, fun d hd => by cases hd; exact rfl⟩
    · have q1 := hG.old 1 (by kernel_rfl) (by kernel_rfl)
      refine step_value (v := .pointer (some ⟨g, 1, none⟩)) (w' := wx) rfl rfl ?_ (Below.refl _ _) (fun d hd => by cases hd; exact rfl)
      go_simp
    · obtain ⟨_, q7, rfl⟩ := hG.new 7 (by kernel_rfl) (by kernel_rfl)
      obtain ⟨z0, z1, z2, z3⟩ := HC.out wx hS
      refine step_value (v := .string xkey) (w' := wx) rfl rfl ?_ (Below.refl _ _) (fun d hd => by cases hd; exact rfl)
      go_simp
    · obtain ⟨_, q8, rfl⟩ := hG.new 8 (by kernel_rfl) (by kernel_rfl)
      refine step_call (w1 := wx) (f := 53) (args := #[.string xkey]) rfl rfl ?_ ((dtext_flat xkey wx (by have := HK.out; unfold maxLen; omega)).mono ?_)
      · skip
        go_simp
      · rintro e w' ⟨rfl, hq⟩
        exact ⟨_, rfl, hq, fun d hd => by cases hd; exact rfl⟩
    · obtain ⟨_, q6, rfl⟩ := hG.new 6 (by kernel_rfl) (by kernel_rfl)
      obtain ⟨_, q9, rfl⟩ := hG.new 9 (by kernel_rfl) (by kernel_rfl)
      refine step_value (v := .string (nS 1 q ++ textS xkey)) (w' := wx) rfl rfl ?_ (Below.refl _ _) (fun d hd => by cases hd; exact rfl)
      have hz := HZ1.out
      simp only [ByteArray.size_append, Nat.not_lt] at hz
      go_simp
    · have q1 := hG.old 1 (by kernel_rfl) (by kernel_rfl)
      refine step_value (v := .pointer (some ⟨g, 2, none⟩)) (w' := wx) rfl rfl ?_ (Below.refl _ _) (fun d hd => by cases hd; exact rfl)
      go_simp
    · obtain ⟨_, q11, rfl⟩ := hG.new 11 (by kernel_rfl) (by kernel_rfl)
      obtain ⟨z0, z1, z2, z3⟩ := HC.out wx hS
      refine step_value (v := .string xval) (w' := wx) rfl rfl ?_ (Below.refl _ _) (fun d hd => by cases hd; exact rfl)
      go_simp
    · obtain ⟨_, q12, rfl⟩ := hG.new 12 (by kernel_rfl) (by kernel_rfl)
      refine step_call (w1 := wx) (f := 53) (args := #[.string xval]) rfl rfl ?_ ((dtext_flat xval wx (by have := HV.out; unfold maxLen; omega)).mono ?_)
      · skip
        go_simp
      · rintro e w' ⟨rfl, hq⟩
        exact ⟨_, rfl, hq, fun d hd => by cases hd; exact rfl⟩
    · obtain ⟨_, q10, rfl⟩ := hG.new 10 (by kernel_rfl) (by kernel_rfl)
      obtain ⟨_, q13, rfl⟩ := hG.new 13 (by kernel_rfl) (by kernel_rfl)
      refine step_value (v := .string (nS 1 q ++ textS xkey ++ textS xval)) (w' := wx) rfl rfl ?_ (Below.refl _ _) (fun d hd => by cases hd; exact rfl)
      have hz := HZ2.out
      simp only [ByteArray.size_append, Nat.not_lt] at hz
      go_simp
    · have q1 := hG.old 1 (by kernel_rfl) (by kernel_rfl)
      refine step_value (v := .pointer (some ⟨g, 3, none⟩)) (w' := wx) rfl rfl ?_ (Below.refl _ _) (fun d hd => by cases hd; exact rfl)
      go_simp
    · obtain ⟨_, q15, rfl⟩ := hG.new 15 (by kernel_rfl) (by kernel_rfl)
      obtain ⟨z0, z1, z2, z3⟩ := HC.out wx hS
      refine step_value (v := .int .u64 (n : Int)) (w' := wx) rfl rfl ?_ (Below.refl _ _) (fun d hd => by cases hd; exact rfl)
      go_simp
    · obtain ⟨_, q16, rfl⟩ := hG.new 16 (by kernel_rfl) (by kernel_rfl)
      refine step_call (w1 := wx) (f := 49) (args := #[.int .u64 (n : Int), .int .i64 8]) rfl rfl ?_ ((dnum_flat n 8 wx (by decide) (by decide) (by have := HN.out; omega)).mono ?_)
      · skip
        go_simp
      · rintro e w' ⟨rfl, hq⟩
        exact ⟨_, rfl, hq, fun d hd => by cases hd; exact rfl⟩
    · obtain ⟨_, q14, rfl⟩ := hG.new 14 (by kernel_rfl) (by kernel_rfl)
      obtain ⟨_, q17, rfl⟩ := hG.new 17 (by kernel_rfl) (by kernel_rfl)
      refine step_value (v := .string (nS 1 q ++ textS xkey ++ textS xval ++ nS 8 n)) (w' := wx) rfl rfl ?_ (Below.refl _ _) (fun d hd => by cases hd; exact rfl)
      have hz := HZ3.out
      simp only [ByteArray.size_append, Nat.not_lt] at hz
      go_simp
    · obtain ⟨_, q18, rfl⟩ := hG.new 18 (by kernel_rfl) (by kernel_rfl)
      refine step_value (v := .string (nS 1 q ++ textS xkey ++ textS xval ++ nS 8 n)) (w' := wx) rfl rfl ?_ (Below.refl _ _) (fun d hd => by cases hd; exact rfl)
      go_simp
  intro fv w8 hS8 hV8
  have e2 : fv 2 = .string (nS 1 q ++ textS xkey ++ textS xval ++ nS 8 n) := hV8 2 (by decide)
  simp only [puts, Act.put, List.setIfInBounds_toArray, List.set_cons_succ, List.set_cons_zero]
  clear hV8
  rw [e2]
  go_wp2
  go_ret
  exact ⟨rfl, HB1.out.trans (hS8.mono HB1.out.size)⟩

def DPV (xkey xval : ByteArray) (g : Nat) (t : Nat) (v : Value) (w : World) : Prop :=
  match t with
  | 3 => v = .pointer (some ⟨g, 0, none⟩)
  | 4 => v = .string xkey
  | 5 => v = .string (textS xkey)
  | 6 => v = .pointer (some ⟨g, 1, none⟩)
  | 7 => v = .string xval
  | 8 => v = .string (textS xval)
  | 9 => v = .string (textS xkey ++ textS xval)
  | 2 => v = .string (textS xkey ++ textS xval)
  | _ => True
theorem DPV.on {xkey xval : ByteArray} {g : Nat} {t : Nat} {v : Value} {w w' : World} (h : DPV xkey xval g t v w) (hb : Below w.heap.size w w') : DPV xkey xval g t v w' := by
  unfold DPV at *
  split at h <;> first | exact h | exact h

set_option maxRecDepth 100000 in
set_option maxHeartbeats 2000000 in
theorem dpairbytes_any (xkey xval : ByteArray) (w : World) (hk : xkey.size ≤ 32) (hv : xval.size ≤ 32) :
    Calls Try.prog 33 #[.agg #[.string xkey, .string xval]] w fun e w' => e = .returned (.string (textS xkey ++ textS xval)) ∧ Below w.heap.size w w' := by
  have HK := Lib.hid hk
  have HV := Lib.hid hv
  have s1 := textS_small hk (by omega)
  have s2 := textS_small hv (by omega)
  have HZ1 := Lib.hid (show ¬ 9223372036854775807 < (textS xkey).size + (textS xval).size from by rw [s1, s2]; omega)
  clear hk hv s1 s2
  obtain ⟨w1, hw1⟩ : ∃ w1, w1 = w.alloc (.cells #[.string xkey, .string xval] 66) := ⟨_, rfl⟩
  obtain ⟨g, hg⟩ : ∃ g, g = w.heap.size := ⟨_, rfl⟩
  have hbx : Box w1 g 66 #[.string xkey, .string xval] := by rw [hw1]; exact Box.at_ w _ _ hg
  have HB1 := Lib.hid (show Below w.heap.size w w1 from by rw [hw1]; exact (Below.refl _ _).alloc (Nat.le_refl _) _)
  have HC := Lib.hid (show ∀ wx, Below w1.heap.size w1 wx → wx.cell? ⟨g, 0, none⟩ = some (.string xkey) ∧ wx.cell? ⟨g, 1, none⟩ = some (.string xval) from fun wx hx => by
    have hb := hbx.on hx
    exact ⟨hb.cell 0 rfl, hb.cell 1 rfl⟩)
  clear hbx
  go_enter Try.func33, Try.ntmps33
  go_upto_region 1 with fail
  rw [← hg, ← hw1]
  clear hg hw1
  refine wp_region_inv [3, 4, 5, 6, 7, 8, 9, 2] (by kernel_rfl) (by kernel_rfl) (fun w' => Below w1.heap.size w1 w') (fun wa wb => Below wa.heap.size wa wb) (DPV xkey xval g) (by kernel_rfl) (fun wa wb h1 h2 => h2.trans (h1.mono h2.size)) (fun t v wa wb h1 h2 => h2.on h1) (Below.refl _ _).drew (steps_of ?_) ?_
  · skip
    refine Steps1.cons (fun ax wx hS hG => ?_) (Steps1.cons (fun ax wx hS hG => ?_) (Steps1.cons (fun ax wx hS hG => ?_) (Steps1.cons (fun ax wx hS hG => ?_) (Steps1.cons (fun ax wx hS hG => ?_) (Steps1.cons (fun ax wx hS hG => ?_) (Steps1.cons (fun ax wx hS hG => ?_) (Steps1.cons (fun ax wx hS hG => ?_) Steps1.nil)))))))
    · have q1 := hG.old 1 (by kernel_rfl) (by kernel_rfl)
      refine step_value (v := .pointer (some ⟨g, 0, none⟩)) (w' := wx) rfl rfl ?_ (Below.refl _ _) (fun d hd => by cases hd; exact rfl)
      go_simp
    · obtain ⟨_, q3, rfl⟩ := hG.new 3 (by kernel_rfl) (by kernel_rfl)
      obtain ⟨z0, z1⟩ := HC.out wx hS
      refine step_value (v := .string xkey) (w' := wx) rfl rfl ?_ (Below.refl _ _) (fun d hd => by cases hd; exact rfl)
      go_simp
    · obtain ⟨_, q4, rfl⟩ := hG.new 4 (by kernel_rfl) (by kernel_rfl)
      refine step_call (w1 := wx) (f := 53) (args := #[.string xkey]) rfl rfl ?_ ((dtext_flat xkey wx (by have := HK.out; unfold maxLen; omega)).mono ?_)
      · skip
        go_simp
      · rintro e w' ⟨rfl, hq⟩
        exact ⟨_, rfl, hq, fun d hd => by cases hd; exact rfl⟩
    · have q1 := hG.old 1 (by kernel_rfl) (by kernel_rfl)
      refine step_value (v := .pointer (some ⟨g, 1, none⟩)) (w' := wx) rfl rfl ?_ (Below.refl _ _) (fun d hd => by cases hd; exact rfl)
      go_simp
    · obtain ⟨_, q6, rfl⟩ := hG.new 6 (by kernel_rfl) (by kernel_rfl)
      obtain ⟨z0, z1⟩ := HC.out wx hS
      refine step_value (v := .string xval) (w' := wx) rfl rfl ?_ (Below.refl _ _) (fun d hd => by cases hd; exact rfl)
      go_simp
    · obtain ⟨_, q7, rfl⟩ := hG.new 7 (by kernel_rfl) (by kernel_rfl)
      refine step_call (w1 := wx) (f := 53) (args := #[.string xval]) rfl rfl ?_ ((dtext_flat xval wx (by have := HV.out; unfold maxLen; omega)).mono ?_)
      · skip
        go_simp
      · rintro e w' ⟨rfl, hq⟩
        exact ⟨_, rfl, hq, fun d hd => by cases hd; exact rfl⟩
    · obtain ⟨_, q5, rfl⟩ := hG.new 5 (by kernel_rfl) (by kernel_rfl)
      obtain ⟨_, q8, rfl⟩ := hG.new 8 (by kernel_rfl) (by kernel_rfl)
      refine step_value (v := .string (textS xkey ++ textS xval)) (w' := wx) rfl rfl ?_ (Below.refl _ _) (fun d hd => by cases hd; exact rfl)
      have hz := HZ1.out
      simp only [ByteArray.size_append, Nat.not_lt] at hz
      go_simp
    · obtain ⟨_, q9, rfl⟩ := hG.new 9 (by kernel_rfl) (by kernel_rfl)
      refine step_value (v := .string (textS xkey ++ textS xval)) (w' := wx) rfl rfl ?_ (Below.refl _ _) (fun d hd => by cases hd; exact rfl)
      go_simp
  intro fv w8 hS8 hV8
  have e2 : fv 2 = .string (textS xkey ++ textS xval) := hV8 2 (by decide)
  simp only [puts, Act.put, List.setIfInBounds_toArray, List.set_cons_succ, List.set_cons_zero]
  clear hV8
  rw [e2]
  go_wp2
  go_ret
  exact ⟨rfl, HB1.out.trans (hS8.mono HB1.out.size)⟩

def DCV (xkey xb xa : ByteArray) (had has : Bool) (q g : Nat) (t : Nat) (v : Value) (w : World) : Prop :=
  match t with
  | 3 => v = .pointer (some ⟨g, 0, none⟩)
  | 4 => v = .int .i64 (q : Int)
  | 5 => v = .int .u64 (q : Int)
  | 6 => v = .string (nS 4 q)
  | 7 => v = .pointer (some ⟨g, 1, none⟩)
  | 8 => v = .string xkey
  | 9 => v = .string (textS xkey)
  | 10 => v = .string (nS 4 q ++ textS xkey)
  | 11 => v = .pointer (some ⟨g, 2, none⟩)
  | 12 => v = .bool had
  | 13 => v = .string (fS had)
  | 14 => v = .string (nS 4 q ++ textS xkey ++ fS had)
  | 15 => v = .pointer (some ⟨g, 3, none⟩)
  | 16 => v = .string xb
  | 17 => v = .string (textS xb)
  | 18 => v = .string (nS 4 q ++ textS xkey ++ fS had ++ textS xb)
  | 19 => v = .pointer (some ⟨g, 4, none⟩)
  | 20 => v = .bool has
  | 21 => v = .string (fS has)
  | 22 => v = .string (nS 4 q ++ textS xkey ++ fS had ++ textS xb ++ fS has)
  | 23 => v = .pointer (some ⟨g, 5, none⟩)
  | 24 => v = .string xa
  | 25 => v = .string (textS xa)
  | 26 => v = .string (nS 4 q ++ textS xkey ++ fS had ++ textS xb ++ fS has ++ textS xa)
  | 2 => v = .string (nS 4 q ++ textS xkey ++ fS had ++ textS xb ++ fS has ++ textS xa)
  | _ => True
theorem DCV.on {xkey xb xa : ByteArray} {had has : Bool} {q g : Nat} {t : Nat} {v : Value} {w w' : World} (h : DCV xkey xb xa had has q g t v w) (hb : Below w.heap.size w w') : DCV xkey xb xa had has q g t v w' := by
  unfold DCV at *
  split at h <;> first | exact h | exact h

set_option maxRecDepth 100000 in
set_option maxHeartbeats 2000000 in
theorem dchbytes_any (xkey xb xa : ByteArray) (had has : Bool) (q : Nat) (w : World) (hq : q < 4294967296) (hk : xkey.size ≤ 32) (hxb : xb.size ≤ 32) (hxa : xa.size ≤ 32) :
    Calls Try.prog 34 #[.agg #[.int .i64 (q : Int), .string xkey, .bool had, .string xb, .bool has, .string xa]] w fun e w' => e = .returned (.string (nS 4 q ++ textS xkey ++ fS had ++ textS xb ++ fS has ++ textS xa)) ∧ Below w.heap.size w w' := by
  have HQ := Lib.hid hq
  have HK := Lib.hid hk
  have HXB := Lib.hid hxb
  have HXA := Lib.hid hxa
  have s1 := textS_small hk (by omega)
  have s2 := textS_small hxb (by omega)
  have s3 := textS_small hxa (by omega)
  have HZ1 := Lib.hid (show ¬ 9223372036854775807 < (nS 4 q).size + (textS xkey).size from by simp only [ByteArray.size_append, nS_size, fS_size, s1, s2, s3]; omega)
  have HZ2 := Lib.hid (show ¬ 9223372036854775807 < (nS 4 q ++ textS xkey).size + (fS had).size from by simp only [ByteArray.size_append, nS_size, fS_size, s1, s2, s3]; omega)
  have HZ3 := Lib.hid (show ¬ 9223372036854775807 < (nS 4 q ++ textS xkey ++ fS had).size + (textS xb).size from by simp only [ByteArray.size_append, nS_size, fS_size, s1, s2, s3]; omega)
  have HZ4 := Lib.hid (show ¬ 9223372036854775807 < (nS 4 q ++ textS xkey ++ fS had ++ textS xb).size + (fS has).size from by simp only [ByteArray.size_append, nS_size, fS_size, s1, s2, s3]; omega)
  have HZ5 := Lib.hid (show ¬ 9223372036854775807 < (nS 4 q ++ textS xkey ++ fS had ++ textS xb ++ fS has).size + (textS xa).size from by simp only [ByteArray.size_append, nS_size, fS_size, s1, s2, s3]; omega)
  clear hq hk hxb hxa s1 s2 s3
  obtain ⟨w1, hw1⟩ : ∃ w1, w1 = w.alloc (.cells #[.int .i64 (q : Int), .string xkey, .bool had, .string xb, .bool has, .string xa] 42) := ⟨_, rfl⟩
  obtain ⟨g, hg⟩ : ∃ g, g = w.heap.size := ⟨_, rfl⟩
  have hbx : Box w1 g 42 #[.int .i64 (q : Int), .string xkey, .bool had, .string xb, .bool has, .string xa] := by rw [hw1]; exact Box.at_ w _ _ hg
  have HB1 := Lib.hid (show Below w.heap.size w w1 from by rw [hw1]; exact (Below.refl _ _).alloc (Nat.le_refl _) _)
  have HC := Lib.hid (show ∀ wx, Below w1.heap.size w1 wx → wx.cell? ⟨g, 0, none⟩ = some (.int .i64 (q : Int)) ∧ wx.cell? ⟨g, 1, none⟩ = some (.string xkey) ∧ wx.cell? ⟨g, 2, none⟩ = some (.bool had) ∧ wx.cell? ⟨g, 3, none⟩ = some (.string xb) ∧ wx.cell? ⟨g, 4, none⟩ = some (.bool has) ∧ wx.cell? ⟨g, 5, none⟩ = some (.string xa) from fun wx hx => by
    have hb := hbx.on hx
    exact ⟨hb.cell 0 rfl, hb.cell 1 rfl, hb.cell 2 rfl, hb.cell 3 rfl, hb.cell 4 rfl, hb.cell 5 rfl⟩)
  clear hbx
  go_enter Try.func34, Try.ntmps34
  go_upto_region 1 with fail
  rw [← hg, ← hw1]
  clear hg hw1
  refine wp_region_inv [3, 4, 5, 6, 7, 8, 9, 10, 11, 12, 13, 14, 15, 16, 17, 18, 19, 20, 21, 22, 23, 24, 25, 26, 2] (by kernel_rfl) (by kernel_rfl) (fun w' => Below w1.heap.size w1 w') (fun wa wb => Below wa.heap.size wa wb) (DCV xkey xb xa had has q g) (by kernel_rfl) (fun wa wb h1 h2 => h2.trans (h1.mono h2.size)) (fun t v wa wb h1 h2 => h2.on h1) (Below.refl _ _).drew (steps_of ?_) ?_
  · skip
    refine Steps1.cons (fun ax wx hS hG => ?_) (Steps1.cons (fun ax wx hS hG => ?_) (Steps1.cons (fun ax wx hS hG => ?_) (Steps1.cons (fun ax wx hS hG => ?_) (Steps1.cons (fun ax wx hS hG => ?_) (Steps1.cons (fun ax wx hS hG => ?_) (Steps1.cons (fun ax wx hS hG => ?_) (Steps1.cons (fun ax wx hS hG => ?_) (Steps1.cons (fun ax wx hS hG => ?_) (Steps1.cons (fun ax wx hS hG => ?_) (Steps1.cons (fun ax wx hS hG => ?_) (Steps1.cons (fun ax wx hS hG => ?_) (Steps1.cons (fun ax wx hS hG => ?_) (Steps1.cons (fun ax wx hS hG => ?_) (Steps1.cons (fun ax wx hS hG => ?_) (Steps1.cons (fun ax wx hS hG => ?_) (Steps1.cons (fun ax wx hS hG => ?_) (Steps1.cons (fun ax wx hS hG => ?_) (Steps1.cons (fun ax wx hS hG => ?_) (Steps1.cons (fun ax wx hS hG => ?_) (Steps1.cons (fun ax wx hS hG => ?_) (Steps1.cons (fun ax wx hS hG => ?_) (Steps1.cons (fun ax wx hS hG => ?_) (Steps1.cons (fun ax wx hS hG => ?_) (Steps1.cons (fun ax wx hS hG => ?_) Steps1.nil))))))))))))))))))))))))
    · have q1 := hG.old 1 (by kernel_rfl) (by kernel_rfl)
      refine step_value (v := .pointer (some ⟨g, 0, none⟩)) (w' := wx) rfl rfl ?_ (Below.refl _ _) (fun d hd => by cases hd; exact rfl)
      go_simp
    · obtain ⟨_, q3, rfl⟩ := hG.new 3 (by kernel_rfl) (by kernel_rfl)
      obtain ⟨z0, z1, z2, z3, z4, z5⟩ := HC.out wx hS
      refine step_value (v := .int .i64 (q : Int)) (w' := wx) rfl rfl ?_ (Below.refl _ _) (fun d hd => by cases hd; exact rfl)
      go_simp
    · obtain ⟨_, q4, rfl⟩ := hG.new 4 (by kernel_rfl) (by kernel_rfl)
      refine step_value (v := .int .u64 (q : Int)) (w' := wx) rfl rfl ?_ (Below.refl _ _) (fun d hd => by cases hd; exact rfl)
      have hw := u64_nat q (by have := HQ.out; omega)
      go_simp
    · obtain ⟨_, q5, rfl⟩ := hG.new 5 (by kernel_rfl) (by kernel_rfl)
      refine step_call (w1 := wx) (f := 49) (args := #[.int .u64 (q : Int), .int .i64 4]) rfl rfl ?_ ((dnum_flat q 4 wx (by decide) (by decide) (by have := HQ.out; omega)).mono ?_)
      · skip
        go_simp
      · rintro e w' ⟨rfl, hq⟩
        exact ⟨_, rfl, hq, fun d hd => by cases hd; exact rfl⟩
    · have q1 := hG.old 1 (by kernel_rfl) (by kernel_rfl)
      refine step_value (v := .pointer (some ⟨g, 1, none⟩)) (w' := wx) rfl rfl ?_ (Below.refl _ _) (fun d hd => by cases hd; exact rfl)
      go_simp
    · obtain ⟨_, q7, rfl⟩ := hG.new 7 (by kernel_rfl) (by kernel_rfl)
      obtain ⟨z0, z1, z2, z3, z4, z5⟩ := HC.out wx hS
      refine step_value (v := .string xkey) (w' := wx) rfl rfl ?_ (Below.refl _ _) (fun d hd => by cases hd; exact rfl)
      go_simp
    · obtain ⟨_, q8, rfl⟩ := hG.new 8 (by kernel_rfl) (by kernel_rfl)
      refine step_call (w1 := wx) (f := 53) (args := #[.string xkey]) rfl rfl ?_ ((dtext_flat xkey wx (by have := HK.out; unfold maxLen; omega)).mono ?_)
      · skip
        go_simp
      · rintro e w' ⟨rfl, hq⟩
        exact ⟨_, rfl, hq, fun d hd => by cases hd; exact rfl⟩
    · obtain ⟨_, q6, rfl⟩ := hG.new 6 (by kernel_rfl) (by kernel_rfl)
      obtain ⟨_, q9, rfl⟩ := hG.new 9 (by kernel_rfl) (by kernel_rfl)
      refine step_value (v := .string (nS 4 q ++ textS xkey)) (w' := wx) rfl rfl ?_ (Below.refl _ _) (fun d hd => by cases hd; exact rfl)
      have hz := HZ1.out
      simp only [ByteArray.size_append, Nat.not_lt] at hz
      go_simp
    · have q1 := hG.old 1 (by kernel_rfl) (by kernel_rfl)
      refine step_value (v := .pointer (some ⟨g, 2, none⟩)) (w' := wx) rfl rfl ?_ (Below.refl _ _) (fun d hd => by cases hd; exact rfl)
      go_simp
    · obtain ⟨_, q11, rfl⟩ := hG.new 11 (by kernel_rfl) (by kernel_rfl)
      obtain ⟨z0, z1, z2, z3, z4, z5⟩ := HC.out wx hS
      refine step_value (v := .bool had) (w' := wx) rfl rfl ?_ (Below.refl _ _) (fun d hd => by cases hd; exact rfl)
      go_simp
    · obtain ⟨_, q12, rfl⟩ := hG.new 12 (by kernel_rfl) (by kernel_rfl)
      refine step_call (w1 := wx) (f := 54) (args := #[.bool had]) rfl rfl ?_ ((dflag_any had wx).mono ?_)
      · skip
        go_simp
      · rintro e w' ⟨rfl, hq⟩
        exact ⟨_, rfl, hq, fun d hd => by cases hd; exact rfl⟩
    · obtain ⟨_, q10, rfl⟩ := hG.new 10 (by kernel_rfl) (by kernel_rfl)
      obtain ⟨_, q13, rfl⟩ := hG.new 13 (by kernel_rfl) (by kernel_rfl)
      refine step_value (v := .string (nS 4 q ++ textS xkey ++ fS had)) (w' := wx) rfl rfl ?_ (Below.refl _ _) (fun d hd => by cases hd; exact rfl)
      have hz := HZ2.out
      simp only [ByteArray.size_append, Nat.not_lt] at hz
      go_simp
    · have q1 := hG.old 1 (by kernel_rfl) (by kernel_rfl)
      refine step_value (v := .pointer (some ⟨g, 3, none⟩)) (w' := wx) rfl rfl ?_ (Below.refl _ _) (fun d hd => by cases hd; exact rfl)
      go_simp
    · obtain ⟨_, q15, rfl⟩ := hG.new 15 (by kernel_rfl) (by kernel_rfl)
      obtain ⟨z0, z1, z2, z3, z4, z5⟩ := HC.out wx hS
      refine step_value (v := .string xb) (w' := wx) rfl rfl ?_ (Below.refl _ _) (fun d hd => by cases hd; exact rfl)
      go_simp
    · obtain ⟨_, q16, rfl⟩ := hG.new 16 (by kernel_rfl) (by kernel_rfl)
      refine step_call (w1 := wx) (f := 53) (args := #[.string xb]) rfl rfl ?_ ((dtext_flat xb wx (by have := HXB.out; unfold maxLen; omega)).mono ?_)
      · skip
        go_simp
      · rintro e w' ⟨rfl, hq⟩
        exact ⟨_, rfl, hq, fun d hd => by cases hd; exact rfl⟩
    · obtain ⟨_, q14, rfl⟩ := hG.new 14 (by kernel_rfl) (by kernel_rfl)
      obtain ⟨_, q17, rfl⟩ := hG.new 17 (by kernel_rfl) (by kernel_rfl)
      refine step_value (v := .string (nS 4 q ++ textS xkey ++ fS had ++ textS xb)) (w' := wx) rfl rfl ?_ (Below.refl _ _) (fun d hd => by cases hd; exact rfl)
      have hz := HZ3.out
      simp only [ByteArray.size_append, Nat.not_lt] at hz
      go_simp
    · have q1 := hG.old 1 (by kernel_rfl) (by kernel_rfl)
      refine step_value (v := .pointer (some ⟨g, 4, none⟩)) (w' := wx) rfl rfl ?_ (Below.refl _ _) (fun d hd => by cases hd; exact rfl)
      go_simp
    · obtain ⟨_, q19, rfl⟩ := hG.new 19 (by kernel_rfl) (by kernel_rfl)
      obtain ⟨z0, z1, z2, z3, z4, z5⟩ := HC.out wx hS
      refine step_value (v := .bool has) (w' := wx) rfl rfl ?_ (Below.refl _ _) (fun d hd => by cases hd; exact rfl)
      go_simp
    · obtain ⟨_, q20, rfl⟩ := hG.new 20 (by kernel_rfl) (by kernel_rfl)
      refine step_call (w1 := wx) (f := 54) (args := #[.bool has]) rfl rfl ?_ ((dflag_any has wx).mono ?_)
      · skip
        go_simp
      · rintro e w' ⟨rfl, hq⟩
        exact ⟨_, rfl, hq, fun d hd => by cases hd; exact rfl⟩
    · obtain ⟨_, q18, rfl⟩ := hG.new 18 (by kernel_rfl) (by kernel_rfl)
      obtain ⟨_, q21, rfl⟩ := hG.new 21 (by kernel_rfl) (by kernel_rfl)
      refine step_value (v := .string (nS 4 q ++ textS xkey ++ fS had ++ textS xb ++ fS has)) (w' := wx) rfl rfl ?_ (Below.refl _ _) (fun d hd => by cases hd; exact rfl)
      have hz := HZ4.out
      simp only [ByteArray.size_append, Nat.not_lt] at hz
      go_simp
    · have q1 := hG.old 1 (by kernel_rfl) (by kernel_rfl)
      refine step_value (v := .pointer (some ⟨g, 5, none⟩)) (w' := wx) rfl rfl ?_ (Below.refl _ _) (fun d hd => by cases hd; exact rfl)
      go_simp
    · obtain ⟨_, q23, rfl⟩ := hG.new 23 (by kernel_rfl) (by kernel_rfl)
      obtain ⟨z0, z1, z2, z3, z4, z5⟩ := HC.out wx hS
      refine step_value (v := .string xa) (w' := wx) rfl rfl ?_ (Below.refl _ _) (fun d hd => by cases hd; exact rfl)
      go_simp
    · obtain ⟨_, q24, rfl⟩ := hG.new 24 (by kernel_rfl) (by kernel_rfl)
      refine step_call (w1 := wx) (f := 53) (args := #[.string xa]) rfl rfl ?_ ((dtext_flat xa wx (by have := HXA.out; unfold maxLen; omega)).mono ?_)
      · skip
        go_simp
      · rintro e w' ⟨rfl, hq⟩
        exact ⟨_, rfl, hq, fun d hd => by cases hd; exact rfl⟩
    · obtain ⟨_, q22, rfl⟩ := hG.new 22 (by kernel_rfl) (by kernel_rfl)
      obtain ⟨_, q25, rfl⟩ := hG.new 25 (by kernel_rfl) (by kernel_rfl)
      refine step_value (v := .string (nS 4 q ++ textS xkey ++ fS had ++ textS xb ++ fS has ++ textS xa)) (w' := wx) rfl rfl ?_ (Below.refl _ _) (fun d hd => by cases hd; exact rfl)
      have hz := HZ5.out
      simp only [ByteArray.size_append, Nat.not_lt] at hz
      go_simp
    · obtain ⟨_, q26, rfl⟩ := hG.new 26 (by kernel_rfl) (by kernel_rfl)
      refine step_value (v := .string (nS 4 q ++ textS xkey ++ fS had ++ textS xb ++ fS has ++ textS xa)) (w' := wx) rfl rfl ?_ (Below.refl _ _) (fun d hd => by cases hd; exact rfl)
      go_simp
  intro fv w8 hS8 hV8
  have e2 : fv 2 = .string (nS 4 q ++ textS xkey ++ fS had ++ textS xb ++ fS has ++ textS xa) := hV8 2 (by decide)
  simp only [puts, Act.put, List.setIfInBounds_toArray, List.set_cons_succ, List.set_cons_zero]
  clear hV8
  rw [e2]
  go_wp2
  go_ret
  exact ⟨rfl, HB1.out.trans (hS8.mono HB1.out.size)⟩

end Go.Proofs.Ytfbcmcckgjfdhaa
