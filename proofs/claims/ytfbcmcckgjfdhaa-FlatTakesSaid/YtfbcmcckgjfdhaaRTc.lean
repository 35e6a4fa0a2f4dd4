/- The walk of the document's TakeChange. -/
import Derived.Test.YtfbcmcckgjfdhaaRTr
set_option linter.unusedVariables false
set_option linter.unusedSimpArgs false
namespace Go.Proofs.Ytfbcmcckgjfdhaa
open Go.RowKit Go.Sort

theorem change_told {s ta tb tc r : ByteArray} {a b : UInt8} {had has : Bool} (h : textsT s [4, 1, 1] = some ([ta, tb, tc], r)) (ha : s.data.toList[6 + ta.size]? = some a) (hb : s.data.toList[6 + ta.size + 3 + tb.size]? = some b) (h1 : ((a.toNat : Int) == 1) = had) (h2 : ((b.toNat : Int) == 1) = has) :
    kC.Tells s ⟨(takeN s 4 : Int), ta, had, tb, has, tc⟩ (mayC ⟨(takeN s 4 : Int), ta, had, tb, has, tc⟩ && beginsB s (chB ⟨(takeN s 4 : Int), ta, had, tb, has, tc⟩)) := by
  constructor
  · intro hok
    rw [Bool.and_eq_true] at hok
    exact begins_dec kC hok.1 hok.2
  · intro y q hd
    obtain ⟨_, e1, e2, e3, e4, e5, e6, e7⟩ := change_stands hd
    rw [h] at e1
    injection e1 with e1
    injection e1 with e1 _
    injection e1 with a1 a2
    injection a2 with a2 a3
    injection a3 with a3 _
    have hy : y = ⟨(takeN s 4 : Int), ta, had, tb, has, tc⟩ := by
      obtain ⟨ys, yk, yh, yb, yg, ya⟩ := y
      simp only at a1 a2 a3 e2 e3 e4 e7
      subst a1 a2 a3
      rw [ha] at e3
      rw [hb] at e4
      injection e3 with e3
      injection e4 with e4
      have g1 : yh = had := by rw [← h1, e3]; cases yh <;> rfl
      have g2 : yg = has := by rw [← h2, e4]; cases yg <;> rfl
      rw [g1, g2, e2, ← e7]
    rw [← hy, e5]
    exact ⟨by rw [Bool.true_and]; exact e6, rfl⟩

def TCa (s ta tb tc : ByteArray) (ad : Addr) (c n k m an bn : Nat) (had has : Bool) (B0 : Nat) (p t : Nat) (v : Value) (w : World) : Prop :=
  match t with
  | 40 => v = .int .u64 (n : Int)
  | 41 => v = .int .i64 (n : Int)
  | 42 => v = .slice (some ad) 3 c
  | 43 => v = .pointer (some ad)
  | 44 => v = .string ta
  | 45 => v = .string s
  | 46 => v = .int .i64 (k : Int)
  | 47 => v = .int .u8 (an : Int)
  | 48 => v = .bool had
  | 49 => v = .slice (some ad) 3 c
  | 50 => v = .pointer (some ⟨ad.block, ad.off + 1, none⟩)
  | 51 => v = .string tb
  | 52 => v = .string s
  | 53 => v = .int .i64 (m : Int)
  | 54 => v = .int .u8 (bn : Int)
  | 55 => v = .bool has
  | 56 => v = .slice (some ad) 3 c
  | 57 => v = .pointer (some ⟨ad.block, ad.off + 2, none⟩)
  | 58 => v = .string tc
  | 59 => v = .agg #[.int .i64 (n : Int), .string ta, .bool had, .string tb, .bool has, .string tc]
  | 11 => NewB B0 42 #[.int .i64 0, .string ⟨#[]⟩, .bool false, .string ⟨#[]⟩, .bool false, .string ⟨#[]⟩] #[.int .i64 (n : Int), .string ta, .bool had, .string tb, .bool has, .string tc] p v w
  | _ => True
theorem TCa.on {s ta tb tc : ByteArray} {ad : Addr} {c n k m an bn : Nat} {had has : Bool} {B0 : Nat} {p t : Nat} {v : Value} {w w' : World} (h : TCa s ta tb tc ad c n k m an bn had has B0 p t v w) (hb : Below w.heap.size w w') : TCa s ta tb tc ad c n k m an bn had has B0 p t v w' := by
  unfold TCa at *
  split at h <;> first | exact h | exact NewB.on h hb

def TCb (ta tb tc : ByteArray) (n : Nat) (had has : Bool) (p t : Nat) (v : Value) (w : World) : Prop :=
  match t with
  | 62 => v = .agg #[.int .i64 (n : Int), .string ta, .bool had, .string tb, .bool has, .string tc]
  | 63 => v = .bool false
  | 64 => v = .bool false
  | 65 => v = undef
  | 66 => v = undef
  | 67 => v = undef
  | 68 => v = undef
  | 69 => v = .bool false
  | 3 => v = .bool false
  | _ => True
theorem TCb.on {ta tb tc : ByteArray} {n : Nat} {had has : Bool} {p t : Nat} {v : Value} {w w' : World} (h : TCb ta tb tc n had has p t v w) (hb : Below w.heap.size w w') : TCb ta tb tc n had has p t v w' := by
  unfold TCb at *
  split at h <;> first | exact h | exact NewB.on h hb

def TCc (s ta tb tc enc : ByteArray) (n : Nat) (had has B : Bool) (p t : Nat) (v : Value) (w : World) : Prop :=
  match t with
  | 62 => v = .agg #[.int .i64 (n : Int), .string ta, .bool had, .string tb, .bool has, .string tc]
  | 63 => v = .bool true
  | 64 => v = .bool true
  | 65 => v = .string s
  | 66 => v = .agg #[.int .i64 (n : Int), .string ta, .bool had, .string tb, .bool has, .string tc]
  | 67 => v = .string enc
  | 68 => v = .bool B
  | 69 => v = .bool B
  | 3 => v = .bool B
  | _ => True
theorem TCc.on {s ta tb tc enc : ByteArray} {n : Nat} {had has B : Bool} {p t : Nat} {v : Value} {w w' : World} (h : TCc s ta tb tc enc n had has B p t v w) (hb : Below w.heap.size w w') : TCc s ta tb tc enc n had has B p t v w' := by
  unfold TCc at *
  split at h <;> first | exact h | exact NewB.on h hb

set_option maxRecDepth 100000 in
set_option maxHeartbeats 4000000 in
theorem dtakechange_any (s : ByteArray) (w : World) (hs : s.size ≤ 300) :
    Calls Try.prog 31 #[.string s] w fun e w' => ∃ (x : Ch) (ok : Bool), e = .returned (.tuple #[x.v, .bool ok]) ∧ kC.Tells s x ok ∧ Below w.heap.size w w' := by
  obtain ⟨w1, hw1⟩ : ∃ w1, w1 = w.alloc (.cells #[.int .i64 0, .string ⟨#[]⟩, .bool false, .string ⟨#[]⟩, .bool false, .string ⟨#[]⟩] 42) := ⟨_, rfl⟩
  obtain ⟨q, hq⟩ : ∃ q, q = w.heap.size := ⟨_, rfl⟩
  have hbq : Box w1 q 42 #[.int .i64 0, .string ⟨#[]⟩, .bool false, .string ⟨#[]⟩, .bool false, .string ⟨#[]⟩] := by rw [hw1]; exact Box.at_ w _ _ hq
  have HB1 := Lib.hid (show Below w.heap.size w w1 from by rw [hw1]; exact (Below.refl _ _).alloc (Nat.le_refl _) _)
  have HQ := Lib.hid (show w.heap.size ≤ q from by omega)
  have Q1 := Lib.hid hbq
  have hc := dtexts_three s 4 1 1 w1 3 (by unfold maxLen; omega)
  cases hx : textsT s [4, 1, 1] with
  | none =>
    obtain ⟨e1, e2⟩ := tT_none hx
    rw [e1, e2] at hc
    have HC := Lib.hid hc
    have HT := Lib.hid (show kC.Tells s ⟨0, noB, false, noB, false, noB⟩ false from kC.tells_no _ fun y r h => by obtain ⟨_, e, _⟩ := change_stands h; rw [hx] at e; cases e)
    clear hc e1 e2 hx hbq hs
    go_enter Try.func31, Try.ntmps31
    go_upto_region 1 with fail
    rw [← hq, ← hw1]
    clear hq hw1
    go_wp2_with fail
    refine HC.out.mono ?_
    rintro e w2 ⟨v, rfl, _, hb⟩
    have Q2 := Lib.hid (Q1.out.on hb)
    have HB2 := Lib.hid (HB1.out.trans (hb.mono HB1.out.size))
    clear hb Q1 HB1
    obtain ⟨j0, j1, j2, j3, j4, j5⟩ := (⟨Box.free Q2.out 0, Box.free Q2.out 1, Box.free Q2.out 2, Box.free Q2.out 3, Box.free Q2.out 4, Box.free Q2.out 5⟩ : _ ∧ _ ∧ _ ∧ _ ∧ _ ∧ _)
    obtain ⟨m0, m1, m2, m3, m4, m5⟩ := (⟨Box.cell Q2.out 0 rfl, Box.cell Q2.out 1 rfl, Box.cell Q2.out 2 rfl, Box.cell Q2.out 3 rfl, Box.cell Q2.out 4 rfl, Box.cell Q2.out 5 rfl⟩ : _ ∧ _ ∧ _ ∧ _ ∧ _ ∧ _)
    go_wp2
    obtain ⟨wz, hz⟩ : ∃ wz, wz = ((((((w2.setCell ⟨q, 0, none⟩ (.int .i64 0)).setCell ⟨q, 1, none⟩ (.string ⟨#[]⟩)).setCell ⟨q, 2, none⟩ (.bool false)).setCell ⟨q, 3, none⟩ (.string ⟨#[]⟩)).setCell ⟨q, 4, none⟩ (.bool false)).setCell ⟨q, 5, none⟩ (.string ⟨#[]⟩)) := ⟨_, rfl⟩
    rw [← hz]
    have hqz : Box wz q 42 #[.int .i64 0, .string ⟨#[]⟩, .bool false, .string ⟨#[]⟩, .bool false, .string ⟨#[]⟩] := by rw [hz]; exact (Box.set (Box.set (Box.set (Box.set (Box.set (Box.set Q2.out 0 _) 1 _) 2 _) 3 _) 4 _) 5 _)
    have hbz : Below w.heap.size w wz := by rw [hz]; exact (Below.setCell (Below.setCell (Below.setCell (Below.setCell (Below.setCell (Below.setCell HB2.out (p := ⟨q, 0, none⟩) HQ.out _) (p := ⟨q, 1, none⟩) HQ.out _) (p := ⟨q, 2, none⟩) HQ.out _) (p := ⟨q, 3, none⟩) HQ.out _) (p := ⟨q, 4, none⟩) HQ.out _) (p := ⟨q, 5, none⟩) HQ.out _)
    obtain ⟨p0, p1, p2, p3, p4, p5⟩ := (⟨Box.cell hqz 0 rfl, Box.cell hqz 1 rfl, Box.cell hqz 2 rfl, Box.cell hqz 3 rfl, Box.cell hqz 4 rfl, Box.cell hqz 5 rfl⟩ : _ ∧ _ ∧ _ ∧ _ ∧ _ ∧ _)
    clear hz
    exact bodyPost_ret (v := .tuple #[.agg #[.int .i64 0, .string ⟨#[]⟩, .bool false, .string ⟨#[]⟩, .bool false, .string ⟨#[]⟩], .bool false]) (by simp [results, Try.results31, go_sem, p0, p1, p2, p3, p4, p5]) rfl ⟨⟨0, noB, false, noB, false, noB⟩, false, rfl, HT.out, hbz⟩
  | some p =>
    obtain ⟨ts, r⟩ := p
    obtain ⟨ta, tb, tc, rfl⟩ := textsT_three hx
    obtain ⟨e1, e2⟩ := tT_some hx
    rw [e1, e2] at hc
    have HC := Lib.hid hc
    obtain ⟨hz1, hz2, hz3, hz4⟩ := three_sizes hx
    obtain ⟨k, hk⟩ : ∃ k, 6 + ta.size = k := ⟨_, rfl⟩
    obtain ⟨m, hm⟩ : ∃ m, k + 3 + tb.size = m := ⟨_, rfl⟩
    have hkl : k < s.size := by omega
    have hml : m < s.size := by omega
    have hka := byte_at s k hkl
    have hkb := byte_at s m hml
    obtain ⟨an, han⟩ : ∃ an, (s[k]'hkl).toNat = an := ⟨_, rfl⟩
    obtain ⟨bn, hbn⟩ : ∃ bn, (s[m]'hml).toNat = bn := ⟨_, rfl⟩
    obtain ⟨had, hh1⟩ : ∃ b, ((an : Int) == 1) = b := ⟨_, rfl⟩
    obtain ⟨has, hh2⟩ : ∃ b, ((bn : Int) == 1) = b := ⟨_, rfl⟩
    have htold := change_told (had := had) (has := has) hx (by rw [hk]; exact hka) (by rw [hk, hm]; exact hkb) (by rw [han]; exact hh1) (by rw [hbn]; exact hh2)
    have htake := fun w => dtake_any s 4 w
    have hlt4 : takeN s 4 < 4294967296 := takeN_lt s 4 (by decide)
    generalize takeN s 4 = n at *
    generalize takeR s 4 = rr at *
    generalize takeE s 4 = E at *
    have hke : 6 + (ta.size : Int) = (k : Int) := by omega
    have hme : (k : Int) + 3 + (tb.size : Int) = (m : Int) := by omega
    have hw6 : IntKind.i64.wrap (6 + (ta.size : Int)) = (k : Int) := by rw [IntWalk.i64_in _ (by omega)]; omega
    have hw7 : IntKind.i64.wrap ((k : Int) + 3) = (k : Int) + 3 := IntWalk.i64_in _ (by omega)
    have hw8 : IntKind.i64.wrap ((k : Int) + 3 + (tb.size : Int)) = (m : Int) := by rw [IntWalk.i64_in _ (by omega)]; omega
    have HWN := Lib.hid (i64_nat n (by omega))
    have HN4 := Lib.hid hlt4
    have HTK := Lib.hid htake
    have HAN := Lib.hid han
    have HBN := Lib.hid hbn
    have HKL := Lib.hid hkl
    have HML := Lib.hid hml
    have HKI := Lib.hid (show (k : Int) < (s.size : Int) from by omega)
    have HMI := Lib.hid (show (m : Int) < (s.size : Int) from by omega)
    have HH1 := Lib.hid hh1
    have HH2 := Lib.hid hh2
    have HTOLD := Lib.hid htold
    clear hc e1 e2 hx hbq hz1 hz2 hz3 hz4 hk hm htake hlt4 htold hka hkb han hbn hh1 hh2
    go_enter Try.func31, Try.ntmps31
    go_upto_region 1 with fail
    rw [← hq, ← hw1]
    clear hq hw1
    go_wp2_with fail
    refine HC.out.mono ?_
    rintro e w2 ⟨v, rfl, hv, hb⟩
    have Q2 := Lib.hid (Q1.out.on hb)
    have HB2 := Lib.hid (HB1.out.trans (hb.mono HB1.out.size))
    have TV2 := Lib.hid hv
    clear hb Q1 HB1 hv
    go_wp2_with fail
    refine (HTK.out _).mono ?_
    rintro e w3 ⟨rfl, hb⟩
    have Q3 := Lib.hid (Q2.out.on hb)
    have HB3 := Lib.hid (HB2.out.trans (hb.mono HB2.out.size))
    have TV3 := Lib.hid (TV2.out.on hb)
    clear hb Q2 HB2 TV2
    obtain ⟨ad, c, rfl, hda, d0, d1, d2⟩ := TV3.out.three
    have HF0 := Lib.hid (show ∀ wx, Below w3.heap.size w3 wx → wx.cell? ad = some (.string ta) from fun wx hx => (hx.cell hda).trans d0)
    have HF1 := Lib.hid (show ∀ wx, Below w3.heap.size w3 wx → wx.cell? ⟨ad.block, ad.off + 1, none⟩ = some (.string tb) from fun wx hx => (hx.cell (p := ⟨ad.block, ad.off + 1, none⟩) hda).trans d1)
    have HF2 := Lib.hid (show ∀ wx, Below w3.heap.size w3 wx → wx.cell? ⟨ad.block, ad.off + 2, none⟩ = some (.string tc) from fun wx hx => (hx.cell (p := ⟨ad.block, ad.off + 2, none⟩) hda).trans d2)
    go_upto_region 7 with fail
    clear hda d0 d1 d2 hke hme hw6 hw7 hw8 TV3
    · skip
      refine wp_region_phase 14 [40, 41, 42, 43, 44, 45, 46, 47, 48, 49, 50, 51, 52, 53, 54, 55, 56, 57, 58, 59, 11] (by kernel_rfl) [21] [] (fun _ _ => True) 1 rfl (by kernel_rfl) (fun _ wx => Below w3.heap.size w3 wx) (fun wa wb => Below wa.heap.size wa wb) (TCa s ta tb tc ad c n k m an bn had has w3.heap.size) (by kernel_rfl) (fun _ wa wb h1 h2 => h2.trans (h1.mono h2.size)) (fun _ t v wa wb h1 h2 => h2.on h1) (fun _ _ _ _ _ _ _ => trivial) (Below.refl _ _).drew trivial (phase1 ?_ ?_) ?_
      · refine Steps1.cons (fun _ ax wx hS _ hG => ?_) (Steps1.cons (fun _ ax wx hS _ hG => ?_) (Steps1.cons (fun _ ax wx hS _ hG => ?_) (Steps1.cons (fun _ ax wx hS _ hG => ?_) (Steps1.cons (fun _ ax wx hS _ hG => ?_) (Steps1.cons (fun _ ax wx hS _ hG => ?_) (Steps1.cons (fun _ ax wx hS _ hG => ?_) (Steps1.cons (fun _ ax wx hS _ hG => ?_) (Steps1.cons (fun _ ax wx hS _ hG => ?_) (Steps1.cons (fun _ ax wx hS _ hG => ?_) (Steps1.cons (fun _ ax wx hS _ hG => ?_) (Steps1.cons (fun _ ax wx hS _ hG => ?_) (Steps1.cons (fun _ ax wx hS _ hG => ?_) (Steps1.cons (fun _ ax wx hS _ hG => ?_) (Steps1.cons (fun _ ax wx hS _ hG => ?_) (Steps1.cons (fun _ ax wx hS _ hG => ?_) (Steps1.cons (fun _ ax wx hS _ hG => ?_) (Steps1.cons (fun _ ax wx hS _ hG => ?_) (Steps1.cons (fun _ ax wx hS _ hG => ?_) (Steps1.cons (fun _ ax wx hS _ hG => ?_) (Steps1.cons (fun _ ax wx hS _ hG => ?_) (Steps1.cons (fun _ ax wx hS _ hG => ?_) Steps1.nil)))))))))))))))))))))
        · have q6 := hG.old 6 (by kernel_rfl) (by kernel_rfl)
          refine step_slot rfl rfl rfl (step_value (v := .int .u64 (n : Int)) (w' := wx) rfl rfl ?_ (Below.refl _ _) (fun d hd => by cases hd; exact rfl))
          go_simp
        · obtain ⟨_, q40, rfl⟩ := hG.new 40 (by kernel_rfl) (by kernel_rfl)
          refine step_slot rfl rfl rfl (step_value (v := .int .i64 (n : Int)) (w' := wx) rfl rfl ?_ (Below.refl _ _) (fun d hd => by cases hd; exact rfl))
          have hw := HWN.out
          go_simp
        · have q4 := hG.old 4 (by kernel_rfl) (by kernel_rfl)
          refine step_slot rfl rfl rfl (step_value (v := .slice (some ad) 3 c) (w' := wx) rfl rfl ?_ (Below.refl _ _) (fun d hd => by cases hd; exact rfl))
          go_simp
        · obtain ⟨_, q42, rfl⟩ := hG.new 42 (by kernel_rfl) (by kernel_rfl)
          refine step_slot rfl rfl rfl (step_value (v := .pointer (some ad)) (w' := wx) rfl rfl ?_ (Below.refl _ _) (fun d hd => by cases hd; exact rfl))
          go_simp
        · obtain ⟨_, q43, rfl⟩ := hG.new 43 (by kernel_rfl) (by kernel_rfl)
          have z0 := HF0.out wx hS
          refine step_slot rfl rfl rfl (step_value (v := .string ta) (w' := wx) rfl rfl ?_ (Below.refl _ _) (fun d hd => by cases hd; exact rfl))
          go_simp
        · have q0 := hG.old 0 (by kernel_rfl) (by kernel_rfl)
          refine step_slot rfl rfl rfl (step_value (v := .string s) (w' := wx) rfl rfl ?_ (Below.refl _ _) (fun d hd => by cases hd; exact rfl))
          go_simp
        · have q9 := hG.old 9 (by kernel_rfl) (by kernel_rfl)
          refine step_slot rfl rfl rfl (step_value (v := .int .i64 (k : Int)) (w' := wx) rfl rfl ?_ (Below.refl _ _) (fun d hd => by cases hd; exact rfl))
          go_simp
        · obtain ⟨_, q45, rfl⟩ := hG.new 45 (by kernel_rfl) (by kernel_rfl)
          obtain ⟨_, q46, rfl⟩ := hG.new 46 (by kernel_rfl) (by kernel_rfl)
          refine step_slot rfl rfl rfl (step_value (v := .int .u8 (an : Int)) (w' := wx) rfl rfl ?_ (Below.refl _ _) (fun d hd => by cases hd; exact rfl))
          have hkl := HKL.out
          have hki := HKI.out
          have hbn := HAN.out
          go_simp
        · obtain ⟨_, q47, rfl⟩ := hG.new 47 (by kernel_rfl) (by kernel_rfl)
          refine step_slot rfl rfl rfl (step_value (v := .bool had) (w' := wx) rfl rfl ?_ (Below.refl _ _) (fun d hd => by cases hd; exact rfl))
          have hx := HH1.out
          go_simp
        · have q4 := hG.old 4 (by kernel_rfl) (by kernel_rfl)
          refine step_slot rfl rfl rfl (step_value (v := .slice (some ad) 3 c) (w' := wx) rfl rfl ?_ (Below.refl _ _) (fun d hd => by cases hd; exact rfl))
          go_simp
        · obtain ⟨_, q49, rfl⟩ := hG.new 49 (by kernel_rfl) (by kernel_rfl)
          refine step_slot rfl rfl rfl (step_value (v := .pointer (some ⟨ad.block, ad.off + 1, none⟩)) (w' := wx) rfl rfl ?_ (Below.refl _ _) (fun d hd => by cases hd; exact rfl))
          go_simp
        · obtain ⟨_, q50, rfl⟩ := hG.new 50 (by kernel_rfl) (by kernel_rfl)
          have z0 := HF1.out wx hS
          refine step_slot rfl rfl rfl (step_value (v := .string tb) (w' := wx) rfl rfl ?_ (Below.refl _ _) (fun d hd => by cases hd; exact rfl))
          go_simp
        · have q0 := hG.old 0 (by kernel_rfl) (by kernel_rfl)
          refine step_slot rfl rfl rfl (step_value (v := .string s) (w' := wx) rfl rfl ?_ (Below.refl _ _) (fun d hd => by cases hd; exact rfl))
          go_simp
        · have q10 := hG.old 10 (by kernel_rfl) (by kernel_rfl)
          refine step_slot rfl rfl rfl (step_value (v := .int .i64 (m : Int)) (w' := wx) rfl rfl ?_ (Below.refl _ _) (fun d hd => by cases hd; exact rfl))
          go_simp
        · obtain ⟨_, q52, rfl⟩ := hG.new 52 (by kernel_rfl) (by kernel_rfl)
          obtain ⟨_, q53, rfl⟩ := hG.new 53 (by kernel_rfl) (by kernel_rfl)
          refine step_slot rfl rfl rfl (step_value (v := .int .u8 (bn : Int)) (w' := wx) rfl rfl ?_ (Below.refl _ _) (fun d hd => by cases hd; exact rfl))
          have hkl := HML.out
          have hki := HMI.out
          have hbn := HBN.out
          go_simp
        · obtain ⟨_, q54, rfl⟩ := hG.new 54 (by kernel_rfl) (by kernel_rfl)
          refine step_slot rfl rfl rfl (step_value (v := .bool has) (w' := wx) rfl rfl ?_ (Below.refl _ _) (fun d hd => by cases hd; exact rfl))
          have hx := HH2.out
          go_simp
        · have q4 := hG.old 4 (by kernel_rfl) (by kernel_rfl)
          refine step_slot rfl rfl rfl (step_value (v := .slice (some ad) 3 c) (w' := wx) rfl rfl ?_ (Below.refl _ _) (fun d hd => by cases hd; exact rfl))
          go_simp
        · obtain ⟨_, q56, rfl⟩ := hG.new 56 (by kernel_rfl) (by kernel_rfl)
          refine step_slot rfl rfl rfl (step_value (v := .pointer (some ⟨ad.block, ad.off + 2, none⟩)) (w' := wx) rfl rfl ?_ (Below.refl _ _) (fun d hd => by cases hd; exact rfl))
          go_simp
        · obtain ⟨_, q57, rfl⟩ := hG.new 57 (by kernel_rfl) (by kernel_rfl)
          have z0 := HF2.out wx hS
          refine step_slot rfl rfl rfl (step_value (v := .string tc) (w' := wx) rfl rfl ?_ (Below.refl _ _) (fun d hd => by cases hd; exact rfl))
          go_simp
        · obtain ⟨_, q41, rfl⟩ := hG.new 41 (by kernel_rfl) (by kernel_rfl)
          obtain ⟨_, q44, rfl⟩ := hG.new 44 (by kernel_rfl) (by kernel_rfl)
          obtain ⟨_, q48, rfl⟩ := hG.new 48 (by kernel_rfl) (by kernel_rfl)
          obtain ⟨_, q51, rfl⟩ := hG.new 51 (by kernel_rfl) (by kernel_rfl)
          obtain ⟨_, q55, rfl⟩ := hG.new 55 (by kernel_rfl) (by kernel_rfl)
          obtain ⟨_, q58, rfl⟩ := hG.new 58 (by kernel_rfl) (by kernel_rfl)
          refine step_slot rfl rfl rfl (step_value (v := .agg #[.int .i64 (n : Int), .string ta, .bool had, .string tb, .bool has, .string tc]) (w' := wx) rfl rfl ?_ (Below.refl _ _) (fun d hd => by cases hd; exact rfl))
          go_simp
        · refine step_slot rfl rfl rfl (step_value (v := .pointer (some ⟨wx.heap.size, 0, none⟩)) (w' := wx.alloc (.cells #[.int .i64 0, .string ⟨#[]⟩, .bool false, .string ⟨#[]⟩, .bool false, .string ⟨#[]⟩] 42)) rfl rfl ?_ ((Below.refl _ _).alloc (Nat.le_refl _) _) (fun d hd => by cases hd; exact ⟨_, rfl, hS.size, fun _ => Box.fresh _ _ _, fun h => absurd h (by decide)⟩))
          go_simp
        · obtain ⟨v11, q11, h11⟩ := hG.new 11 (by kernel_rfl) (by kernel_rfl)
          have p11 : NewB _ _ _ _ _ v11 wx := h11
          obtain ⟨g11, rfl, b11, z11, y11⟩ := p11
          obtain ⟨_, q59, rfl⟩ := hG.new 59 (by kernel_rfl) (by kernel_rfl)
          have hbq := z11 rfl
          have f0 := Box.free hbq 0
          have m0 := Box.cell hbq 0 rfl
          have f1 := Box.free hbq 1
          have m1 := Box.cell hbq 1 rfl
          have f2 := Box.free hbq 2
          have m2 := Box.cell hbq 2 rfl
          have f3 := Box.free hbq 3
          have m3 := Box.cell hbq 3 rfl
          have f4 := Box.free hbq 4
          have m4 := Box.cell hbq 4 rfl
          have f5 := Box.free hbq 5
          have m5 := Box.cell hbq 5 rfl
          have hbz := (Box.set (Box.set (Box.set (Box.set (Box.set (Box.set hbq 0 (.int .i64 (n : Int))) 1 (.string ta)) 2 (.bool had)) 3 (.string tb)) 4 (.bool has)) 5 (.string tc))
          refine step_store (w' := ((((((wx.setCell ⟨g11, 0, none⟩ (.int .i64 (n : Int))).setCell ⟨g11, 1, none⟩ (.string ta)).setCell ⟨g11, 2, none⟩ (.bool had)).setCell ⟨g11, 3, none⟩ (.string tb)).setCell ⟨g11, 4, none⟩ (.bool has)).setCell ⟨g11, 5, none⟩ (.string tc))) rfl rfl rfl rfl ?_ ((Below.setCell (Below.setCell (Below.setCell (Below.setCell (Below.setCell (Below.setCell hS (p := ⟨g11, 0, none⟩) b11 (.int .i64 (n : Int))) (p := ⟨g11, 1, none⟩) b11 (.string ta)) (p := ⟨g11, 2, none⟩) b11 (.bool had)) (p := ⟨g11, 3, none⟩) b11 (.string tb)) (p := ⟨g11, 4, none⟩) b11 (.bool has)) (p := ⟨g11, 5, none⟩) b11 (.string tc))) trivial ?_
          · clear hbq hS hbz h11
            go_simp
          · intro t u _ hu hV
            by_cases ht : t = 11
            · subst ht
              rw [q11] at hu
              injection hu with hu
              subst hu
              exact ⟨g11, rfl, b11, fun h => absurd h (by decide), fun _ => hbz⟩
            · unfold TCa at *
              split at hV <;> first | exact hV | exact absurd rfl ht
      · refine Steps1.cons (fun hin _ _ _ _ _ => out (by kernel_rfl) hin) (Steps1.cons (fun hin _ _ _ _ _ => out (by kernel_rfl) hin) (Steps1.cons (fun hin _ _ _ _ _ => out (by kernel_rfl) hin) (Steps1.cons (fun hin _ _ _ _ _ => out (by kernel_rfl) hin) (Steps1.cons (fun hin _ _ _ _ _ => out (by kernel_rfl) hin) (Steps1.cons (fun hin _ _ _ _ _ => out (by kernel_rfl) hin) (Steps1.cons (fun hin _ _ _ _ _ => out (by kernel_rfl) hin) (Steps1.cons (fun hin _ _ _ _ _ => out (by kernel_rfl) hin) (Steps1.cons (fun hin _ _ _ _ _ => out (by kernel_rfl) hin) (Steps1.cons (fun hin _ _ _ _ _ => out (by kernel_rfl) hin) (Steps1.cons (fun hin _ _ _ _ _ => out (by kernel_rfl) hin) (Steps1.cons (fun hin _ _ _ _ _ => out (by kernel_rfl) hin) (Steps1.cons (fun hin _ _ _ _ _ => out (by kernel_rfl) hin) (Steps1.cons (fun hin _ _ _ _ _ => out (by kernel_rfl) hin) (Steps1.cons (fun hin _ _ _ _ _ => out (by kernel_rfl) hin) (Steps1.cons (fun hin _ _ _ _ _ => out (by kernel_rfl) hin) (Steps1.cons (fun hin _ _ _ _ _ => out (by kernel_rfl) hin) (Steps1.cons (fun hin _ _ _ _ _ => out (by kernel_rfl) hin) (Steps1.cons (fun hin _ _ _ _ _ => out (by kernel_rfl) hin) (Steps1.cons (fun hin _ _ _ _ _ => out (by kernel_rfl) hin) (Steps1.cons (fun hin _ _ _ _ _ => out (by kernel_rfl) hin) (Steps1.cons (fun hin _ _ _ _ _ => out (by kernel_rfl) hin) Steps1.nil)))))))))))))))))))))
      intro fv w8 hS8 _ hV8
      have e11 : NewB _ 42 #[.int .i64 0, .string ⟨#[]⟩, .bool false, .string ⟨#[]⟩, .bool false, .string ⟨#[]⟩] #[.int .i64 (n : Int), .string ta, .bool had, .string tb, .bool has, .string tc] 1 (fv 11) w8 := hV8 11 (by decide)
      simp only [puts, Act.put, List.setIfInBounds_toArray, List.set_cons_succ, List.set_cons_zero]
      clear hV8
      obtain ⟨g, hg6, hge, _, hgb⟩ := e11
      rw [hg6]
      clear hg6
      have X8 := Lib.hid (hgb rfl)
      have Q8 := Lib.hid (Q3.out.on hS8)
      have HB8 := Lib.hid (HB3.out.trans (hS8.mono HB3.out.size))
      have HNE := Lib.hid (show g ≠ q from by have := Q3.out.lt; omega)
      clear hge hgb hS8 Q3 HB3 HF0 HF1 HF2
      obtain ⟨k0, k1, k2, k3, k4, k5⟩ := (⟨Box.cell X8.out 0 rfl, Box.cell X8.out 1 rfl, Box.cell X8.out 2 rfl, Box.cell X8.out 3 rfl, Box.cell X8.out 4 rfl, Box.cell X8.out 5 rfl⟩ : _ ∧ _ ∧ _ ∧ _ ∧ _ ∧ _)
      go_wp2_with fail
      refine (dmay_any (n : Int) ta had tb has tc _).mono ?_
      rintro e w9 ⟨rfl, hb⟩
      have X9 := Lib.hid (X8.out.on hb)
      have Q9 := Lib.hid (Q8.out.on hb)
      have HB9 := Lib.hid (HB8.out.trans (hb.mono HB8.out.size))
      clear hb k0 k1 k2 k3 k4 k5 X8 Q8 HB8
      have HX := Lib.hid (show ∀ wx, Ex q w9 wx → wx.cell? ⟨g, 0, none⟩ = some (.int .i64 (n : Int)) ∧ wx.cell? ⟨g, 1, none⟩ = some (.string ta) ∧ wx.cell? ⟨g, 2, none⟩ = some (.bool had) ∧ wx.cell? ⟨g, 3, none⟩ = some (.string tb) ∧ wx.cell? ⟨g, 4, none⟩ = some (.bool has) ∧ wx.cell? ⟨g, 5, none⟩ = some (.string tc) from fun wx hx => by
        have hb := hx.box X9.out HNE.out
        exact ⟨hb.cell 0 rfl, hb.cell 1 rfl, hb.cell 2 rfl, hb.cell 3 rfl, hb.cell 4 rfl, hb.cell 5 rfl⟩)
      cases hf : mayC ⟨(n : Int), ta, had, tb, has, tc⟩ with
      | false =>
        have ht := HTOLD.out
        rw [hf, Bool.false_and] at ht
        have HT := Lib.hid ht
        clear ht hf
        go_upto_region 9 with fail
        refine wp_region_phase 14 [62, 63, 64, 65, 66, 67, 68, 69, 3] (by kernel_rfl) [8] [] (fun _ _ => True) 1 rfl (by kernel_rfl) (ResS w9 q 42 #[.int .i64 (n : Int), .string ta, .bool had, .string tb, .bool has, .string tc]) (fun wa wb => Below wa.heap.size wa wb) (TCb ta tb tc n had has) (by kernel_rfl) (fun _ wa wb h1 h2 => h2.on h1) (fun _ t v wa wb h1 h2 => h2.on h1) (fun _ _ _ _ _ _ _ => trivial) (ResS.start _ _ _ _) trivial (phase1 ?_ ?_) ?_
        · refine Steps1.cons (fun _ ax wx hS _ hG => ?_) (Steps1.cons (fun _ ax wx hS _ hG => ?_) (Steps1.cons (fun _ ax wx hS _ hG => ?_) (Steps1.cons (fun _ ax wx hS _ hG => ?_) (Steps1.cons (fun _ ax wx hS _ hG => ?_) (Steps1.cons (fun _ ax wx hS _ hG => ?_) (Steps1.cons (fun _ ax wx hS _ hG => ?_) (Steps1.cons (fun _ ax wx hS _ hG => ?_) (Steps1.cons (fun _ ax wx hS _ hG => ?_) (Steps1.cons (fun _ ax wx hS _ hG => ?_) Steps1.nil)))))))))
          · have q11 := hG.old 11 (by kernel_rfl) (by kernel_rfl)
            obtain ⟨z0, z1, z2, z3, z4, z5⟩ := HX.out wx hS.ex
            refine step_slot rfl rfl rfl (step_value (v := .agg #[.int .i64 (n : Int), .string ta, .bool had, .string tb, .bool has, .string tc]) (w' := wx) rfl rfl ?_ (Below.refl _ _) (fun d hd => by cases hd; exact rfl))
            go_simp
          · have q12 := hG.old 12 (by kernel_rfl) (by kernel_rfl)
            refine step_slot rfl rfl rfl (step_value (v := .bool false) (w' := wx) rfl rfl ?_ (Below.refl _ _) (fun d hd => by cases hd; exact rfl))
            go_simp
          · obtain ⟨_, q63, rfl⟩ := hG.new 63 (by kernel_rfl) (by kernel_rfl)
            refine step_slot rfl rfl rfl (step_value (v := .bool false) (w' := wx) rfl rfl ?_ (Below.refl _ _) (fun d hd => by cases hd; exact rfl))
            go_simp
          · obtain ⟨_, q64, rfl⟩ := hG.new 64 (by kernel_rfl) (by kernel_rfl)
            refine step_slot rfl rfl rfl (step_past rfl (by simp [Region.wanted, yielded, q64]) (Below.refl _ _) (fun d hd => by cases hd; exact rfl))
          · obtain ⟨_, q64, rfl⟩ := hG.new 64 (by kernel_rfl) (by kernel_rfl)
            refine step_slot rfl rfl rfl (step_past rfl (by simp [Region.wanted, yielded, q64]) (Below.refl _ _) (fun d hd => by cases hd; exact rfl))
          · obtain ⟨_, q64, rfl⟩ := hG.new 64 (by kernel_rfl) (by kernel_rfl)
            refine step_slot rfl rfl rfl (step_past rfl (by simp [Region.wanted, yielded, q64]) (Below.refl _ _) (fun d hd => by cases hd; exact rfl))
          · obtain ⟨_, q64, rfl⟩ := hG.new 64 (by kernel_rfl) (by kernel_rfl)
            refine step_slot rfl rfl rfl (step_past rfl (by simp [Region.wanted, yielded, q64]) (Below.refl _ _) (fun d hd => by cases hd; exact rfl))
          · obtain ⟨_, q64, rfl⟩ := hG.new 64 (by kernel_rfl) (by kernel_rfl)
            obtain ⟨_, q68, rfl⟩ := hG.new 68 (by kernel_rfl) (by kernel_rfl)
            refine step_slot rfl rfl rfl (step_value (v := .bool false) (w' := wx) rfl rfl ?_ (Below.refl _ _) (fun d hd => by cases hd; exact rfl))
            go_simp
          · have q2 := hG.old 2 (by kernel_rfl) (by kernel_rfl)
            obtain ⟨_, q62, rfl⟩ := hG.new 62 (by kernel_rfl) (by kernel_rfl)
            have hbq := Q9.out.on (hS.fresh rfl)
            have f0 := Box.free hbq 0
            have m0 := Box.cell hbq 0 rfl
            have f1 := Box.free hbq 1
            have m1 := Box.cell hbq 1 rfl
            have f2 := Box.free hbq 2
            have m2 := Box.cell hbq 2 rfl
            have f3 := Box.free hbq 3
            have m3 := Box.cell hbq 3 rfl
            have f4 := Box.free hbq 4
            have m4 := Box.cell hbq 4 rfl
            have f5 := Box.free hbq 5
            have m5 := Box.cell hbq 5 rfl
            skip
            refine step_store (w' := ((((((wx.setCell ⟨q, 0, none⟩ (.int .i64 (n : Int))).setCell ⟨q, 1, none⟩ (.string ta)).setCell ⟨q, 2, none⟩ (.bool had)).setCell ⟨q, 3, none⟩ (.string tb)).setCell ⟨q, 4, none⟩ (.bool has)).setCell ⟨q, 5, none⟩ (.string tc))) rfl rfl rfl rfl ?_ (⟨(Ex.trans (Ex.trans (Ex.trans (Ex.trans (Ex.trans (Ex.trans hS.ex (Ex.set (g := q) (i := 0) _ (.int .i64 (n : Int)))) (Ex.set (g := q) (i := 1) _ (.string ta))) (Ex.set (g := q) (i := 2) _ (.bool had))) (Ex.set (g := q) (i := 3) _ (.string tb))) (Ex.set (g := q) (i := 4) _ (.bool has))) (Ex.set (g := q) (i := 5) _ (.string tc))), fun h => absurd h (by decide), fun _ => (Box.set (Box.set (Box.set (Box.set (Box.set (Box.set hbq 0 (.int .i64 (n : Int))) 1 (.string ta)) 2 (.bool had)) 3 (.string tb)) 4 (.bool has)) 5 (.string tc))⟩) trivial ?_
            · clear hbq hS
              go_simp
            · intro t u _ hu hV
              unfold TCb at *
              split at hV <;> exact hV
          · obtain ⟨_, q69, rfl⟩ := hG.new 69 (by kernel_rfl) (by kernel_rfl)
            refine step_slot rfl rfl rfl (step_value (v := .bool false) (w' := wx) rfl rfl ?_ (Below.refl _ _) (fun d hd => by cases hd; exact rfl))
            go_simp
        · refine Steps1.cons (fun hin _ _ _ _ _ => out (by kernel_rfl) hin) (Steps1.cons (fun _ ax wx hS _ hG => ?_) (Steps1.cons (fun _ ax wx hS _ hG => ?_) (Steps1.cons (fun _ ax wx hS _ hG => ?_) (Steps1.cons (fun _ ax wx hS _ hG => ?_) (Steps1.cons (fun _ ax wx hS _ hG => ?_) (Steps1.cons (fun _ ax wx hS _ hG => ?_) (Steps1.cons (fun _ ax wx hS _ hG => ?_) (Steps1.cons (fun hin _ _ _ _ _ => out (by kernel_rfl) hin) (Steps1.cons (fun _ ax wx hS _ hG => ?_) Steps1.nil)))))))))
          · have q12 := hG.old 12 (by kernel_rfl) (by kernel_rfl)
            refine step_slot rfl rfl rfl (step_value (v := .bool false) (w' := wx) rfl rfl ?_ (Below.refl _ _) (fun d hd => by cases hd; exact rfl))
            go_simp
          · obtain ⟨_, q63, rfl⟩ := hG.new 63 (by kernel_rfl) (by kernel_rfl)
            refine step_slot rfl rfl rfl (step_value (v := .bool false) (w' := wx) rfl rfl ?_ (Below.refl _ _) (fun d hd => by cases hd; exact rfl))
            go_simp
          · obtain ⟨_, q64, rfl⟩ := hG.new 64 (by kernel_rfl) (by kernel_rfl)
            refine step_slot rfl rfl rfl (step_past rfl (by simp [Region.wanted, yielded, q64]) (Below.refl _ _) (fun d hd => by cases hd; exact rfl))
          · obtain ⟨_, q64, rfl⟩ := hG.new 64 (by kernel_rfl) (by kernel_rfl)
            refine step_slot rfl rfl rfl (step_past rfl (by simp [Region.wanted, yielded, q64]) (Below.refl _ _) (fun d hd => by cases hd; exact rfl))
          · obtain ⟨_, q64, rfl⟩ := hG.new 64 (by kernel_rfl) (by kernel_rfl)
            refine step_slot rfl rfl rfl (step_past rfl (by simp [Region.wanted, yielded, q64]) (Below.refl _ _) (fun d hd => by cases hd; exact rfl))
          · obtain ⟨_, q64, rfl⟩ := hG.new 64 (by kernel_rfl) (by kernel_rfl)
            refine step_slot rfl rfl rfl (step_past rfl (by simp [Region.wanted, yielded, q64]) (Below.refl _ _) (fun d hd => by cases hd; exact rfl))
          · obtain ⟨_, q64, rfl⟩ := hG.new 64 (by kernel_rfl) (by kernel_rfl)
            obtain ⟨_, q68, rfl⟩ := hG.new 68 (by kernel_rfl) (by kernel_rfl)
            refine step_slot rfl rfl rfl (step_value (v := .bool false) (w' := wx) rfl rfl ?_ (Below.refl _ _) (fun d hd => by cases hd; exact rfl))
            go_simp
          · obtain ⟨_, q69, rfl⟩ := hG.new 69 (by kernel_rfl) (by kernel_rfl)
            refine step_slot rfl rfl rfl (step_value (v := .bool false) (w' := wx) rfl rfl ?_ (Below.refl _ _) (fun d hd => by cases hd; exact rfl))
            go_simp
        intro fv wa hS8 _ hV8
        have e3 : fv 3 = .bool false := hV8 3 (by decide)
        simp only [puts, Act.put, List.setIfInBounds_toArray, List.set_cons_succ, List.set_cons_zero]
        clear hV8
        rw [e3]
        have hqz := hS8.done rfl
        obtain ⟨p0, p1, p2, p3, p4, p5⟩ := (⟨Box.cell hqz 0 rfl, Box.cell hqz 1 rfl, Box.cell hqz 2 rfl, Box.cell hqz 3 rfl, Box.cell hqz 4 rfl, Box.cell hqz 5 rfl⟩ : _ ∧ _ ∧ _ ∧ _ ∧ _ ∧ _)
        have HBZ := Lib.hid (show Below w.heap.size w wa from Ex.below HB9.out hS8.ex HQ.out HB9.out.size)
        clear hqz hS8
        go_wp2
        exact bodyPost_ret (v := .tuple #[.agg #[.int .i64 (n : Int), .string ta, .bool had, .string tb, .bool has, .string tc], .bool false]) (by simp [results, Try.results31, go_sem, p0, p1, p2, p3, p4, p5]) rfl ⟨⟨(n : Int), ta, had, tb, has, tc⟩, false, rfl, HT.out, HBZ.out⟩
      | true =>
        have ht := HTOLD.out
        rw [hf, Bool.true_and] at ht
        obtain ⟨_, _, hk16, hb32, ha32⟩ := may_of hf
        simp only at hk16 hb32 ha32
        have hnb := fun w => dchbytes_any ta tb tc had has n w (by have := HN4.out; omega) (by omega) (by omega) (by omega)
        obtain ⟨enc, henc⟩ : ∃ enc, enc = (nS 4 n ++ textS ta ++ fS had ++ textS tb ++ fS has ++ textS tc) := ⟨_, rfl⟩
        have he2 : chB ⟨(n : Int), ta, had, tb, has, tc⟩ = enc := by rw [henc]; unfold chB; simp only [Int.toNat_natCast, ba_assoc]
        rw [← henc] at hnb
        rw [he2] at ht
        have hbg := fun w => begins_any s enc w
        obtain ⟨B, hB⟩ : ∃ B, B = beginsB s enc := ⟨_, rfl⟩
        rw [← hB] at ht hbg
        have HT := Lib.hid ht
        have HNB := Lib.hid hnb
        have HBG := Lib.hid hbg
        clear ht hf hk16 hb32 ha32 hnb henc he2 hbg hB
        go_upto_region 9 with fail
        refine wp_region_phase 14 [62, 63, 64, 65, 66, 67, 68, 69, 3] (by kernel_rfl) [8] [] (fun _ _ => True) 1 rfl (by kernel_rfl) (ResS w9 q 42 #[.int .i64 (n : Int), .string ta, .bool had, .string tb, .bool has, .string tc]) (fun wa wb => Below wa.heap.size wa wb) (TCc s ta tb tc enc n had has B) (by kernel_rfl) (fun _ wa wb h1 h2 => h2.on h1) (fun _ t v wa wb h1 h2 => h2.on h1) (fun _ _ _ _ _ _ _ => trivial) (ResS.start _ _ _ _) trivial (phase1 ?_ ?_) ?_
        · refine Steps1.cons (fun _ ax wx hS _ hG => ?_) (Steps1.cons (fun _ ax wx hS _ hG => ?_) (Steps1.cons (fun _ ax wx hS _ hG => ?_) (Steps1.cons (fun _ ax wx hS _ hG => ?_) (Steps1.cons (fun _ ax wx hS _ hG => ?_) (Steps1.cons (fun _ ax wx hS _ hG => ?_) (Steps1.cons (fun _ ax wx hS _ hG => ?_) (Steps1.cons (fun _ ax wx hS _ hG => ?_) (Steps1.cons (fun _ ax wx hS _ hG => ?_) (Steps1.cons (fun _ ax wx hS _ hG => ?_) Steps1.nil)))))))))
          · have q11 := hG.old 11 (by kernel_rfl) (by kernel_rfl)
            obtain ⟨z0, z1, z2, z3, z4, z5⟩ := HX.out wx hS.ex
            refine step_slot rfl rfl rfl (step_value (v := .agg #[.int .i64 (n : Int), .string ta, .bool had, .string tb, .bool has, .string tc]) (w' := wx) rfl rfl ?_ (Below.refl _ _) (fun d hd => by cases hd; exact rfl))
            go_simp
          · have q12 := hG.old 12 (by kernel_rfl) (by kernel_rfl)
            refine step_slot rfl rfl rfl (step_value (v := .bool true) (w' := wx) rfl rfl ?_ (Below.refl _ _) (fun d hd => by cases hd; exact rfl))
            go_simp
          · obtain ⟨_, q63, rfl⟩ := hG.new 63 (by kernel_rfl) (by kernel_rfl)
            refine step_slot rfl rfl rfl (step_value (v := .bool true) (w' := wx) rfl rfl ?_ (Below.refl _ _) (fun d hd => by cases hd; exact rfl))
            go_simp
          · obtain ⟨_, q64, rfl⟩ := hG.new 64 (by kernel_rfl) (by kernel_rfl)
            have q0 := hG.old 0 (by kernel_rfl) (by kernel_rfl)
            refine step_slot rfl rfl rfl (step_value (v := .string s) (w' := wx) rfl (by simp [Region.wanted, yielded, q64]) ?_ (Below.refl _ _) (fun d hd => by cases hd; exact rfl))
            go_simp
          · obtain ⟨_, q64, rfl⟩ := hG.new 64 (by kernel_rfl) (by kernel_rfl)
            have q11 := hG.old 11 (by kernel_rfl) (by kernel_rfl)
            obtain ⟨z0, z1, z2, z3, z4, z5⟩ := HX.out wx hS.ex
            refine step_slot rfl rfl rfl (step_value (v := .agg #[.int .i64 (n : Int), .string ta, .bool had, .string tb, .bool has, .string tc]) (w' := wx) rfl (by simp [Region.wanted, yielded, q64]) ?_ (Below.refl _ _) (fun d hd => by cases hd; exact rfl))
            go_simp
          · obtain ⟨_, q64, rfl⟩ := hG.new 64 (by kernel_rfl) (by kernel_rfl)
            obtain ⟨_, q66, rfl⟩ := hG.new 66 (by kernel_rfl) (by kernel_rfl)
            refine step_slot rfl rfl rfl (step_call (w1 := wx) (f := 34) (args := #[.agg #[.int .i64 (n : Int), .string ta, .bool had, .string tb, .bool has, .string tc]]) rfl (by simp [Region.wanted, yielded, q64]) ?_ ((HNB.out wx).mono ?_))
            · skip
              go_simp
            · rintro e w' ⟨rfl, hq⟩
              exact ⟨_, rfl, hq, fun d hd => by cases hd; exact rfl⟩
          · obtain ⟨_, q64, rfl⟩ := hG.new 64 (by kernel_rfl) (by kernel_rfl)
            obtain ⟨_, q65, rfl⟩ := hG.new 65 (by kernel_rfl) (by kernel_rfl)
            obtain ⟨_, q67, rfl⟩ := hG.new 67 (by kernel_rfl) (by kernel_rfl)
            refine step_slot rfl rfl rfl (step_call (w1 := wx) (f := 65) (args := #[.string s, .string enc]) rfl (by simp [Region.wanted, yielded, q64]) ?_ ((HBG.out wx).mono ?_))
            · skip
              go_simp
            · rintro e w' ⟨rfl, hq⟩
              exact ⟨_, rfl, hq, fun d hd => by cases hd; exact rfl⟩
          · obtain ⟨_, q64, rfl⟩ := hG.new 64 (by kernel_rfl) (by kernel_rfl)
            obtain ⟨_, q68, rfl⟩ := hG.new 68 (by kernel_rfl) (by kernel_rfl)
            refine step_slot rfl rfl rfl (step_value (v := .bool B) (w' := wx) rfl rfl ?_ (Below.refl _ _) (fun d hd => by cases hd; exact rfl))
            go_simp
          · have q2 := hG.old 2 (by kernel_rfl) (by kernel_rfl)
            obtain ⟨_, q62, rfl⟩ := hG.new 62 (by kernel_rfl) (by kernel_rfl)
            have hbq := Q9.out.on (hS.fresh rfl)
            have f0 := Box.free hbq 0
            have m0 := Box.cell hbq 0 rfl
            have f1 := Box.free hbq 1
            have m1 := Box.cell hbq 1 rfl
            have f2 := Box.free hbq 2
            have m2 := Box.cell hbq 2 rfl
            have f3 := Box.free hbq 3
            have m3 := Box.cell hbq 3 rfl
            have f4 := Box.free hbq 4
            have m4 := Box.cell hbq 4 rfl
            have f5 := Box.free hbq 5
            have m5 := Box.cell hbq 5 rfl
            skip
            refine step_store (w' := ((((((wx.setCell ⟨q, 0, none⟩ (.int .i64 (n : Int))).setCell ⟨q, 1, none⟩ (.string ta)).setCell ⟨q, 2, none⟩ (.bool had)).setCell ⟨q, 3, none⟩ (.string tb)).setCell ⟨q, 4, none⟩ (.bool has)).setCell ⟨q, 5, none⟩ (.string tc))) rfl rfl rfl rfl ?_ (⟨(Ex.trans (Ex.trans (Ex.trans (Ex.trans (Ex.trans (Ex.trans hS.ex (Ex.set (g := q) (i := 0) _ (.int .i64 (n : Int)))) (Ex.set (g := q) (i := 1) _ (.string ta))) (Ex.set (g := q) (i := 2) _ (.bool had))) (Ex.set (g := q) (i := 3) _ (.string tb))) (Ex.set (g := q) (i := 4) _ (.bool has))) (Ex.set (g := q) (i := 5) _ (.string tc))), fun h => absurd h (by decide), fun _ => (Box.set (Box.set (Box.set (Box.set (Box.set (Box.set hbq 0 (.int .i64 (n : Int))) 1 (.string ta)) 2 (.bool had)) 3 (.string tb)) 4 (.bool has)) 5 (.string tc))⟩) trivial ?_
            · clear hbq hS
              go_simp
            · intro t u _ hu hV
              unfold TCc at *
              split at hV <;> exact hV
          · obtain ⟨_, q69, rfl⟩ := hG.new 69 (by kernel_rfl) (by kernel_rfl)
            refine step_slot rfl rfl rfl (step_value (v := .bool B) (w' := wx) rfl rfl ?_ (Below.refl _ _) (fun d hd => by cases hd; exact rfl))
            go_simp
        · refine Steps1.cons (fun hin _ _ _ _ _ => out (by kernel_rfl) hin) (Steps1.cons (fun _ ax wx hS _ hG => ?_) (Steps1.cons (fun _ ax wx hS _ hG => ?_) (Steps1.cons (fun _ ax wx hS _ hG => ?_) (Steps1.cons (fun _ ax wx hS _ hG => ?_) (Steps1.cons (fun _ ax wx hS _ hG => ?_) (Steps1.cons (fun _ ax wx hS _ hG => ?_) (Steps1.cons (fun _ ax wx hS _ hG => ?_) (Steps1.cons (fun hin _ _ _ _ _ => out (by kernel_rfl) hin) (Steps1.cons (fun _ ax wx hS _ hG => ?_) Steps1.nil)))))))))
          · have q12 := hG.old 12 (by kernel_rfl) (by kernel_rfl)
            refine step_slot rfl rfl rfl (step_value (v := .bool true) (w' := wx) rfl rfl ?_ (Below.refl _ _) (fun d hd => by cases hd; exact rfl))
            go_simp
          · obtain ⟨_, q63, rfl⟩ := hG.new 63 (by kernel_rfl) (by kernel_rfl)
            refine step_slot rfl rfl rfl (step_value (v := .bool true) (w' := wx) rfl rfl ?_ (Below.refl _ _) (fun d hd => by cases hd; exact rfl))
            go_simp
          · obtain ⟨_, q64, rfl⟩ := hG.new 64 (by kernel_rfl) (by kernel_rfl)
            have q0 := hG.old 0 (by kernel_rfl) (by kernel_rfl)
            refine step_slot rfl rfl rfl (step_value (v := .string s) (w' := wx) rfl (by simp [Region.wanted, yielded, q64]) ?_ (Below.refl _ _) (fun d hd => by cases hd; exact rfl))
            go_simp
          · obtain ⟨_, q64, rfl⟩ := hG.new 64 (by kernel_rfl) (by kernel_rfl)
            have q11 := hG.old 11 (by kernel_rfl) (by kernel_rfl)
            obtain ⟨z0, z1, z2, z3, z4, z5⟩ := HX.out wx hS.ex
            refine step_slot rfl rfl rfl (step_value (v := .agg #[.int .i64 (n : Int), .string ta, .bool had, .string tb, .bool has, .string tc]) (w' := wx) rfl (by simp [Region.wanted, yielded, q64]) ?_ (Below.refl _ _) (fun d hd => by cases hd; exact rfl))
            go_simp
          · obtain ⟨_, q64, rfl⟩ := hG.new 64 (by kernel_rfl) (by kernel_rfl)
            obtain ⟨_, q66, rfl⟩ := hG.new 66 (by kernel_rfl) (by kernel_rfl)
            refine step_slot rfl rfl rfl (step_call (w1 := wx) (f := 34) (args := #[.agg #[.int .i64 (n : Int), .string ta, .bool had, .string tb, .bool has, .string tc]]) rfl (by simp [Region.wanted, yielded, q64]) ?_ ((HNB.out wx).mono ?_))
            · skip
              go_simp
            · rintro e w' ⟨rfl, hq⟩
              exact ⟨_, rfl, hq, fun d hd => by cases hd; exact rfl⟩
          · obtain ⟨_, q64, rfl⟩ := hG.new 64 (by kernel_rfl) (by kernel_rfl)
            obtain ⟨_, q65, rfl⟩ := hG.new 65 (by kernel_rfl) (by kernel_rfl)
            obtain ⟨_, q67, rfl⟩ := hG.new 67 (by kernel_rfl) (by kernel_rfl)
            refine step_slot rfl rfl rfl (step_call (w1 := wx) (f := 65) (args := #[.string s, .string enc]) rfl (by simp [Region.wanted, yielded, q64]) ?_ ((HBG.out wx).mono ?_))
            · skip
              go_simp
            · rintro e w' ⟨rfl, hq⟩
              exact ⟨_, rfl, hq, fun d hd => by cases hd; exact rfl⟩
          · obtain ⟨_, q64, rfl⟩ := hG.new 64 (by kernel_rfl) (by kernel_rfl)
            obtain ⟨_, q68, rfl⟩ := hG.new 68 (by kernel_rfl) (by kernel_rfl)
            refine step_slot rfl rfl rfl (step_value (v := .bool B) (w' := wx) rfl rfl ?_ (Below.refl _ _) (fun d hd => by cases hd; exact rfl))
            go_simp
          · obtain ⟨_, q69, rfl⟩ := hG.new 69 (by kernel_rfl) (by kernel_rfl)
            refine step_slot rfl rfl rfl (step_value (v := .bool B) (w' := wx) rfl rfl ?_ (Below.refl _ _) (fun d hd => by cases hd; exact rfl))
            go_simp
        intro fv wa hS8 _ hV8
        have e3 : fv 3 = .bool B := hV8 3 (by decide)
        simp only [puts, Act.put, List.setIfInBounds_toArray, List.set_cons_succ, List.set_cons_zero]
        clear hV8
        rw [e3]
        have hqz := hS8.done rfl
        obtain ⟨p0, p1, p2, p3, p4, p5⟩ := (⟨Box.cell hqz 0 rfl, Box.cell hqz 1 rfl, Box.cell hqz 2 rfl, Box.cell hqz 3 rfl, Box.cell hqz 4 rfl, Box.cell hqz 5 rfl⟩ : _ ∧ _ ∧ _ ∧ _ ∧ _ ∧ _)
        have HBZ := Lib.hid (show Below w.heap.size w wa from Ex.below HB9.out hS8.ex HQ.out HB9.out.size)
        clear hqz hS8
        go_wp2
        exact bodyPost_ret (v := .tuple #[.agg #[.int .i64 (n : Int), .string ta, .bool had, .string tb, .bool has, .string tc], .bool B]) (by simp [results, Try.results31, go_sem, p0, p1, p2, p3, p4, p5]) rfl ⟨⟨(n : Int), ta, had, tb, has, tc⟩, B, rfl, HT.out, HBZ.out⟩

end Go.Proofs.Ytfbcmcckgjfdhaa
