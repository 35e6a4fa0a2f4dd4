/- The walk of the document's TakeNote. -/
import Derived.Test.YtfbcmcckgjfdhaaRTr
import Derived.Test.YtfbcmcckgjfdhaaRNote
set_option linter.unusedVariables false
set_option linter.unusedSimpArgs false
namespace Go.Proofs.Ytfbcmcckgjfdhaa
open Go.RowKit Go.Sort

theorem note_told {s ta tb r : ByteArray} {b : UInt8} (h : textsT s [1, 0] = some ([ta, tb], r)) (hb : s.data.toList[0]? = some b) :
    kN.Tells s ⟨(b.toNat : Int), ta, tb, UInt64.ofNat (takeN (s.extract (5 + ta.size + tb.size) s.size) 8)⟩
      (rightN ⟨(b.toNat : Int), ta, tb, UInt64.ofNat (takeN (s.extract (5 + ta.size + tb.size) s.size) 8)⟩ && beginsB s (noteB ⟨(b.toNat : Int), ta, tb, UInt64.ofNat (takeN (s.extract (5 + ta.size + tb.size) s.size) 8)⟩)) := by
  constructor
  · intro hok
    rw [Bool.and_eq_true] at hok
    exact begins_dec kN hok.1 hok.2
  · intro y q hd
    obtain ⟨_, e1, _, e3, e4, e5, e6, e7⟩ := note_stands hd
    rw [h] at e1
    injection e1 with e1
    injection e1 with e1 _
    injection e1 with a1 a2
    injection a2 with a2 _
    have hy : y = ⟨(b.toNat : Int), ta, tb, UInt64.ofNat (takeN (s.extract (5 + ta.size + tb.size) s.size) 8)⟩ := by
      obtain ⟨yk, ye, yv, yn⟩ := y
      simp only at a1 a2 e3 e4 e7
      subst a1 a2
      rw [e3, UInt64.ofNat_toNat]
      rw [hb] at e4
      injection e4 with e4
      have h5 : (b.toNat : Int) = yk := by rw [e4, byte_toNat]; exact e7.symm
      rw [h5]
    rw [← hy, e5]
    exact ⟨by rw [Bool.true_and]; exact e6, rfl⟩

def TNz (zz : Nat) (t : Nat) (v : Value) (w : World) : Prop :=
  match t with
  | 17 => v = .bool false
  | 18 => v = .bool true
  | 19 => v = .bool true
  | 20 => v = undef
  | 21 => v = undef
  | 22 => v = undef
  | 23 => v = undef
  | 24 => v = undef
  | 25 => v = undef
  | 26 => v = undef
  | 27 => v = undef
  | 28 => v = undef
  | 29 => v = undef
  | 30 => v = undef
  | 31 => v = undef
  | 32 => v = undef
  | 33 => v = .bool true
  | _ => True
theorem TNz.on {zz : Nat} {t : Nat} {v : Value} {w w' : World} (h : TNz zz t v w) (hb : Below w.heap.size w w') : TNz zz t v w' := by
  unfold TNz at *
  split at h <;> first | exact h | exact h

def TNa (s ta tb : ByteArray) (ad : Addr) (c k : Nat) (sh : Bool) (t : Nat) (v : Value) (w : World) : Prop :=
  match t with
  | 17 => v = .bool true
  | 18 => v = .bool false
  | 19 => v = .bool false
  | 20 => v = .string s
  | 21 => v = .int .i64 (s.size : Int)
  | 22 => v = .slice (some ad) 2 c
  | 23 => v = .pointer (some ad)
  | 24 => v = .string ta
  | 25 => v = .int .i64 (ta.size : Int)
  | 26 => v = .int .i64 (13 + (ta.size : Int))
  | 27 => v = .slice (some ad) 2 c
  | 28 => v = .pointer (some ⟨ad.block, ad.off + 1, none⟩)
  | 29 => v = .string tb
  | 30 => v = .int .i64 (tb.size : Int)
  | 31 => v = .int .i64 (k : Int)
  | 32 => v = .bool sh
  | 33 => v = .bool sh
  | _ => True
theorem TNa.on {s ta tb : ByteArray} {ad : Addr} {c k : Nat} {sh : Bool} {t : Nat} {v : Value} {w w' : World} (h : TNa s ta tb ad c k sh t v w) (hb : Below w.heap.size w w') : TNa s ta tb ad c k sh t v w' := by
  unfold TNa at *
  split at h <;> first | exact h | exact h

def TNb (s ta tb tk rr : ByteArray) (ad : Addr) (c m : Nat) (xn : UInt64) (E : Int) (t : Nat) (v : Value) (w : World) : Prop :=
  match t with
  | 36 => v = .string s
  | 37 => v = .slice (some ad) 2 c
  | 38 => v = .pointer (some ad)
  | 39 => v = .string ta
  | 40 => v = .int .i64 (ta.size : Int)
  | 41 => v = .int .i64 (5 + (ta.size : Int))
  | 42 => v = .slice (some ad) 2 c
  | 43 => v = .pointer (some ⟨ad.block, ad.off + 1, none⟩)
  | 44 => v = .string tb
  | 45 => v = .int .i64 (tb.size : Int)
  | 46 => v = .int .i64 (m : Int)
  | 47 => v = .string tk
  | 48 => v = .tuple #[.int .u64 (xn.toNat : Int), .string rr, .int .i64 E]
  | 35 => v = .tuple #[.int .u64 (xn.toNat : Int), .string rr, .int .i64 E]
  | 49 => v = .int .u64 (xn.toNat : Int)
  | 50 => v = .string rr
  | 51 => v = .int .i64 E
  | 6 => v = .int .u64 (xn.toNat : Int)
  | 7 => v = .string rr
  | 8 => v = .int .i64 E
  | _ => True
theorem TNb.on {s ta tb tk rr : ByteArray} {ad : Addr} {c m : Nat} {xn : UInt64} {E : Int} {t : Nat} {v : Value} {w w' : World} (h : TNb s ta tb tk rr ad c m xn E t v w) (hb : Below w.heap.size w w') : TNb s ta tb tk rr ad c m xn E t v w' := by
  unfold TNb at *
  split at h <;> first | exact h | exact h

def TNc (s ta tb : ByteArray) (ad : Addr) (c bn : Nat) (xn : UInt64) (B0 : Nat) (p t : Nat) (v : Value) (w : World) : Prop :=
  match t with
  | 52 => v = .string s
  | 53 => v = .int .u8 (bn : Int)
  | 54 => v = .int .i64 (bn : Int)
  | 55 => v = .slice (some ad) 2 c
  | 56 => v = .pointer (some ad)
  | 57 => v = .string ta
  | 58 => v = .slice (some ad) 2 c
  | 59 => v = .pointer (some ⟨ad.block, ad.off + 1, none⟩)
  | 60 => v = .string tb
  | 61 => v = .int .u64 (xn.toNat : Int)
  | 62 => v = .agg #[.int .i64 (bn : Int), .string ta, .string tb, .int .u64 (xn.toNat : Int)]
  | 9 => NewB B0 62 #[.int .i64 0, .string ⟨#[]⟩, .string ⟨#[]⟩, .int .u64 0] #[.int .i64 (bn : Int), .string ta, .string tb, .int .u64 (xn.toNat : Int)] p v w
  | _ => True
theorem TNc.on {s ta tb : ByteArray} {ad : Addr} {c bn : Nat} {xn : UInt64} {B0 : Nat} {p t : Nat} {v : Value} {w w' : World} (h : TNc s ta tb ad c bn xn B0 p t v w) (hb : Below w.heap.size w w') : TNc s ta tb ad c bn xn B0 p t v w' := by
  unfold TNc at *
  split at h <;> first | exact h | exact NewB.on h hb

def TNd (ta tb : ByteArray) (bn : Nat) (xn : UInt64) (p t : Nat) (v : Value) (w : World) : Prop :=
  match t with
  | 65 => v = .agg #[.int .i64 (bn : Int), .string ta, .string tb, .int .u64 (xn.toNat : Int)]
  | 66 => v = .bool false
  | 67 => v = .bool false
  | 68 => v = undef
  | 69 => v = undef
  | 70 => v = undef
  | 71 => v = undef
  | 72 => v = .bool false
  | 3 => v = .bool false
  | _ => True
theorem TNd.on {ta tb : ByteArray} {bn : Nat} {xn : UInt64} {p t : Nat} {v : Value} {w w' : World} (h : TNd ta tb bn xn p t v w) (hb : Below w.heap.size w w') : TNd ta tb bn xn p t v w' := by
  unfold TNd at *
  split at h <;> first | exact h | exact NewB.on h hb

def TNe (s ta tb enc : ByteArray) (bn : Nat) (xn : UInt64) (B : Bool) (p t : Nat) (v : Value) (w : World) : Prop :=
  match t with
  | 65 => v = .agg #[.int .i64 (bn : Int), .string ta, .string tb, .int .u64 (xn.toNat : Int)]
  | 66 => v = .bool true
  | 67 => v = .bool true
  | 68 => v = .string s
  | 69 => v = .agg #[.int .i64 (bn : Int), .string ta, .string tb, .int .u64 (xn.toNat : Int)]
  | 70 => v = .string enc
  | 71 => v = .bool B
  | 72 => v = .bool B
  | 3 => v = .bool B
  | _ => True
theorem TNe.on {s ta tb enc : ByteArray} {bn : Nat} {xn : UInt64} {B : Bool} {p t : Nat} {v : Value} {w w' : World} (h : TNe s ta tb enc bn xn B p t v w) (hb : Below w.heap.size w w') : TNe s ta tb enc bn xn B p t v w' := by
  unfold TNe at *
  split at h <;> first | exact h | exact NewB.on h hb

set_option maxRecDepth 100000 in
set_option maxHeartbeats 4000000 in
theorem dtakenote_any (s : ByteArray) (w : World) (hs : s.size ≤ 300) :
    Calls Try.prog 29 #[.string s] w fun e w' => ∃ (x : Nt) (ok : Bool), e = .returned (.tuple #[x.v, .bool ok]) ∧ kN.Tells s x ok ∧ Below w.heap.size w w' := by
  obtain ⟨w1, hw1⟩ : ∃ w1, w1 = w.alloc (.cells #[.int .i64 0, .string ⟨#[]⟩, .string ⟨#[]⟩, .int .u64 0] 62) := ⟨_, rfl⟩
  obtain ⟨q, hq⟩ : ∃ q, q = w.heap.size := ⟨_, rfl⟩
  have hbq : Box w1 q 62 #[.int .i64 0, .string ⟨#[]⟩, .string ⟨#[]⟩, .int .u64 0] := by rw [hw1]; exact Box.at_ w _ _ hq
  have HB1 := Lib.hid (show Below w.heap.size w w1 from by rw [hw1]; exact (Below.refl _ _).alloc (Nat.le_refl _) _)
  have HQ := Lib.hid (show w.heap.size ≤ q from by omega)
  have Q1 := Lib.hid hbq
  have hc := dtexts_two s 1 0 w1 3 (by unfold maxLen; omega)
  cases hx : textsT s [1, 0] with
  | none =>
    obtain ⟨e1, e2⟩ := tT_none hx
    rw [e1, e2] at hc
    have HC := Lib.hid hc
    have HT := Lib.hid (show kN.Tells s ⟨0, noB, noB, 0⟩ false from kN.tells_no _ fun y r h => by obtain ⟨_, e, _⟩ := note_stands h; rw [hx] at e; cases e)
    clear hc e1 e2 hx hbq hs
    go_enter Try.func29, Try.ntmps29
    go_upto_region 1 with fail
    rw [← hq, ← hw1]
    clear hq hw1
    go_wp2_with fail
    refine HC.out.mono ?_
    rintro e w2 ⟨v, rfl, _, hb⟩
    have Q2 := Lib.hid (Q1.out.on hb)
    have HB2 := Lib.hid (HB1.out.trans (hb.mono HB1.out.size))
    clear hb Q1 HB1
    go_upto_region 2 with fail
    refine wp_region_inv [17, 18, 19, 20, 21, 22, 23, 24, 25, 26, 27, 28, 29, 30, 31, 32, 33] (by kernel_rfl) (by kernel_rfl) (fun w' => Below w2.heap.size w2 w') (fun wa wb => Below wa.heap.size wa wb) (TNz 0) (by kernel_rfl) (fun wa wb h1 h2 => h2.trans (h1.mono h2.size)) (fun t v wa wb h1 h2 => h2.on h1) (Below.refl _ _).drew (steps_of ?_) ?_
    · skip
      refine Steps1.cons (fun ax wx hS hG => ?_) (Steps1.cons (fun ax wx hS hG => ?_) (Steps1.cons (fun ax wx hS hG => ?_) (Steps1.cons (fun ax wx hS hG => ?_) (Steps1.cons (fun ax wx hS hG => ?_) (Steps1.cons (fun ax wx hS hG => ?_) (Steps1.cons (fun ax wx hS hG => ?_) (Steps1.cons (fun ax wx hS hG => ?_) (Steps1.cons (fun ax wx hS hG => ?_) (Steps1.cons (fun ax wx hS hG => ?_) (Steps1.cons (fun ax wx hS hG => ?_) (Steps1.cons (fun ax wx hS hG => ?_) (Steps1.cons (fun ax wx hS hG => ?_) (Steps1.cons (fun ax wx hS hG => ?_) (Steps1.cons (fun ax wx hS hG => ?_) (Steps1.cons (fun ax wx hS hG => ?_) (Steps1.cons (fun ax wx hS hG => ?_) Steps1.nil))))))))))))))))
      · have q5 := hG.old 5 (by kernel_rfl) (by kernel_rfl)
        refine step_value (v := .bool false) (w' := wx) rfl rfl ?_ (Below.refl _ _) (fun d hd => by cases hd; exact rfl)
        go_simp
      · obtain ⟨_, q17, rfl⟩ := hG.new 17 (by kernel_rfl) (by kernel_rfl)
        refine step_value (v := .bool true) (w' := wx) rfl rfl ?_ (Below.refl _ _) (fun d hd => by cases hd; exact rfl)
        go_simp
      · obtain ⟨_, q18, rfl⟩ := hG.new 18 (by kernel_rfl) (by kernel_rfl)
        refine step_value (v := .bool true) (w' := wx) rfl rfl ?_ (Below.refl _ _) (fun d hd => by cases hd; exact rfl)
        go_simp
      · obtain ⟨_, q19, rfl⟩ := hG.new 19 (by kernel_rfl) (by kernel_rfl)
        refine step_past rfl (by simp [Region.wanted, yielded, q19]) (Below.refl _ _) (fun d hd => by cases hd; exact rfl)
      · obtain ⟨_, q19, rfl⟩ := hG.new 19 (by kernel_rfl) (by kernel_rfl)
        refine step_past rfl (by simp [Region.wanted, yielded, q19]) (Below.refl _ _) (fun d hd => by cases hd; exact rfl)
      · obtain ⟨_, q19, rfl⟩ := hG.new 19 (by kernel_rfl) (by kernel_rfl)
        refine step_past rfl (by simp [Region.wanted, yielded, q19]) (Below.refl _ _) (fun d hd => by cases hd; exact rfl)
      · obtain ⟨_, q19, rfl⟩ := hG.new 19 (by kernel_rfl) (by kernel_rfl)
        refine step_past rfl (by simp [Region.wanted, yielded, q19]) (Below.refl _ _) (fun d hd => by cases hd; exact rfl)
      · obtain ⟨_, q19, rfl⟩ := hG.new 19 (by kernel_rfl) (by kernel_rfl)
        refine step_past rfl (by simp [Region.wanted, yielded, q19]) (Below.refl _ _) (fun d hd => by cases hd; exact rfl)
      · obtain ⟨_, q19, rfl⟩ := hG.new 19 (by kernel_rfl) (by kernel_rfl)
        refine step_past rfl (by simp [Region.wanted, yielded, q19]) (Below.refl _ _) (fun d hd => by cases hd; exact rfl)
      · obtain ⟨_, q19, rfl⟩ := hG.new 19 (by kernel_rfl) (by kernel_rfl)
        refine step_past rfl (by simp [Region.wanted, yielded, q19]) (Below.refl _ _) (fun d hd => by cases hd; exact rfl)
      · obtain ⟨_, q19, rfl⟩ := hG.new 19 (by kernel_rfl) (by kernel_rfl)
        refine step_past rfl (by simp [Region.wanted, yielded, q19]) (Below.refl _ _) (fun d hd => by cases hd; exact rfl)
      · obtain ⟨_, q19, rfl⟩ := hG.new 19 (by kernel_rfl) (by kernel_rfl)
        refine step_past rfl (by simp [Region.wanted, yielded, q19]) (Below.refl _ _) (fun d hd => by cases hd; exact rfl)
      · obtain ⟨_, q19, rfl⟩ := hG.new 19 (by kernel_rfl) (by kernel_rfl)
        refine step_past rfl (by simp [Region.wanted, yielded, q19]) (Below.refl _ _) (fun d hd => by cases hd; exact rfl)
      · obtain ⟨_, q19, rfl⟩ := hG.new 19 (by kernel_rfl) (by kernel_rfl)
        refine step_past rfl (by simp [Region.wanted, yielded, q19]) (Below.refl _ _) (fun d hd => by cases hd; exact rfl)
      · obtain ⟨_, q19, rfl⟩ := hG.new 19 (by kernel_rfl) (by kernel_rfl)
        refine step_past rfl (by simp [Region.wanted, yielded, q19]) (Below.refl _ _) (fun d hd => by cases hd; exact rfl)
      · obtain ⟨_, q19, rfl⟩ := hG.new 19 (by kernel_rfl) (by kernel_rfl)
        refine step_past rfl (by simp [Region.wanted, yielded, q19]) (Below.refl _ _) (fun d hd => by cases hd; exact rfl)
      · obtain ⟨_, q19, rfl⟩ := hG.new 19 (by kernel_rfl) (by kernel_rfl)
        obtain ⟨_, q32, rfl⟩ := hG.new 32 (by kernel_rfl) (by kernel_rfl)
        refine step_value (v := .bool true) (w' := wx) rfl rfl ?_ (Below.refl _ _) (fun d hd => by cases hd; exact rfl)
        go_simp
    intro fv w5 hS5 hV8
    have e33 : fv 33 = .bool true := hV8 33 (by decide)
    simp only [puts, Act.put, List.setIfInBounds_toArray, List.set_cons_succ, List.set_cons_zero]
    clear hV8
    rw [e33]
    have Q5 := Lib.hid (Q2.out.on hS5)
    have HB5 := Lib.hid (HB2.out.trans (hS5.mono HB2.out.size))
    clear hS5 Q2 HB2
    obtain ⟨j0, j1, j2, j3⟩ := (⟨Box.free Q5.out 0, Box.free Q5.out 1, Box.free Q5.out 2, Box.free Q5.out 3⟩ : _ ∧ _ ∧ _ ∧ _)
    obtain ⟨m0, m1, m2, m3⟩ := (⟨Box.cell Q5.out 0 rfl, Box.cell Q5.out 1 rfl, Box.cell Q5.out 2 rfl, Box.cell Q5.out 3 rfl⟩ : _ ∧ _ ∧ _ ∧ _)
    go_wp2
    obtain ⟨wz, hz⟩ : ∃ wz, wz = ((((w5.setCell ⟨q, 0, none⟩ (.int .i64 0)).setCell ⟨q, 1, none⟩ (.string ⟨#[]⟩)).setCell ⟨q, 2, none⟩ (.string ⟨#[]⟩)).setCell ⟨q, 3, none⟩ (.int .u64 0)) := ⟨_, rfl⟩
    rw [← hz]
    have hqz : Box wz q 62 #[.int .i64 0, .string ⟨#[]⟩, .string ⟨#[]⟩, .int .u64 0] := by rw [hz]; exact (Box.set (Box.set (Box.set (Box.set Q5.out 0 _) 1 _) 2 _) 3 _)
    have hbz : Below w.heap.size w wz := by rw [hz]; exact (Below.setCell (Below.setCell (Below.setCell (Below.setCell HB5.out (p := ⟨q, 0, none⟩) HQ.out _) (p := ⟨q, 1, none⟩) HQ.out _) (p := ⟨q, 2, none⟩) HQ.out _) (p := ⟨q, 3, none⟩) HQ.out _)
    obtain ⟨p0, p1, p2, p3⟩ := (⟨Box.cell hqz 0 rfl, Box.cell hqz 1 rfl, Box.cell hqz 2 rfl, Box.cell hqz 3 rfl⟩ : _ ∧ _ ∧ _ ∧ _)
    clear hz j0 j1 j2 j3 m0 m1 m2 m3
    exact bodyPost_ret (v := .tuple #[.agg #[.int .i64 0, .string ⟨#[]⟩, .string ⟨#[]⟩, .int .u64 0], .bool false]) (by simp [results, Try.results29, go_sem, p0, p1, p2, p3]) rfl ⟨⟨0, noB, noB, 0⟩, false, rfl, HT.out, hbz⟩
  | some p =>
    obtain ⟨ts, r⟩ := p
    obtain ⟨ta, tb, rfl⟩ := textsT_two hx
    obtain ⟨e1, e2⟩ := tT_some hx
    rw [e1, e2] at hc
    have HC := Lib.hid hc
    obtain ⟨hz1, hz2, hz3⟩ := two_sizes hx
    have h0s : 0 < s.size := by omega
    have hkb := byte_at s 0 h0s
    have htold := note_told hx hkb
    obtain ⟨k, hk⟩ : ∃ k, 13 + ta.size + tb.size = k := ⟨_, rfl⟩
    obtain ⟨m, hm⟩ : ∃ m, 5 + ta.size + tb.size = m := ⟨_, rfl⟩
    obtain ⟨sh, hsh⟩ : ∃ sh, decide ((s.size : Int) < (k : Int)) = sh := ⟨_, rfl⟩
    obtain ⟨tk, htk⟩ : ∃ tk, s.extract m s.size = tk := ⟨_, rfl⟩
    obtain ⟨bn, hbn⟩ : ∃ bn, (s[0]'h0s).toNat = bn := ⟨_, rfl⟩
    have hbl : bn < 256 := by rw [← hbn]; exact (s[0]'h0s).toNat_lt
    rw [hm, htk, hbn] at htold
    have htake := fun w => dtake_any tk 8 w
    have hlt8 := takeN_lt tk 8 (by decide)
    obtain ⟨xn, hxn⟩ : ∃ xn, UInt64.ofNat (takeN tk 8) = xn := ⟨_, rfl⟩
    have hxm : (takeN tk 8) = xn.toNat := by rw [← hxn, UInt64.toNat_ofNat_of_lt' (by simpa using hlt8)]
    rw [hxn] at htold
    rw [hxm] at htake
    generalize takeR tk 8 = rr at *
    generalize takeE tk 8 = E at *
    have HW1 := Lib.hid (show IntKind.i64.wrap (13 + (ta.size : Int)) = 13 + (ta.size : Int) from IntWalk.i64_in _ (by omega))
    have HW2 := Lib.hid (show IntKind.i64.wrap (13 + (ta.size : Int) + (tb.size : Int)) = (k : Int) from by rw [IntWalk.i64_in _ (by omega)]; omega)
    have HW3 := Lib.hid (show IntKind.i64.wrap (5 + (ta.size : Int)) = 5 + (ta.size : Int) from IntWalk.i64_in _ (by omega))
    have HW4 := Lib.hid (show IntKind.i64.wrap (5 + (ta.size : Int) + (tb.size : Int)) = (m : Int) from by rw [IntWalk.i64_in _ (by omega)]; omega)
    have HWB := Lib.hid (show IntKind.i64.wrap (bn : Int) = (bn : Int) from IntWalk.i64_in _ (by omega))
    have HSH := Lib.hid hsh
    have HSH2 := Lib.hid (show decide (s.size < k) = sh from by rw [← hsh]; exact decide_eq_decide.2 (by omega))
    have HE1 := Lib.hid htk
    have HE2 := Lib.hid (show (m : Int) ≤ (s.size : Int) from by omega)
    have HE3 := Lib.hid (show m ≤ s.size from by omega)
    have HTK := Lib.hid htake
    have HBN := Lib.hid hbn
    have HKL := Lib.hid h0s
    have HTOLD := Lib.hid htold
    have HXN := Lib.hid hx
    have HKM := Lib.hid (show 13 + ta.size + tb.size = k from hk)
    have HBL := Lib.hid hbl
    clear hc e1 e2 hx hbq hz1 hz2 hz3 hk hm hsh htk htake hlt8 hxn hxm htold hkb hbn hbl
    go_enter Try.func29, Try.ntmps29
    go_upto_region 1 with fail
    rw [← hq, ← hw1]
    clear hq hw1
    go_wp2_with fail
    refine HC.out.mono ?_
    rintro e w2 ⟨v, rfl, hv, hb⟩
    have Q2 := Lib.hid (Q1.out.on hb)
    have HB2 := Lib.hid (HB1.out.trans (hb.mono HB1.out.size))
    clear hb Q1 HB1
    obtain ⟨ad, c, rfl, had, d0, d1⟩ := hv.two
    have HC0 := Lib.hid (show ∀ wx, Below w2.heap.size w2 wx → wx.cell? ad = some (.string ta) from fun wx hx => (hx.cell had).trans d0)
    have HC1 := Lib.hid (show ∀ wx, Below w2.heap.size w2 wx → wx.cell? ⟨ad.block, ad.off + 1, none⟩ = some (.string tb) from fun wx hx => (hx.cell (p := ⟨ad.block, ad.off + 1, none⟩) had).trans d1)
    clear hv had d0 d1
    go_upto_region 2 with fail
    refine wp_region_inv [17, 18, 19, 20, 21, 22, 23, 24, 25, 26, 27, 28, 29, 30, 31, 32, 33] (by kernel_rfl) (by kernel_rfl) (fun w' => Below w2.heap.size w2 w') (fun wa wb => Below wa.heap.size wa wb) (TNa s ta tb ad c k sh) (by kernel_rfl) (fun wa wb h1 h2 => h2.trans (h1.mono h2.size)) (fun t v wa wb h1 h2 => h2.on h1) (Below.refl _ _).drew (steps_of ?_) ?_
    · skip
      refine Steps1.cons (fun ax wx hS hG => ?_) (Steps1.cons (fun ax wx hS hG => ?_) (Steps1.cons (fun ax wx hS hG => ?_) (Steps1.cons (fun ax wx hS hG => ?_) (Steps1.cons (fun ax wx hS hG => ?_) (Steps1.cons (fun ax wx hS hG => ?_) (Steps1.cons (fun ax wx hS hG => ?_) (Steps1.cons (fun ax wx hS hG => ?_) (Steps1.cons (fun ax wx hS hG => ?_) (Steps1.cons (fun ax wx hS hG => ?_) (Steps1.cons (fun ax wx hS hG => ?_) (Steps1.cons (fun ax wx hS hG => ?_) (Steps1.cons (fun ax wx hS hG => ?_) (Steps1.cons (fun ax wx hS hG => ?_) (Steps1.cons (fun ax wx hS hG => ?_) (Steps1.cons (fun ax wx hS hG => ?_) (Steps1.cons (fun ax wx hS hG => ?_) Steps1.nil))))))))))))))))
      · have q5 := hG.old 5 (by kernel_rfl) (by kernel_rfl)
        refine step_value (v := .bool true) (w' := wx) rfl rfl ?_ (Below.refl _ _) (fun d hd => by cases hd; exact rfl)
        go_simp
      · obtain ⟨_, q17, rfl⟩ := hG.new 17 (by kernel_rfl) (by kernel_rfl)
        refine step_value (v := .bool false) (w' := wx) rfl rfl ?_ (Below.refl _ _) (fun d hd => by cases hd; exact rfl)
        go_simp
      · obtain ⟨_, q18, rfl⟩ := hG.new 18 (by kernel_rfl) (by kernel_rfl)
        refine step_value (v := .bool false) (w' := wx) rfl rfl ?_ (Below.refl _ _) (fun d hd => by cases hd; exact rfl)
        go_simp
      · have q0 := hG.old 0 (by kernel_rfl) (by kernel_rfl)
        obtain ⟨_, q19, rfl⟩ := hG.new 19 (by kernel_rfl) (by kernel_rfl)
        refine step_value (v := .string s) (w' := wx) rfl (by simp [Region.wanted, yielded, q19]) ?_ (Below.refl _ _) (fun d hd => by cases hd; exact rfl)
        go_simp
      · obtain ⟨_, q20, rfl⟩ := hG.new 20 (by kernel_rfl) (by kernel_rfl)
        obtain ⟨_, q19, rfl⟩ := hG.new 19 (by kernel_rfl) (by kernel_rfl)
        refine step_value (v := .int .i64 (s.size : Int)) (w' := wx) rfl (by simp [Region.wanted, yielded, q19]) ?_ (Below.refl _ _) (fun d hd => by cases hd; exact rfl)
        go_simp
      · have q4 := hG.old 4 (by kernel_rfl) (by kernel_rfl)
        obtain ⟨_, q19, rfl⟩ := hG.new 19 (by kernel_rfl) (by kernel_rfl)
        refine step_value (v := .slice (some ad) 2 c) (w' := wx) rfl (by simp [Region.wanted, yielded, q19]) ?_ (Below.refl _ _) (fun d hd => by cases hd; exact rfl)
        go_simp
      · obtain ⟨_, q22, rfl⟩ := hG.new 22 (by kernel_rfl) (by kernel_rfl)
        obtain ⟨_, q19, rfl⟩ := hG.new 19 (by kernel_rfl) (by kernel_rfl)
        refine step_value (v := .pointer (some ad)) (w' := wx) rfl (by simp [Region.wanted, yielded, q19]) ?_ (Below.refl _ _) (fun d hd => by cases hd; exact rfl)
        go_simp
      · obtain ⟨_, q23, rfl⟩ := hG.new 23 (by kernel_rfl) (by kernel_rfl)
        obtain ⟨_, q19, rfl⟩ := hG.new 19 (by kernel_rfl) (by kernel_rfl)
        have z0 := HC0.out wx hS
        refine step_value (v := .string ta) (w' := wx) rfl (by simp [Region.wanted, yielded, q19]) ?_ (Below.refl _ _) (fun d hd => by cases hd; exact rfl)
        go_simp
      · obtain ⟨_, q24, rfl⟩ := hG.new 24 (by kernel_rfl) (by kernel_rfl)
        obtain ⟨_, q19, rfl⟩ := hG.new 19 (by kernel_rfl) (by kernel_rfl)
        refine step_value (v := .int .i64 (ta.size : Int)) (w' := wx) rfl (by simp [Region.wanted, yielded, q19]) ?_ (Below.refl _ _) (fun d hd => by cases hd; exact rfl)
        go_simp
      · obtain ⟨_, q25, rfl⟩ := hG.new 25 (by kernel_rfl) (by kernel_rfl)
        obtain ⟨_, q19, rfl⟩ := hG.new 19 (by kernel_rfl) (by kernel_rfl)
        refine step_value (v := .int .i64 (13 + (ta.size : Int))) (w' := wx) rfl (by simp [Region.wanted, yielded, q19]) ?_ (Below.refl _ _) (fun d hd => by cases hd; exact rfl)
        have hw := HW1.out
        go_simp
      · have q4 := hG.old 4 (by kernel_rfl) (by kernel_rfl)
        obtain ⟨_, q19, rfl⟩ := hG.new 19 (by kernel_rfl) (by kernel_rfl)
        refine step_value (v := .slice (some ad) 2 c) (w' := wx) rfl (by simp [Region.wanted, yielded, q19]) ?_ (Below.refl _ _) (fun d hd => by cases hd; exact rfl)
        go_simp
      · obtain ⟨_, q27, rfl⟩ := hG.new 27 (by kernel_rfl) (by kernel_rfl)
        obtain ⟨_, q19, rfl⟩ := hG.new 19 (by kernel_rfl) (by kernel_rfl)
        refine step_value (v := .pointer (some ⟨ad.block, ad.off + 1, none⟩)) (w' := wx) rfl (by simp [Region.wanted, yielded, q19]) ?_ (Below.refl _ _) (fun d hd => by cases hd; exact rfl)
        go_simp
      · obtain ⟨_, q28, rfl⟩ := hG.new 28 (by kernel_rfl) (by kernel_rfl)
        obtain ⟨_, q19, rfl⟩ := hG.new 19 (by kernel_rfl) (by kernel_rfl)
        have z0 := HC1.out wx hS
        refine step_value (v := .string tb) (w' := wx) rfl (by simp [Region.wanted, yielded, q19]) ?_ (Below.refl _ _) (fun d hd => by cases hd; exact rfl)
        go_simp
      · obtain ⟨_, q29, rfl⟩ := hG.new 29 (by kernel_rfl) (by kernel_rfl)
        obtain ⟨_, q19, rfl⟩ := hG.new 19 (by kernel_rfl) (by kernel_rfl)
        refine step_value (v := .int .i64 (tb.size : Int)) (w' := wx) rfl (by simp [Region.wanted, yielded, q19]) ?_ (Below.refl _ _) (fun d hd => by cases hd; exact rfl)
        go_simp
      · obtain ⟨_, q26, rfl⟩ := hG.new 26 (by kernel_rfl) (by kernel_rfl)
        obtain ⟨_, q30, rfl⟩ := hG.new 30 (by kernel_rfl) (by kernel_rfl)
        obtain ⟨_, q19, rfl⟩ := hG.new 19 (by kernel_rfl) (by kernel_rfl)
        refine step_value (v := .int .i64 (k : Int)) (w' := wx) rfl (by simp [Region.wanted, yielded, q19]) ?_ (Below.refl _ _) (fun d hd => by cases hd; exact rfl)
        have hw := HW2.out
        go_simp
      · obtain ⟨_, q21, rfl⟩ := hG.new 21 (by kernel_rfl) (by kernel_rfl)
        obtain ⟨_, q31, rfl⟩ := hG.new 31 (by kernel_rfl) (by kernel_rfl)
        obtain ⟨_, q19, rfl⟩ := hG.new 19 (by kernel_rfl) (by kernel_rfl)
        refine step_value (v := .bool sh) (w' := wx) rfl (by simp [Region.wanted, yielded, q19]) ?_ (Below.refl _ _) (fun d hd => by cases hd; exact rfl)
        have hsh := HSH.out
        have hsh2 := HSH2.out
        go_simp
      · obtain ⟨_, q19, rfl⟩ := hG.new 19 (by kernel_rfl) (by kernel_rfl)
        obtain ⟨_, q32, rfl⟩ := hG.new 32 (by kernel_rfl) (by kernel_rfl)
        refine step_value (v := .bool sh) (w' := wx) rfl rfl ?_ (Below.refl _ _) (fun d hd => by cases hd; exact rfl)
        go_simp
    intro fv w3 hS3 hV8
    have e33 : fv 33 = .bool sh := hV8 33 (by decide)
    simp only [puts, Act.put, List.setIfInBounds_toArray, List.set_cons_succ, List.set_cons_zero]
    clear hV8
    rw [e33]
    have Q3 := Lib.hid (Q2.out.on hS3)
    have HB3 := Lib.hid (HB2.out.trans (hS3.mono HB2.out.size))
    have HD0 := Lib.hid (show ∀ wx, Below w3.heap.size w3 wx → wx.cell? ad = some (.string ta) from fun wx hx => HC0.out wx (hS3.trans (hx.mono hS3.size)))
    have HD1 := Lib.hid (show ∀ wx, Below w3.heap.size w3 wx → wx.cell? ⟨ad.block, ad.off + 1, none⟩ = some (.string tb) from fun wx hx => HC1.out wx (hS3.trans (hx.mono hS3.size)))
    clear hS3 Q2 HB2 HC0 HC1
    cases sh with
    | true =>
      have HT := Lib.hid (show kN.Tells s ⟨0, noB, noB, 0⟩ false from kN.tells_no _ fun y r h => by
        obtain ⟨_, e, e2, _⟩ := note_stands h
        rw [HXN.out] at e
        injection e with e
        injection e with e _
        injection e with a1 a2
        injection a2 with a2 _
        rw [← a1, ← a2, HKM.out] at e2
        have h5 := HSH.out
        simp at h5
        omega)
      obtain ⟨j0, j1, j2, j3⟩ := (⟨Box.free Q3.out 0, Box.free Q3.out 1, Box.free Q3.out 2, Box.free Q3.out 3⟩ : _ ∧ _ ∧ _ ∧ _)
      obtain ⟨m0, m1, m2, m3⟩ := (⟨Box.cell Q3.out 0 rfl, Box.cell Q3.out 1 rfl, Box.cell Q3.out 2 rfl, Box.cell Q3.out 3 rfl⟩ : _ ∧ _ ∧ _ ∧ _)
      go_wp2
      obtain ⟨wz, hz⟩ : ∃ wz, wz = ((((w3.setCell ⟨q, 0, none⟩ (.int .i64 0)).setCell ⟨q, 1, none⟩ (.string ⟨#[]⟩)).setCell ⟨q, 2, none⟩ (.string ⟨#[]⟩)).setCell ⟨q, 3, none⟩ (.int .u64 0)) := ⟨_, rfl⟩
      rw [← hz]
      have hqz : Box wz q 62 #[.int .i64 0, .string ⟨#[]⟩, .string ⟨#[]⟩, .int .u64 0] := by rw [hz]; exact (Box.set (Box.set (Box.set (Box.set Q3.out 0 _) 1 _) 2 _) 3 _)
      have hbz : Below w.heap.size w wz := by rw [hz]; exact (Below.setCell (Below.setCell (Below.setCell (Below.setCell HB3.out (p := ⟨q, 0, none⟩) HQ.out _) (p := ⟨q, 1, none⟩) HQ.out _) (p := ⟨q, 2, none⟩) HQ.out _) (p := ⟨q, 3, none⟩) HQ.out _)
      obtain ⟨p0, p1, p2, p3⟩ := (⟨Box.cell hqz 0 rfl, Box.cell hqz 1 rfl, Box.cell hqz 2 rfl, Box.cell hqz 3 rfl⟩ : _ ∧ _ ∧ _ ∧ _)
      clear hz j0 j1 j2 j3 m0 m1 m2 m3
      exact bodyPost_ret (v := .tuple #[.agg #[.int .i64 0, .string ⟨#[]⟩, .string ⟨#[]⟩, .int .u64 0], .bool false]) (by simp [results, Try.results29, go_sem, p0, p1, p2, p3]) rfl ⟨⟨0, noB, noB, 0⟩, false, rfl, HT.out, hbz⟩
    | false =>
      go_upto_region 4 with fail
      refine wp_region_inv [36, 37, 38, 39, 40, 41, 42, 43, 44, 45, 46, 47, 48, 35, 49, 50, 51, 6, 7, 8] (by kernel_rfl) (by kernel_rfl) (fun w' => Below w3.heap.size w3 w') (fun wa wb => Below wa.heap.size wa wb) (TNb s ta tb tk rr ad c m xn E) (by kernel_rfl) (fun wa wb h1 h2 => h2.trans (h1.mono h2.size)) (fun t v wa wb h1 h2 => h2.on h1) (Below.refl _ _).drew (steps_of ?_) ?_
      · skip
        refine Steps1.cons (fun ax wx hS hG => ?_) (Steps1.cons (fun ax wx hS hG => ?_) (Steps1.cons (fun ax wx hS hG => ?_) (Steps1.cons (fun ax wx hS hG => ?_) (Steps1.cons (fun ax wx hS hG => ?_) (Steps1.cons (fun ax wx hS hG => ?_) (Steps1.cons (fun ax wx hS hG => ?_) (Steps1.cons (fun ax wx hS hG => ?_) (Steps1.cons (fun ax wx hS hG => ?_) (Steps1.cons (fun ax wx hS hG => ?_) (Steps1.cons (fun ax wx hS hG => ?_) (Steps1.cons (fun ax wx hS hG => ?_) (Steps1.cons (fun ax wx hS hG => ?_) (Steps1.cons (fun ax wx hS hG => ?_) (Steps1.cons (fun ax wx hS hG => ?_) (Steps1.cons (fun ax wx hS hG => ?_) (Steps1.cons (fun ax wx hS hG => ?_) (Steps1.cons (fun ax wx hS hG => ?_) (Steps1.cons (fun ax wx hS hG => ?_) (Steps1.cons (fun ax wx hS hG => ?_) Steps1.nil)))))))))))))))))))
        · have q0 := hG.old 0 (by kernel_rfl) (by kernel_rfl)
          refine step_value (v := .string s) (w' := wx) rfl rfl ?_ (Below.refl _ _) (fun d hd => by cases hd; exact rfl)
          go_simp
        · have q4 := hG.old 4 (by kernel_rfl) (by kernel_rfl)
          refine step_value (v := .slice (some ad) 2 c) (w' := wx) rfl rfl ?_ (Below.refl _ _) (fun d hd => by cases hd; exact rfl)
          go_simp
        · obtain ⟨_, q37, rfl⟩ := hG.new 37 (by kernel_rfl) (by kernel_rfl)
          refine step_value (v := .pointer (some ad)) (w' := wx) rfl rfl ?_ (Below.refl _ _) (fun d hd => by cases hd; exact rfl)
          go_simp
        · obtain ⟨_, q38, rfl⟩ := hG.new 38 (by kernel_rfl) (by kernel_rfl)
          have z0 := HD0.out wx hS
          refine step_value (v := .string ta) (w' := wx) rfl rfl ?_ (Below.refl _ _) (fun d hd => by cases hd; exact rfl)
          go_simp
        · obtain ⟨_, q39, rfl⟩ := hG.new 39 (by kernel_rfl) (by kernel_rfl)
          refine step_value (v := .int .i64 (ta.size : Int)) (w' := wx) rfl rfl ?_ (Below.refl _ _) (fun d hd => by cases hd; exact rfl)
          go_simp
        · obtain ⟨_, q40, rfl⟩ := hG.new 40 (by kernel_rfl) (by kernel_rfl)
          refine step_value (v := .int .i64 (5 + (ta.size : Int))) (w' := wx) rfl rfl ?_ (Below.refl _ _) (fun d hd => by cases hd; exact rfl)
          have hw := HW3.out
          go_simp
        · have q4 := hG.old 4 (by kernel_rfl) (by kernel_rfl)
          refine step_value (v := .slice (some ad) 2 c) (w' := wx) rfl rfl ?_ (Below.refl _ _) (fun d hd => by cases hd; exact rfl)
          go_simp
        · obtain ⟨_, q42, rfl⟩ := hG.new 42 (by kernel_rfl) (by kernel_rfl)
          refine step_value (v := .pointer (some ⟨ad.block, ad.off + 1, none⟩)) (w' := wx) rfl rfl ?_ (Below.refl _ _) (fun d hd => by cases hd; exact rfl)
          go_simp
        · obtain ⟨_, q43, rfl⟩ := hG.new 43 (by kernel_rfl) (by kernel_rfl)
          have z0 := HD1.out wx hS
          refine step_value (v := .string tb) (w' := wx) rfl rfl ?_ (Below.refl _ _) (fun d hd => by cases hd; exact rfl)
          go_simp
        · obtain ⟨_, q44, rfl⟩ := hG.new 44 (by kernel_rfl) (by kernel_rfl)
          refine step_value (v := .int .i64 (tb.size : Int)) (w' := wx) rfl rfl ?_ (Below.refl _ _) (fun d hd => by cases hd; exact rfl)
          go_simp
        · obtain ⟨_, q41, rfl⟩ := hG.new 41 (by kernel_rfl) (by kernel_rfl)
          obtain ⟨_, q45, rfl⟩ := hG.new 45 (by kernel_rfl) (by kernel_rfl)
          refine step_value (v := .int .i64 (m : Int)) (w' := wx) rfl rfl ?_ (Below.refl _ _) (fun d hd => by cases hd; exact rfl)
          have hw := HW4.out
          go_simp
        · obtain ⟨_, q36, rfl⟩ := hG.new 36 (by kernel_rfl) (by kernel_rfl)
          obtain ⟨_, q46, rfl⟩ := hG.new 46 (by kernel_rfl) (by kernel_rfl)
          refine step_value (v := .string tk) (w' := wx) rfl rfl ?_ (Below.refl _ _) (fun d hd => by cases hd; exact rfl)
          have h1 := HE1.out
          have h2 := HE2.out
          have h3 := HE3.out
          go_simp
        · obtain ⟨_, q47, rfl⟩ := hG.new 47 (by kernel_rfl) (by kernel_rfl)
          refine step_call (w1 := wx) (f := 28) (args := #[.string tk, .int .i64 8]) rfl rfl ?_ ((HTK.out wx).mono ?_)
          · skip
            go_simp
          · rintro e w' ⟨rfl, hq⟩
            exact ⟨_, rfl, hq, fun d hd => by cases hd; exact rfl⟩
        · obtain ⟨_, q48, rfl⟩ := hG.new 48 (by kernel_rfl) (by kernel_rfl)
          refine step_value (v := .tuple #[.int .u64 (xn.toNat : Int), .string rr, .int .i64 E]) (w' := wx) rfl rfl ?_ (Below.refl _ _) (fun d hd => by cases hd; exact rfl)
          go_simp
        · obtain ⟨_, q35, rfl⟩ := hG.new 35 (by kernel_rfl) (by kernel_rfl)
          refine step_value (v := .int .u64 (xn.toNat : Int)) (w' := wx) rfl rfl ?_ (Below.refl _ _) (fun d hd => by cases hd; exact rfl)
          go_simp
        · obtain ⟨_, q35, rfl⟩ := hG.new 35 (by kernel_rfl) (by kernel_rfl)
          refine step_value (v := .string rr) (w' := wx) rfl rfl ?_ (Below.refl _ _) (fun d hd => by cases hd; exact rfl)
          go_simp
        · obtain ⟨_, q35, rfl⟩ := hG.new 35 (by kernel_rfl) (by kernel_rfl)
          refine step_value (v := .int .i64 E) (w' := wx) rfl rfl ?_ (Below.refl _ _) (fun d hd => by cases hd; exact rfl)
          go_simp
        · obtain ⟨_, q49, rfl⟩ := hG.new 49 (by kernel_rfl) (by kernel_rfl)
          refine step_value (v := .int .u64 (xn.toNat : Int)) (w' := wx) rfl rfl ?_ (Below.refl _ _) (fun d hd => by cases hd; exact rfl)
          go_simp
        · obtain ⟨_, q50, rfl⟩ := hG.new 50 (by kernel_rfl) (by kernel_rfl)
          refine step_value (v := .string rr) (w' := wx) rfl rfl ?_ (Below.refl _ _) (fun d hd => by cases hd; exact rfl)
          go_simp
        · obtain ⟨_, q51, rfl⟩ := hG.new 51 (by kernel_rfl) (by kernel_rfl)
          refine step_value (v := .int .i64 E) (w' := wx) rfl rfl ?_ (Below.refl _ _) (fun d hd => by cases hd; exact rfl)
          go_simp
      intro fv w5 hS5 hV8
      have e6 : fv 6 = .int .u64 (xn.toNat : Int) := hV8 6 (by decide)
      have e7 : fv 7 = .string rr := hV8 7 (by decide)
      have e8 : fv 8 = .int .i64 E := hV8 8 (by decide)
      simp only [puts, Act.put, List.setIfInBounds_toArray, List.set_cons_succ, List.set_cons_zero]
      clear hV8
      rw [e6, e7, e8]
      have Q5 := Lib.hid (Q3.out.on hS5)
      have HB5 := Lib.hid (HB3.out.trans (hS5.mono HB3.out.size))
      have HF0 := Lib.hid (show ∀ wx, Below w5.heap.size w5 wx → wx.cell? ad = some (.string ta) from fun wx hx => HD0.out wx (hS5.trans (hx.mono hS5.size)))
      have HF1 := Lib.hid (show ∀ wx, Below w5.heap.size w5 wx → wx.cell? ⟨ad.block, ad.off + 1, none⟩ = some (.string tb) from fun wx hx => HD1.out wx (hS5.trans (hx.mono hS5.size)))
      clear hS5 Q3 HB3 HD0 HD1
      go_upto_region 5 with fail
      refine wp_region_phase 14 [52, 53, 54, 55, 56, 57, 58, 59, 60, 61, 62, 9] (by kernel_rfl) [12] [] (fun _ _ => True) 1 rfl (by kernel_rfl) (fun _ wx => Below w5.heap.size w5 wx) (fun wa wb => Below wa.heap.size wa wb) (TNc s ta tb ad c bn xn w5.heap.size) (by kernel_rfl) (fun _ wa wb h1 h2 => h2.trans (h1.mono h2.size)) (fun _ t v wa wb h1 h2 => h2.on h1) (fun _ _ _ _ _ _ _ => trivial) (Below.refl _ _).drew trivial (phase1 ?_ ?_) ?_
      · refine Steps1.cons (fun _ ax wx hS _ hG => ?_) (Steps1.cons (fun _ ax wx hS _ hG => ?_) (Steps1.cons (fun _ ax wx hS _ hG => ?_) (Steps1.cons (fun _ ax wx hS _ hG => ?_) (Steps1.cons (fun _ ax wx hS _ hG => ?_) (Steps1.cons (fun _ ax wx hS _ hG => ?_) (Steps1.cons (fun _ ax wx hS _ hG => ?_) (Steps1.cons (fun _ ax wx hS _ hG => ?_) (Steps1.cons (fun _ ax wx hS _ hG => ?_) (Steps1.cons (fun _ ax wx hS _ hG => ?_) (Steps1.cons (fun _ ax wx hS _ hG => ?_) (Steps1.cons (fun _ ax wx hS _ hG => ?_) (Steps1.cons (fun _ ax wx hS _ hG => ?_) Steps1.nil))))))))))))
        · have q0 := hG.old 0 (by kernel_rfl) (by kernel_rfl)
          refine step_slot rfl rfl rfl (step_value (v := .string s) (w' := wx) rfl rfl ?_ (Below.refl _ _) (fun d hd => by cases hd; exact rfl))
          go_simp
        · obtain ⟨_, q52, rfl⟩ := hG.new 52 (by kernel_rfl) (by kernel_rfl)
          refine step_slot rfl rfl rfl (step_value (v := .int .u8 (bn : Int)) (w' := wx) rfl rfl ?_ (Below.refl _ _) (fun d hd => by cases hd; exact rfl))
          have hkl := HKL.out
          have hbn := HBN.out
          go_simp
        · obtain ⟨_, q53, rfl⟩ := hG.new 53 (by kernel_rfl) (by kernel_rfl)
          refine step_slot rfl rfl rfl (step_value (v := .int .i64 (bn : Int)) (w' := wx) rfl rfl ?_ (Below.refl _ _) (fun d hd => by cases hd; exact rfl))
          have hw := HWB.out
          go_simp
        · have q4 := hG.old 4 (by kernel_rfl) (by kernel_rfl)
          refine step_slot rfl rfl rfl (step_value (v := .slice (some ad) 2 c) (w' := wx) rfl rfl ?_ (Below.refl _ _) (fun d hd => by cases hd; exact rfl))
          go_simp
        · obtain ⟨_, q55, rfl⟩ := hG.new 55 (by kernel_rfl) (by kernel_rfl)
          refine step_slot rfl rfl rfl (step_value (v := .pointer (some ad)) (w' := wx) rfl rfl ?_ (Below.refl _ _) (fun d hd => by cases hd; exact rfl))
          go_simp
        · obtain ⟨_, q56, rfl⟩ := hG.new 56 (by kernel_rfl) (by kernel_rfl)
          have z0 := HF0.out wx hS
          refine step_slot rfl rfl rfl (step_value (v := .string ta) (w' := wx) rfl rfl ?_ (Below.refl _ _) (fun d hd => by cases hd; exact rfl))
          go_simp
        · have q4 := hG.old 4 (by kernel_rfl) (by kernel_rfl)
          refine step_slot rfl rfl rfl (step_value (v := .slice (some ad) 2 c) (w' := wx) rfl rfl ?_ (Below.refl _ _) (fun d hd => by cases hd; exact rfl))
          go_simp
        · obtain ⟨_, q58, rfl⟩ := hG.new 58 (by kernel_rfl) (by kernel_rfl)
          refine step_slot rfl rfl rfl (step_value (v := .pointer (some ⟨ad.block, ad.off + 1, none⟩)) (w' := wx) rfl rfl ?_ (Below.refl _ _) (fun d hd => by cases hd; exact rfl))
          go_simp
        · obtain ⟨_, q59, rfl⟩ := hG.new 59 (by kernel_rfl) (by kernel_rfl)
          have z0 := HF1.out wx hS
          refine step_slot rfl rfl rfl (step_value (v := .string tb) (w' := wx) rfl rfl ?_ (Below.refl _ _) (fun d hd => by cases hd; exact rfl))
          go_simp
        · have q6 := hG.old 6 (by kernel_rfl) (by kernel_rfl)
          refine step_slot rfl rfl rfl (step_value (v := .int .u64 (xn.toNat : Int)) (w' := wx) rfl rfl ?_ (Below.refl _ _) (fun d hd => by cases hd; exact rfl))
          go_simp
        · obtain ⟨_, q54, rfl⟩ := hG.new 54 (by kernel_rfl) (by kernel_rfl)
          obtain ⟨_, q57, rfl⟩ := hG.new 57 (by kernel_rfl) (by kernel_rfl)
          obtain ⟨_, q60, rfl⟩ := hG.new 60 (by kernel_rfl) (by kernel_rfl)
          obtain ⟨_, q61, rfl⟩ := hG.new 61 (by kernel_rfl) (by kernel_rfl)
          refine step_slot rfl rfl rfl (step_value (v := .agg #[.int .i64 (bn : Int), .string ta, .string tb, .int .u64 (xn.toNat : Int)]) (w' := wx) rfl rfl ?_ (Below.refl _ _) (fun d hd => by cases hd; exact rfl))
          go_simp
        · refine step_slot rfl rfl rfl (step_value (v := .pointer (some ⟨wx.heap.size, 0, none⟩)) (w' := wx.alloc (.cells #[.int .i64 0, .string ⟨#[]⟩, .string ⟨#[]⟩, .int .u64 0] 62)) rfl rfl ?_ ((Below.refl _ _).alloc (Nat.le_refl _) _) (fun d hd => by cases hd; exact ⟨_, rfl, hS.size, fun _ => Box.fresh _ _ _, fun h => absurd h (by decide)⟩))
          go_simp
        · obtain ⟨v9, q9, h9⟩ := hG.new 9 (by kernel_rfl) (by kernel_rfl)
          have p9 : NewB _ _ _ _ _ v9 wx := h9
          obtain ⟨g9, rfl, b9, z9, y9⟩ := p9
          obtain ⟨_, q62, rfl⟩ := hG.new 62 (by kernel_rfl) (by kernel_rfl)
          have hbq := z9 rfl
          have f0 := Box.free hbq 0
          have m0 := Box.cell hbq 0 rfl
          have f1 := Box.free hbq 1
          have m1 := Box.cell hbq 1 rfl
          have f2 := Box.free hbq 2
          have m2 := Box.cell hbq 2 rfl
          have f3 := Box.free hbq 3
          have m3 := Box.cell hbq 3 rfl
          have hbz := (Box.set (Box.set (Box.set (Box.set hbq 0 (.int .i64 (bn : Int))) 1 (.string ta)) 2 (.string tb)) 3 (.int .u64 (xn.toNat : Int)))
          refine step_store (w' := ((((wx.setCell ⟨g9, 0, none⟩ (.int .i64 (bn : Int))).setCell ⟨g9, 1, none⟩ (.string ta)).setCell ⟨g9, 2, none⟩ (.string tb)).setCell ⟨g9, 3, none⟩ (.int .u64 (xn.toNat : Int)))) rfl rfl rfl rfl ?_ ((Below.setCell (Below.setCell (Below.setCell (Below.setCell hS (p := ⟨g9, 0, none⟩) b9 (.int .i64 (bn : Int))) (p := ⟨g9, 1, none⟩) b9 (.string ta)) (p := ⟨g9, 2, none⟩) b9 (.string tb)) (p := ⟨g9, 3, none⟩) b9 (.int .u64 (xn.toNat : Int)))) trivial ?_
          · clear hbq hS hbz h9
            go_simp
          · intro t u _ hu hV
            by_cases ht : t = 9
            · subst ht
              rw [q9] at hu
              injection hu with hu
              subst hu
              exact ⟨g9, rfl, b9, fun h => absurd h (by decide), fun _ => hbz⟩
            · unfold TNc at *
              split at hV <;> first | exact hV | exact absurd rfl ht
      · refine Steps1.cons (fun hin _ _ _ _ _ => out (by kernel_rfl) hin) (Steps1.cons (fun hin _ _ _ _ _ => out (by kernel_rfl) hin) (Steps1.cons (fun hin _ _ _ _ _ => out (by kernel_rfl) hin) (Steps1.cons (fun hin _ _ _ _ _ => out (by kernel_rfl) hin) (Steps1.cons (fun hin _ _ _ _ _ => out (by kernel_rfl) hin) (Steps1.cons (fun hin _ _ _ _ _ => out (by kernel_rfl) hin) (Steps1.cons (fun hin _ _ _ _ _ => out (by kernel_rfl) hin) (Steps1.cons (fun hin _ _ _ _ _ => out (by kernel_rfl) hin) (Steps1.cons (fun hin _ _ _ _ _ => out (by kernel_rfl) hin) (Steps1.cons (fun hin _ _ _ _ _ => out (by kernel_rfl) hin) (Steps1.cons (fun hin _ _ _ _ _ => out (by kernel_rfl) hin) (Steps1.cons (fun hin _ _ _ _ _ => out (by kernel_rfl) hin) (Steps1.cons (fun hin _ _ _ _ _ => out (by kernel_rfl) hin) Steps1.nil))))))))))))
      intro fv w8 hS8 _ hV8
      have e9 : NewB _ 62 #[.int .i64 0, .string ⟨#[]⟩, .string ⟨#[]⟩, .int .u64 0] #[.int .i64 (bn : Int), .string ta, .string tb, .int .u64 (xn.toNat : Int)] 1 (fv 9) w8 := hV8 9 (by decide)
      simp only [puts, Act.put, List.setIfInBounds_toArray, List.set_cons_succ, List.set_cons_zero]
      clear hV8
      obtain ⟨g, hg6, hge, _, hgb⟩ := e9
      rw [hg6]
      clear hg6
      have X8 := Lib.hid (hgb rfl)
      have Q8 := Lib.hid (Q5.out.on hS8)
      have HB8 := Lib.hid (HB5.out.trans (hS8.mono HB5.out.size))
      have HNE := Lib.hid (show g ≠ q from by have := Q5.out.lt; omega)
      clear hge hgb hS8 Q5 HB5 HF0 HF1
      obtain ⟨k0, k1, k2, k3⟩ := (⟨Box.cell X8.out 0 rfl, Box.cell X8.out 1 rfl, Box.cell X8.out 2 rfl, Box.cell X8.out 3 rfl⟩ : _ ∧ _ ∧ _ ∧ _)
      go_wp2_with fail
      refine (dright_any (bn : Int) ta tb xn _).mono ?_
      rintro e w9 ⟨rfl, hb⟩
      have X9 := Lib.hid (X8.out.on hb)
      have Q9 := Lib.hid (Q8.out.on hb)
      have HB9 := Lib.hid (HB8.out.trans (hb.mono HB8.out.size))
      clear hb k0 k1 k2 k3 X8 Q8 HB8
      have HX := Lib.hid (show ∀ wx, Ex q w9 wx → wx.cell? ⟨g, 0, none⟩ = some (.int .i64 (bn : Int)) ∧ wx.cell? ⟨g, 1, none⟩ = some (.string ta) ∧ wx.cell? ⟨g, 2, none⟩ = some (.string tb) ∧ wx.cell? ⟨g, 3, none⟩ = some (.int .u64 (xn.toNat : Int)) from fun wx hx => by
        have hb := hx.box X9.out HNE.out
        exact ⟨hb.cell 0 rfl, hb.cell 1 rfl, hb.cell 2 rfl, hb.cell 3 rfl⟩)
      cases hf : rightN ⟨(bn : Int), ta, tb, xn⟩ with
      | false =>
        have ht := HTOLD.out
        rw [hf, Bool.false_and] at ht
        have HT := Lib.hid ht
        clear ht hf
        go_upto_region 7 with fail
        refine wp_region_phase 14 [65, 66, 67, 68, 69, 70, 71, 72, 3] (by kernel_rfl) [8] [] (fun _ _ => True) 1 rfl (by kernel_rfl) (ResS w9 q 62 #[.int .i64 (bn : Int), .string ta, .string tb, .int .u64 (xn.toNat : Int)]) (fun wa wb => Below wa.heap.size wa wb) (TNd ta tb bn xn) (by kernel_rfl) (fun _ wa wb h1 h2 => h2.on h1) (fun _ t v wa wb h1 h2 => h2.on h1) (fun _ _ _ _ _ _ _ => trivial) (ResS.start _ _ _ _) trivial (phase1 ?_ ?_) ?_
        · refine Steps1.cons (fun _ ax wx hS _ hG => ?_) (Steps1.cons (fun _ ax wx hS _ hG => ?_) (Steps1.cons (fun _ ax wx hS _ hG => ?_) (Steps1.cons (fun _ ax wx hS _ hG => ?_) (Steps1.cons (fun _ ax wx hS _ hG => ?_) (Steps1.cons (fun _ ax wx hS _ hG => ?_) (Steps1.cons (fun _ ax wx hS _ hG => ?_) (Steps1.cons (fun _ ax wx hS _ hG => ?_) (Steps1.cons (fun _ ax wx hS _ hG => ?_) (Steps1.cons (fun _ ax wx hS _ hG => ?_) Steps1.nil)))))))))
          · have q9 := hG.old 9 (by kernel_rfl) (by kernel_rfl)
            obtain ⟨z0, z1, z2, z3⟩ := HX.out wx hS.ex
            refine step_slot rfl rfl rfl (step_value (v := .agg #[.int .i64 (bn : Int), .string ta, .string tb, .int .u64 (xn.toNat : Int)]) (w' := wx) rfl rfl ?_ (Below.refl _ _) (fun d hd => by cases hd; exact rfl))
            go_simp
          · have q10 := hG.old 10 (by kernel_rfl) (by kernel_rfl)
            refine step_slot rfl rfl rfl (step_value (v := .bool false) (w' := wx) rfl rfl ?_ (Below.refl _ _) (fun d hd => by cases hd; exact rfl))
            go_simp
          · obtain ⟨_, q66, rfl⟩ := hG.new 66 (by kernel_rfl) (by kernel_rfl)
            refine step_slot rfl rfl rfl (step_value (v := .bool false) (w' := wx) rfl rfl ?_ (Below.refl _ _) (fun d hd => by cases hd; exact rfl))
            go_simp
          · obtain ⟨_, q67, rfl⟩ := hG.new 67 (by kernel_rfl) (by kernel_rfl)
            refine step_slot rfl rfl rfl (step_past rfl (by simp [Region.wanted, yielded, q67]) (Below.refl _ _) (fun d hd => by cases hd; exact rfl))
          · obtain ⟨_, q67, rfl⟩ := hG.new 67 (by kernel_rfl) (by kernel_rfl)
            refine step_slot rfl rfl rfl (step_past rfl (by simp [Region.wanted, yielded, q67]) (Below.refl _ _) (fun d hd => by cases hd; exact rfl))
          · obtain ⟨_, q67, rfl⟩ := hG.new 67 (by kernel_rfl) (by kernel_rfl)
            refine step_slot rfl rfl rfl (step_past rfl (by simp [Region.wanted, yielded, q67]) (Below.refl _ _) (fun d hd => by cases hd; exact rfl))
          · obtain ⟨_, q67, rfl⟩ := hG.new 67 (by kernel_rfl) (by kernel_rfl)
            refine step_slot rfl rfl rfl (step_past rfl (by simp [Region.wanted, yielded, q67]) (Below.refl _ _) (fun d hd => by cases hd; exact rfl))
          · obtain ⟨_, q67, rfl⟩ := hG.new 67 (by kernel_rfl) (by kernel_rfl)
            obtain ⟨_, q71, rfl⟩ := hG.new 71 (by kernel_rfl) (by kernel_rfl)
            refine step_slot rfl rfl rfl (step_value (v := .bool false) (w' := wx) rfl rfl ?_ (Below.refl _ _) (fun d hd => by cases hd; exact rfl))
            go_simp
          · have q2 := hG.old 2 (by kernel_rfl) (by kernel_rfl)
            obtain ⟨_, q65, rfl⟩ := hG.new 65 (by kernel_rfl) (by kernel_rfl)
            have hbq := Q9.out.on (hS.fresh rfl)
            have f0 := Box.free hbq 0
            have m0 := Box.cell hbq 0 rfl
            have f1 := Box.free hbq 1
            have m1 := Box.cell hbq 1 rfl
            have f2 := Box.free hbq 2
            have m2 := Box.cell hbq 2 rfl
            have f3 := Box.free hbq 3
            have m3 := Box.cell hbq 3 rfl
            skip
            refine step_store (w' := ((((wx.setCell ⟨q, 0, none⟩ (.int .i64 (bn : Int))).setCell ⟨q, 1, none⟩ (.string ta)).setCell ⟨q, 2, none⟩ (.string tb)).setCell ⟨q, 3, none⟩ (.int .u64 (xn.toNat : Int)))) rfl rfl rfl rfl ?_ (⟨(Ex.trans (Ex.trans (Ex.trans (Ex.trans hS.ex (Ex.set (g := q) (i := 0) _ (.int .i64 (bn : Int)))) (Ex.set (g := q) (i := 1) _ (.string ta))) (Ex.set (g := q) (i := 2) _ (.string tb))) (Ex.set (g := q) (i := 3) _ (.int .u64 (xn.toNat : Int)))), fun h => absurd h (by decide), fun _ => (Box.set (Box.set (Box.set (Box.set hbq 0 (.int .i64 (bn : Int))) 1 (.string ta)) 2 (.string tb)) 3 (.int .u64 (xn.toNat : Int)))⟩) trivial ?_
            · clear hbq hS
              go_simp
            · intro t u _ hu hV
              unfold TNd at *
              split at hV <;> exact hV
          · obtain ⟨_, q72, rfl⟩ := hG.new 72 (by kernel_rfl) (by kernel_rfl)
            refine step_slot rfl rfl rfl (step_value (v := .bool false) (w' := wx) rfl rfl ?_ (Below.refl _ _) (fun d hd => by cases hd; exact rfl))
            go_simp
        · refine Steps1.cons (fun hin _ _ _ _ _ => out (by kernel_rfl) hin) (Steps1.cons (fun _ ax wx hS _ hG => ?_) (Steps1.cons (fun _ ax wx hS _ hG => ?_) (Steps1.cons (fun _ ax wx hS _ hG => ?_) (Steps1.cons (fun _ ax wx hS _ hG => ?_) (Steps1.cons (fun _ ax wx hS _ hG => ?_) (Steps1.cons (fun _ ax wx hS _ hG => ?_) (Steps1.cons (fun _ ax wx hS _ hG => ?_) (Steps1.cons (fun hin _ _ _ _ _ => out (by kernel_rfl) hin) (Steps1.cons (fun _ ax wx hS _ hG => ?_) Steps1.nil)))))))))
          · have q10 := hG.old 10 (by kernel_rfl) (by kernel_rfl)
            refine step_slot rfl rfl rfl (step_value (v := .bool false) (w' := wx) rfl rfl ?_ (Below.refl _ _) (fun d hd => by cases hd; exact rfl))
            go_simp
          · obtain ⟨_, q66, rfl⟩ := hG.new 66 (by kernel_rfl) (by kernel_rfl)
            refine step_slot rfl rfl rfl (step_value (v := .bool false) (w' := wx) rfl rfl ?_ (Below.refl _ _) (fun d hd => by cases hd; exact rfl))
            go_simp
          · obtain ⟨_, q67, rfl⟩ := hG.new 67 (by kernel_rfl) (by kernel_rfl)
            refine step_slot rfl rfl rfl (step_past rfl (by simp [Region.wanted, yielded, q67]) (Below.refl _ _) (fun d hd => by cases hd; exact rfl))
          · obtain ⟨_, q67, rfl⟩ := hG.new 67 (by kernel_rfl) (by kernel_rfl)
            refine step_slot rfl rfl rfl (step_past rfl (by simp [Region.wanted, yielded, q67]) (Below.refl _ _) (fun d hd => by cases hd; exact rfl))
          · obtain ⟨_, q67, rfl⟩ := hG.new 67 (by kernel_rfl) (by kernel_rfl)
            refine step_slot rfl rfl rfl (step_past rfl (by simp [Region.wanted, yielded, q67]) (Below.refl _ _) (fun d hd => by cases hd; exact rfl))
          · obtain ⟨_, q67, rfl⟩ := hG.new 67 (by kernel_rfl) (by kernel_rfl)
            refine step_slot rfl rfl rfl (step_past rfl (by simp [Region.wanted, yielded, q67]) (Below.refl _ _) (fun d hd => by cases hd; exact rfl))
          · obtain ⟨_, q67, rfl⟩ := hG.new 67 (by kernel_rfl) (by kernel_rfl)
            obtain ⟨_, q71, rfl⟩ := hG.new 71 (by kernel_rfl) (by kernel_rfl)
            refine step_slot rfl rfl rfl (step_value (v := .bool false) (w' := wx) rfl rfl ?_ (Below.refl _ _) (fun d hd => by cases hd; exact rfl))
            go_simp
          · obtain ⟨_, q72, rfl⟩ := hG.new 72 (by kernel_rfl) (by kernel_rfl)
            refine step_slot rfl rfl rfl (step_value (v := .bool false) (w' := wx) rfl rfl ?_ (Below.refl _ _) (fun d hd => by cases hd; exact rfl))
            go_simp
        intro fv wa hS8 _ hV8
        have e3 : fv 3 = .bool false := hV8 3 (by decide)
        simp only [puts, Act.put, List.setIfInBounds_toArray, List.set_cons_succ, List.set_cons_zero]
        clear hV8
        rw [e3]
        have hqz := hS8.done rfl
        obtain ⟨p0, p1, p2, p3⟩ := (⟨Box.cell hqz 0 rfl, Box.cell hqz 1 rfl, Box.cell hqz 2 rfl, Box.cell hqz 3 rfl⟩ : _ ∧ _ ∧ _ ∧ _)
        have HBZ := Lib.hid (show Below w.heap.size w wa from Ex.below HB9.out hS8.ex HQ.out HB9.out.size)
        clear hqz hS8
        go_wp2
        exact bodyPost_ret (v := .tuple #[.agg #[.int .i64 (bn : Int), .string ta, .string tb, .int .u64 (xn.toNat : Int)], .bool false]) (by simp [results, Try.results29, go_sem, p0, p1, p2, p3]) rfl ⟨⟨(bn : Int), ta, tb, xn⟩, false, rfl, HT.out, HBZ.out⟩
      | true =>
        have ht := HTOLD.out
        rw [hf, Bool.true_and] at ht
        obtain ⟨hkd, hk16, hv32⟩ := right_of hf
        simp only at hkd hk16 hv32
        have hnb := fun w => dnotebytes_any ta tb bn xn.toNat w (by have := HBL.out; omega) (by omega) (by omega) xn.toNat_lt
        obtain ⟨enc, henc⟩ : ∃ enc, enc = (nS 1 bn ++ textS ta ++ textS tb ++ nS 8 xn.toNat) := ⟨_, rfl⟩
        have he2 : noteB ⟨(bn : Int), ta, tb, xn⟩ = enc := by rw [henc]; unfold noteB; simp only [Int.toNat_natCast, ba_assoc]
        rw [← henc] at hnb
        rw [he2] at ht
        have hbg := fun w => begins_any s enc w
        obtain ⟨B, hB⟩ : ∃ B, B = beginsB s enc := ⟨_, rfl⟩
        rw [← hB] at ht hbg
        have HT := Lib.hid ht
        have HNB := Lib.hid hnb
        have HBG := Lib.hid hbg
        clear ht hf hkd hk16 hv32 hnb henc he2 hbg hB
        go_upto_region 7 with fail
        refine wp_region_phase 14 [65, 66, 67, 68, 69, 70, 71, 72, 3] (by kernel_rfl) [8] [] (fun _ _ => True) 1 rfl (by kernel_rfl) (ResS w9 q 62 #[.int .i64 (bn : Int), .string ta, .string tb, .int .u64 (xn.toNat : Int)]) (fun wa wb => Below wa.heap.size wa wb) (TNe s ta tb enc bn xn B) (by kernel_rfl) (fun _ wa wb h1 h2 => h2.on h1) (fun _ t v wa wb h1 h2 => h2.on h1) (fun _ _ _ _ _ _ _ => trivial) (ResS.start _ _ _ _) trivial (phase1 ?_ ?_) ?_
        · refine Steps1.cons (fun _ ax wx hS _ hG => ?_) (Steps1.cons (fun _ ax wx hS _ hG => ?_) (Steps1.cons (fun _ ax wx hS _ hG => ?_) (Steps1.cons (fun _ ax wx hS _ hG => ?_) (Steps1.cons (fun _ ax wx hS _ hG => ?_) (Steps1.cons (fun _ ax wx hS _ hG => ?_) (Steps1.cons (fun _ ax wx hS _ hG => ?_) (Steps1.cons (fun _ ax wx hS _ hG => ?_) (Steps1.cons (fun _ ax wx hS _ hG => ?_) (Steps1.cons (fun _ ax wx hS _ hG => ?_) Steps1.nil)))))))))
          · have q9 := hG.old 9 (by kernel_rfl) (by kernel_rfl)
            obtain ⟨z0, z1, z2, z3⟩ := HX.out wx hS.ex
            refine step_slot rfl rfl rfl (step_value (v := .agg #[.int .i64 (bn : Int), .string ta, .string tb, .int .u64 (xn.toNat : Int)]) (w' := wx) rfl rfl ?_ (Below.refl _ _) (fun d hd => by cases hd; exact rfl))
            go_simp
          · have q10 := hG.old 10 (by kernel_rfl) (by kernel_rfl)
            refine step_slot rfl rfl rfl (step_value (v := .bool true) (w' := wx) rfl rfl ?_ (Below.refl _ _) (fun d hd => by cases hd; exact rfl))
            go_simp
          · obtain ⟨_, q66, rfl⟩ := hG.new 66 (by kernel_rfl) (by kernel_rfl)
            refine step_slot rfl rfl rfl (step_value (v := .bool true) (w' := wx) rfl rfl ?_ (Below.refl _ _) (fun d hd => by cases hd; exact rfl))
            go_simp
          · obtain ⟨_, q67, rfl⟩ := hG.new 67 (by kernel_rfl) (by kernel_rfl)
            have q0 := hG.old 0 (by kernel_rfl) (by kernel_rfl)
            refine step_slot rfl rfl rfl (step_value (v := .string s) (w' := wx) rfl (by simp [Region.wanted, yielded, q67]) ?_ (Below.refl _ _) (fun d hd => by cases hd; exact rfl))
            go_simp
          · obtain ⟨_, q67, rfl⟩ := hG.new 67 (by kernel_rfl) (by kernel_rfl)
            have q9 := hG.old 9 (by kernel_rfl) (by kernel_rfl)
            obtain ⟨z0, z1, z2, z3⟩ := HX.out wx hS.ex
            refine step_slot rfl rfl rfl (step_value (v := .agg #[.int .i64 (bn : Int), .string ta, .string tb, .int .u64 (xn.toNat : Int)]) (w' := wx) rfl (by simp [Region.wanted, yielded, q67]) ?_ (Below.refl _ _) (fun d hd => by cases hd; exact rfl))
            go_simp
          · obtain ⟨_, q67, rfl⟩ := hG.new 67 (by kernel_rfl) (by kernel_rfl)
            obtain ⟨_, q69, rfl⟩ := hG.new 69 (by kernel_rfl) (by kernel_rfl)
            refine step_slot rfl rfl rfl (step_call (w1 := wx) (f := 32) (args := #[.agg #[.int .i64 (bn : Int), .string ta, .string tb, .int .u64 (xn.toNat : Int)]]) rfl (by simp [Region.wanted, yielded, q67]) ?_ ((HNB.out wx).mono ?_))
            · skip
              go_simp
            · rintro e w' ⟨rfl, hq⟩
              exact ⟨_, rfl, hq, fun d hd => by cases hd; exact rfl⟩
          · obtain ⟨_, q67, rfl⟩ := hG.new 67 (by kernel_rfl) (by kernel_rfl)
            obtain ⟨_, q68, rfl⟩ := hG.new 68 (by kernel_rfl) (by kernel_rfl)
            obtain ⟨_, q70, rfl⟩ := hG.new 70 (by kernel_rfl) (by kernel_rfl)
            refine step_slot rfl rfl rfl (step_call (w1 := wx) (f := 65) (args := #[.string s, .string enc]) rfl (by simp [Region.wanted, yielded, q67]) ?_ ((HBG.out wx).mono ?_))
            · skip
              go_simp
            · rintro e w' ⟨rfl, hq⟩
              exact ⟨_, rfl, hq, fun d hd => by cases hd; exact rfl⟩
          · obtain ⟨_, q67, rfl⟩ := hG.new 67 (by kernel_rfl) (by kernel_rfl)
            obtain ⟨_, q71, rfl⟩ := hG.new 71 (by kernel_rfl) (by kernel_rfl)
            refine step_slot rfl rfl rfl (step_value (v := .bool B) (w' := wx) rfl rfl ?_ (Below.refl _ _) (fun d hd => by cases hd; exact rfl))
            go_simp
          · have q2 := hG.old 2 (by kernel_rfl) (by kernel_rfl)
            obtain ⟨_, q65, rfl⟩ := hG.new 65 (by kernel_rfl) (by kernel_rfl)
            have hbq := Q9.out.on (hS.fresh rfl)
            have f0 := Box.free hbq 0
            have m0 := Box.cell hbq 0 rfl
            have f1 := Box.free hbq 1
            have m1 := Box.cell hbq 1 rfl
            have f2 := Box.free hbq 2
            have m2 := Box.cell hbq 2 rfl
            have f3 := Box.free hbq 3
            have m3 := Box.cell hbq 3 rfl
            skip
            refine step_store (w' := ((((wx.setCell ⟨q, 0, none⟩ (.int .i64 (bn : Int))).setCell ⟨q, 1, none⟩ (.string ta)).setCell ⟨q, 2, none⟩ (.string tb)).setCell ⟨q, 3, none⟩ (.int .u64 (xn.toNat : Int)))) rfl rfl rfl rfl ?_ (⟨(Ex.trans (Ex.trans (Ex.trans (Ex.trans hS.ex (Ex.set (g := q) (i := 0) _ (.int .i64 (bn : Int)))) (Ex.set (g := q) (i := 1) _ (.string ta))) (Ex.set (g := q) (i := 2) _ (.string tb))) (Ex.set (g := q) (i := 3) _ (.int .u64 (xn.toNat : Int)))), fun h => absurd h (by decide), fun _ => (Box.set (Box.set (Box.set (Box.set hbq 0 (.int .i64 (bn : Int))) 1 (.string ta)) 2 (.string tb)) 3 (.int .u64 (xn.toNat : Int)))⟩) trivial ?_
            · clear hbq hS
              go_simp
            · intro t u _ hu hV
              unfold TNe at *
              split at hV <;> exact hV
          · obtain ⟨_, q72, rfl⟩ := hG.new 72 (by kernel_rfl) (by kernel_rfl)
            refine step_slot rfl rfl rfl (step_value (v := .bool B) (w' := wx) rfl rfl ?_ (Below.refl _ _) (fun d hd => by cases hd; exact rfl))
            go_simp
        · refine Steps1.cons (fun hin _ _ _ _ _ => out (by kernel_rfl) hin) (Steps1.cons (fun _ ax wx hS _ hG => ?_) (Steps1.cons (fun _ ax wx hS _ hG => ?_) (Steps1.cons (fun _ ax wx hS _ hG => ?_) (Steps1.cons (fun _ ax wx hS _ hG => ?_) (Steps1.cons (fun _ ax wx hS _ hG => ?_) (Steps1.cons (fun _ ax wx hS _ hG => ?_) (Steps1.cons (fun _ ax wx hS _ hG => ?_) (Steps1.cons (fun hin _ _ _ _ _ => out (by kernel_rfl) hin) (Steps1.cons (fun _ ax wx hS _ hG => ?_) Steps1.nil)))))))))
          · have q10 := hG.old 10 (by kernel_rfl) (by kernel_rfl)
            refine step_slot rfl rfl rfl (step_value (v := .bool true) (w' := wx) rfl rfl ?_ (Below.refl _ _) (fun d hd => by cases hd; exact rfl))
            go_simp
          · obtain ⟨_, q66, rfl⟩ := hG.new 66 (by kernel_rfl) (by kernel_rfl)
            refine step_slot rfl rfl rfl (step_value (v := .bool true) (w' := wx) rfl rfl ?_ (Below.refl _ _) (fun d hd => by cases hd; exact rfl))
            go_simp
          · obtain ⟨_, q67, rfl⟩ := hG.new 67 (by kernel_rfl) (by kernel_rfl)
            have q0 := hG.old 0 (by kernel_rfl) (by kernel_rfl)
            refine step_slot rfl rfl rfl (step_value (v := .string s) (w' := wx) rfl (by simp [Region.wanted, yielded, q67]) ?_ (Below.refl _ _) (fun d hd => by cases hd; exact rfl))
            go_simp
          · obtain ⟨_, q67, rfl⟩ := hG.new 67 (by kernel_rfl) (by kernel_rfl)
            have q9 := hG.old 9 (by kernel_rfl) (by kernel_rfl)
            obtain ⟨z0, z1, z2, z3⟩ := HX.out wx hS.ex
            refine step_slot rfl rfl rfl (step_value (v := .agg #[.int .i64 (bn : Int), .string ta, .string tb, .int .u64 (xn.toNat : Int)]) (w' := wx) rfl (by simp [Region.wanted, yielded, q67]) ?_ (Below.refl _ _) (fun d hd => by cases hd; exact rfl))
            go_simp
          · obtain ⟨_, q67, rfl⟩ := hG.new 67 (by kernel_rfl) (by kernel_rfl)
            obtain ⟨_, q69, rfl⟩ := hG.new 69 (by kernel_rfl) (by kernel_rfl)
            refine step_slot rfl rfl rfl (step_call (w1 := wx) (f := 32) (args := #[.agg #[.int .i64 (bn : Int), .string ta, .string tb, .int .u64 (xn.toNat : Int)]]) rfl (by simp [Region.wanted, yielded, q67]) ?_ ((HNB.out wx).mono ?_))
            · skip
              go_simp
            · rintro e w' ⟨rfl, hq⟩
              exact ⟨_, rfl, hq, fun d hd => by cases hd; exact rfl⟩
          · obtain ⟨_, q67, rfl⟩ := hG.new 67 (by kernel_rfl) (by kernel_rfl)
            obtain ⟨_, q68, rfl⟩ := hG.new 68 (by kernel_rfl) (by kernel_rfl)
            obtain ⟨_, q70, rfl⟩ := hG.new 70 (by kernel_rfl) (by kernel_rfl)
            refine step_slot rfl rfl rfl (step_call (w1 := wx) (f := 65) (args := #[.string s, .string enc]) rfl (by simp [Region.wanted, yielded, q67]) ?_ ((HBG.out wx).mono ?_))
            · skip
              go_simp
            · rintro e w' ⟨rfl, hq⟩
              exact ⟨_, rfl, hq, fun d hd => by cases hd; exact rfl⟩
          · obtain ⟨_, q67, rfl⟩ := hG.new 67 (by kernel_rfl) (by kernel_rfl)
            obtain ⟨_, q71, rfl⟩ := hG.new 71 (by kernel_rfl) (by kernel_rfl)
            refine step_slot rfl rfl rfl (step_value (v := .bool B) (w' := wx) rfl rfl ?_ (Below.refl _ _) (fun d hd => by cases hd; exact rfl))
            go_simp
          · obtain ⟨_, q72, rfl⟩ := hG.new 72 (by kernel_rfl) (by kernel_rfl)
            refine step_slot rfl rfl rfl (step_value (v := .bool B) (w' := wx) rfl rfl ?_ (Below.refl _ _) (fun d hd => by cases hd; exact rfl))
            go_simp
        intro fv wa hS8 _ hV8
        have e3 : fv 3 = .bool B := hV8 3 (by decide)
        simp only [puts, Act.put, List.setIfInBounds_toArray, List.set_cons_succ, List.set_cons_zero]
        clear hV8
        rw [e3]
        have hqz := hS8.done rfl
        obtain ⟨p0, p1, p2, p3⟩ := (⟨Box.cell hqz 0 rfl, Box.cell hqz 1 rfl, Box.cell hqz 2 rfl, Box.cell hqz 3 rfl⟩ : _ ∧ _ ∧ _ ∧ _)
        have HBZ := Lib.hid (show Below w.heap.size w wa from Ex.below HB9.out hS8.ex HQ.out HB9.out.size)
        clear hqz hS8
        go_wp2
        exact bodyPost_ret (v := .tuple #[.agg #[.int .i64 (bn : Int), .string ta, .string tb, .int .u64 (xn.toNat : Int)], .bool B]) (by simp [results, Try.results29, go_sem, p0, p1, p2, p3]) rfl ⟨⟨(bn : Int), ta, tb, xn⟩, B, rfl, HT.out, HBZ.out⟩

end Go.Proofs.Ytfbcmcckgjfdhaa
