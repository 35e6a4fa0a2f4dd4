/- The walks of flat's reader: what is left of some bytes, part by part. -/
import Derived.Test.YtfbcmcckgjfdhaaFw
import Derived.Test.YtfbcmcckgjfdhaaBox
set_option linter.unusedVariables false
set_option linter.unusedSimpArgs false
namespace Go.Proofs.Ytfbcmcckgjfdhaa
open Go.RowKit

/-- A reader that lies in a block of its own. -/
def RdB (w : World) (g : Nat) (a : Rd) : Prop := Box w g 108 #[.string a.1, .bool a.2]
theorem RdB.cells {w : World} {g : Nat} {a : Rd} (h : RdB w g a) : w.cell? ⟨g, 0, none⟩ = some (.string a.1) ∧ w.cell? ⟨g, 1, none⟩ = some (.bool a.2) ∧ w.frozen? ⟨g, 0, none⟩ = false ∧ w.frozen? ⟨g, 1, none⟩ = false :=
  ⟨Box.cell h 0 rfl, Box.cell h 1 rfl, Box.free h 0, Box.free h 1⟩
theorem RdB.on {w w' : World} {g : Nat} {a : Rd} (h : RdB w g a) (hb : Below w.heap.size w w') : RdB w' g a := Box.on h hb
theorem RdB.put {w : World} {g : Nat} {a b : Rd} (h : RdB w g a) : RdB ((w.setCell ⟨g, 0, none⟩ (.string b.1)).setCell ⟨g, 1, none⟩ (.bool b.2)) g b := (Box.set h 0 _).set 1 _
theorem RdB.lt {w : World} {g : Nat} {a : Rd} (h : RdB w g a) : g < w.heap.size := Box.lt h
/-- Of what was there the block g alone may have been written. -/
abbrev Ex (g : Nat) (w w' : World) : Prop := w.grownBy w' (some g)
theorem Ex.refl (g : Nat) (w : World) : Ex g w w := ⟨rfl, rfl, rfl, Nat.le_refl _, fun _ _ _ => rfl⟩
theorem Ex.trans {g : Nat} {a b c : World} (h : Ex g a b) (k : Ex g b c) : Ex g a c :=
  ⟨k.os.trans h.os, k.tape.trans h.tape, k.output.trans h.output, Nat.le_trans h.size k.size, fun i hi hn => (k.block i (Nat.lt_of_lt_of_le hi h.size) hn).trans (h.block i hi hn)⟩
theorem Ex.of {g : Nat} {w w' : World} (h : Below w.heap.size w w') : Ex g w w' := ⟨h.os, h.tape, h.output, h.size, fun k hk _ => h.block k hk⟩
theorem Ex.set {g i : Nat} (w : World) (v : Value) : Ex g w (w.setCell ⟨g, i, none⟩ v) :=
  ⟨rfl, rfl, rfl, by simp [World.setCell], fun k _ hn => Below.heap_setCell _ _ _ _ (fun e => hn (by rw [e]))⟩
theorem Ex.below {g B : Nat} {w0 w w' : World} (h : Below B w0 w) (k : Ex g w w') (hg : B ≤ g) (hB : B ≤ w.heap.size) : Below B w0 w' := h.grown k hB (fun _ e => by cases e; exact hg)
theorem Ex.box {g q : Nat} {w w' : World} {t : TypeId} {C : Array Value} (k : Ex g w w') (h : Box w q t C) (hq : q ≠ g) : Box w' q t C := h.grown k (by simp [hq])

set_option maxRecDepth 100000 in
set_option maxHeartbeats 1000000 in
theorem took_any (g : Nat) (s rest : ByteArray) (f : Bool) (e : Int) (w : World) (h : RdB w g (s, f)) :
    Calls Try.prog 82 #[.pointer (some ⟨g, 0, none⟩), .string rest, .int .i64 e] w fun x w' => x = .returned (.tuple #[]) ∧ RdB w' g (rest, f || e != 0) ∧ Ex g w w' := by
  have HP := Lib.hid (h.put (b := (rest, f || e != 0)))
  have HB := Lib.hid (((Ex.set (g := g) (i := 0) w (.string rest)).trans (Ex.set (i := 1) _ (.bool (f || e != 0)))) : Ex g w _)
  obtain ⟨c0, c1, f0, f1⟩ := h.cells
  simp only at c0 c1
  clear h
  cases f with
  | true =>
    go_enter Try.func82, Try.ntmps82
    go_wp2
    go_end0
    exact ⟨rfl, HP.out, HB.out⟩
  | false =>
    go_enter Try.func82, Try.ntmps82
    go_wp2
    go_end0
    exact ⟨rfl, HP.out, HB.out⟩

theorem takeE_ne (s : ByteArray) (k : Int) : (takeE s k != 0) = !takeOk s k := by
  unfold takeE
  cases h : takeOk s k with
  | true => simp
  | false =>
    rw [if_neg (by decide)]
    split <;> rfl
theorem ttE_ne (s : ByteArray) : (ttE s != 0) = !ttOk s := by
  unfold ttE
  cases h : ttOk s with
  | true => simp
  | false => rfl

set_option maxRecDepth 100000 in
set_option maxHeartbeats 1000000 in
theorem rdnum_any (g k : Nat) (a : Rd) (n : Nat) (b : Rd) (w : World) (h : RdB w g a) (e : rNum k a = (n, b)) :
    Calls Try.prog 73 #[.pointer (some ⟨g, 0, none⟩), .int .i64 (k : Int)] w fun x w' => x = .returned (.int .u64 (n : Int)) ∧ RdB w' g b ∧ Ex g w w' := by
  obtain ⟨s, f⟩ := a
  have hc := fun w => take_any s k w
  unfold rNum at e
  injection e with e1 e2
  simp only at e1 e2
  rw [e1] at hc
  obtain ⟨r, hr⟩ : ∃ r, r = takeR s k := ⟨_, rfl⟩
  obtain ⟨E, hE⟩ : ∃ E, E = takeE s k := ⟨_, rfl⟩
  have hb : b = (r, f || E != 0) := by rw [hr, hE, takeE_ne]; exact e2.symm
  rw [← hr, ← hE] at hc
  subst hb
  have HC := Lib.hid hc
  have H := Lib.hid h
  obtain ⟨c0, c1, f0, f1⟩ := h.cells
  simp only at c0 c1
  clear hc h hr hE e1 e2
  go_enter Try.func73, Try.ntmps73
  go_wp2_with fail
  refine (HC.out _).mono ?_
  rintro e w1 ⟨rfl, hb⟩
  have H1 := Lib.hid (H.out.on hb)
  have HB1 := Lib.hid (Ex.of (g := g) hb)
  clear hb c0 c1 f0 f1
  go_wp2_with fail
  refine (took_any g s r f E _ H1.out).mono ?_
  rintro e w2 ⟨rfl, h2, hb⟩
  have H2 := Lib.hid h2
  have HB2 := Lib.hid (HB1.out.trans hb)
  clear h2 hb
  go_wp2
  go_ret
  exact ⟨rfl, H2.out, HB2.out⟩

set_option maxRecDepth 100000 in
set_option maxHeartbeats 1000000 in
theorem rdtext_any (g : Nat) (a : Rd) (t : ByteArray) (b : Rd) (w : World) (h : RdB w g a) (hs : a.1.size ≤ maxLen) (e : rText a = (t, b)) :
    Calls Try.prog 74 #[.pointer (some ⟨g, 0, none⟩)] w fun x w' => x = .returned (.string t) ∧ RdB w' g b ∧ Ex g w w' := by
  obtain ⟨s, f⟩ := a
  have hc := fun w => tt_any s w hs
  unfold rText at e
  injection e with e1 e2
  simp only at e1 e2
  rw [e1] at hc
  obtain ⟨r, hr⟩ : ∃ r, r = ttR s := ⟨_, rfl⟩
  obtain ⟨E, hE⟩ : ∃ E, E = ttE s := ⟨_, rfl⟩
  have hb : b = (r, f || E != 0) := by rw [hr, hE, ttE_ne]; exact e2.symm
  rw [← hr, ← hE] at hc
  subst hb
  have HC := Lib.hid hc
  have H := Lib.hid h
  obtain ⟨c0, c1, f0, f1⟩ := h.cells
  simp only at c0 c1
  clear hc h hr hE e1 e2 hs
  go_enter Try.func74, Try.ntmps74
  go_wp2_with fail
  refine (HC.out _).mono ?_
  rintro e w1 ⟨rfl, hb⟩
  have H1 := Lib.hid (H.out.on hb)
  have HB1 := Lib.hid (Ex.of (g := g) hb)
  clear hb c0 c1 f0 f1
  go_wp2_with fail
  refine (took_any g s r f E _ H1.out).mono ?_
  rintro e w2 ⟨rfl, h2, hb⟩
  have H2 := Lib.hid h2
  have HB2 := Lib.hid (HB1.out.trans hb)
  clear h2 hb
  go_wp2
  go_ret
  exact ⟨rfl, H2.out, HB2.out⟩

theorem RdB.put1 {w : World} {g : Nat} {s : ByteArray} {f f' : Bool} (h : RdB w g (s, f)) : RdB (w.setCell ⟨g, 1, none⟩ (.bool f')) g (s, f') := Box.set h 1 _

set_option maxRecDepth 100000 in
set_option maxHeartbeats 1000000 in
theorem rdflag_any (g : Nat) (a : Rd) (x : Bool) (b : Rd) (w : World) (h : RdB w g a) (e : rFlag a = (x, b)) :
    Calls Try.prog 75 #[.pointer (some ⟨g, 0, none⟩)] w fun y w' => y = .returned (.bool x) ∧ RdB w' g b ∧ Ex g w w' := by
  obtain ⟨n, c, hn⟩ : ∃ n c, rNum 1 a = (n, c) := ⟨_, _, rfl⟩
  obtain ⟨r, f⟩ := c
  have hlt : n < 256 := by
    have h2 := takeN_lt a.1 1 (by decide)
    have e2 : n = takeN a.1 1 := (congrArg Prod.fst hn).symm
    have e3 : takeN a.1 ((1 : Nat) : Int) = takeN a.1 1 := rfl
    omega
  unfold rFlag at e
  rw [hn] at e
  simp only at e
  injection e with e1 e2
  subst e1 e2
  have hc := fun w h => rdnum_any g 1 a n (r, f) w h hn
  have HC := Lib.hid hc
  have H := Lib.hid h
  have hw1 : decide (1 < (n : Int)) = decide (1 < n) := decide_eq_decide.2 (by omega)
  have hw2 : ((n : Int) == 1) = decide (n = 1) := by rw [Bool.eq_iff_iff, beq_iff_eq, decide_eq_true_eq]; omega
  obtain ⟨d, hd⟩ : ∃ d, decide (1 < n) = d := ⟨_, rfl⟩
  obtain ⟨x, hx⟩ : ∃ x, decide (n = 1) = x := ⟨_, rfl⟩
  rw [hd] at hw1
  rw [hx] at hw2
  rw [hd, hx]
  have HW1 := Lib.hid hw1
  have HW2 := Lib.hid hw2
  clear hc h hn hw1 hw2 hd hx
  go_enter Try.func75, Try.ntmps75
  go_wp2_with fail
  refine (HC.out _ H.out).mono ?_
  rintro e w1 ⟨rfl, h1, hb⟩
  obtain ⟨c0, c1, f0, f1⟩ := h1.cells
  simp only at c0 c1
  have hp := h1.put1 (f' := f || d)
  have HP := Lib.hid hp
  have HB1 := Lib.hid (hb.trans (Ex.set (g := g) (i := 1) w1 (.bool (f || d))))
  have hdi := HW1.out
  have hxi := HW2.out
  clear h1 hb hp
  cases f with
  | true =>
    go_wp2
    go_ret
    exact ⟨rfl, HP.out, HB1.out⟩
  | false =>
    go_wp2
    go_ret
    exact ⟨rfl, HP.out, HB1.out⟩

end Go.Proofs.Ytfbcmcckgjfdhaa
