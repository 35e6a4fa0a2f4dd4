/- The walk of Join. -/
import Derived.Test.YthhbkgeoigdjaaaSml
import Derived.Test.YthhbkgeoigdjaaaPh
set_option linter.unusedVariables false
set_option linter.unusedSimpArgs false
namespace Go.Proofs.Ythhbkgeoigdjaaa
open Go.RowKit

/-- Two changes as one. -/
def joinOk (x y : Ch) : Bool := mayC x && mayC y && decide (x.key = y.key) && decide (x.seq < y.seq) && decide (x.has = y.had ∧ x.after = y.before)
def joinE (x y : Ch) : Int := if joinOk x y then (if !x.had && !y.has then 3 else 0) else 1
def noC : Ch := ⟨0, noB, false, noB, false, noB⟩
def joinC (x y : Ch) : Ch := ⟨y.seq, x.key, x.had, x.before, y.has, y.after⟩
def joinA (x y : Ch) : Ch := if joinE x y = 0 then joinC x y else noC
theorem agg_ne {n m : Bool} {a b : ByteArray} (h : ¬ (n = m ∧ a = b)) : n = m → a ≠ b := fun e f => h ⟨e, f⟩

def JnV0 (s : Int) (k : ByteArray) (m : Bool) (b : ByteArray) (n : Bool) (a : ByteArray) (s2 : Int) (k2 : ByteArray) (m2 : Bool) (b2 : ByteArray) (n2 : Bool) (a2 : ByteArray) (g1 g2 : Nat) (p t : Nat) (v : Value) (w : World) : Prop :=
  match t with
  | 6 => v = .agg #[.int .i64 s, .string k, .bool m, .string b, .bool n, .string a]
  | 7 => v = .bool false
  | 8 => v = .bool true
  | 9 => v = .bool true
  | 10 => v = undef
  | 11 => v = undef
  | 12 => v = undef
  | 13 => v = .bool true
  | 14 => v = .bool true
  | 15 => v = undef
  | 16 => v = undef
  | 17 => v = undef
  | 18 => v = undef
  | 19 => v = undef
  | 20 => v = .bool true
  | 21 => v = .bool true
  | 22 => v = undef
  | 23 => v = undef
  | 24 => v = undef
  | 25 => v = undef
  | 26 => v = undef
  | 27 => v = .bool true
  | 28 => v = .bool true
  | 29 => v = undef
  | 30 => v = undef
  | 31 => v = undef
  | 32 => v = undef
  | 33 => v = undef
  | 34 => v = .bool true
  | _ => True
theorem JnV0.on {s : Int} {k : ByteArray} {m : Bool} {b : ByteArray} {n : Bool} {a : ByteArray} {s2 : Int} {k2 : ByteArray} {m2 : Bool} {b2 : ByteArray} {n2 : Bool} {a2 : ByteArray} {g1 g2 : Nat} {p t : Nat} {v : Value} {w w' : World} (h : JnV0 s k m b n a s2 k2 m2 b2 n2 a2 g1 g2 p t v w) (hb : Below w.heap.size w w') : JnV0 s k m b n a s2 k2 m2 b2 n2 a2 g1 g2 p t v w' := by
  unfold JnV0 at *
  split at h <;> first | exact h

def JnV1 (s : Int) (k : ByteArray) (m : Bool) (b : ByteArray) (n : Bool) (a : ByteArray) (s2 : Int) (k2 : ByteArray) (m2 : Bool) (b2 : ByteArray) (n2 : Bool) (a2 : ByteArray) (g1 g2 : Nat) (p t : Nat) (v : Value) (w : World) : Prop :=
  match t with
  | 6 => v = .agg #[.int .i64 s, .string k, .bool m, .string b, .bool n, .string a]
  | 7 => v = .bool true
  | 8 => v = .bool false
  | 9 => v = .bool false
  | 10 => v = .agg #[.int .i64 s2, .string k2, .bool m2, .string b2, .bool n2, .string a2]
  | 11 => v = .bool false
  | 12 => v = .bool true
  | 13 => v = .bool true
  | 14 => v = .bool true
  | 15 => v = undef
  | 16 => v = undef
  | 17 => v = undef
  | 18 => v = undef
  | 19 => v = undef
  | 20 => v = .bool true
  | 21 => v = .bool true
  | 22 => v = undef
  | 23 => v = undef
  | 24 => v = undef
  | 25 => v = undef
  | 26 => v = undef
  | 27 => v = .bool true
  | 28 => v = .bool true
  | 29 => v = undef
  | 30 => v = undef
  | 31 => v = undef
  | 32 => v = undef
  | 33 => v = undef
  | 34 => v = .bool true
  | _ => True
theorem JnV1.on {s : Int} {k : ByteArray} {m : Bool} {b : ByteArray} {n : Bool} {a : ByteArray} {s2 : Int} {k2 : ByteArray} {m2 : Bool} {b2 : ByteArray} {n2 : Bool} {a2 : ByteArray} {g1 g2 : Nat} {p t : Nat} {v : Value} {w w' : World} (h : JnV1 s k m b n a s2 k2 m2 b2 n2 a2 g1 g2 p t v w) (hb : Below w.heap.size w w') : JnV1 s k m b n a s2 k2 m2 b2 n2 a2 g1 g2 p t v w' := by
  unfold JnV1 at *
  split at h <;> first | exact h

def JnV2 (s : Int) (k : ByteArray) (m : Bool) (b : ByteArray) (n : Bool) (a : ByteArray) (s2 : Int) (k2 : ByteArray) (m2 : Bool) (b2 : ByteArray) (n2 : Bool) (a2 : ByteArray) (g1 g2 : Nat) (p t : Nat) (v : Value) (w : World) : Prop :=
  match t with
  | 6 => v = .agg #[.int .i64 s, .string k, .bool m, .string b, .bool n, .string a]
  | 7 => v = .bool true
  | 8 => v = .bool false
  | 9 => v = .bool false
  | 10 => v = .agg #[.int .i64 s2, .string k2, .bool m2, .string b2, .bool n2, .string a2]
  | 11 => v = .bool true
  | 12 => v = .bool false
  | 13 => v = .bool false
  | 14 => v = .bool false
  | 15 => v = .pointer (some ⟨g1, 1, none⟩)
  | 16 => v = .string k
  | 17 => v = .pointer (some ⟨g2, 1, none⟩)
  | 18 => v = .string k2
  | 19 => v = .bool true
  | 20 => v = .bool true
  | 21 => v = .bool true
  | 22 => v = undef
  | 23 => v = undef
  | 24 => v = undef
  | 25 => v = undef
  | 26 => v = undef
  | 27 => v = .bool true
  | 28 => v = .bool true
  | 29 => v = undef
  | 30 => v = undef
  | 31 => v = undef
  | 32 => v = undef
  | 33 => v = undef
  | 34 => v = .bool true
  | _ => True
theorem JnV2.on {s : Int} {k : ByteArray} {m : Bool} {b : ByteArray} {n : Bool} {a : ByteArray} {s2 : Int} {k2 : ByteArray} {m2 : Bool} {b2 : ByteArray} {n2 : Bool} {a2 : ByteArray} {g1 g2 : Nat} {p t : Nat} {v : Value} {w w' : World} (h : JnV2 s k m b n a s2 k2 m2 b2 n2 a2 g1 g2 p t v w) (hb : Below w.heap.size w w') : JnV2 s k m b n a s2 k2 m2 b2 n2 a2 g1 g2 p t v w' := by
  unfold JnV2 at *
  split at h <;> first | exact h

def JnV3 (s : Int) (k : ByteArray) (m : Bool) (b : ByteArray) (n : Bool) (a : ByteArray) (s2 : Int) (k2 : ByteArray) (m2 : Bool) (b2 : ByteArray) (n2 : Bool) (a2 : ByteArray) (g1 g2 : Nat) (p t : Nat) (v : Value) (w : World) : Prop :=
  match t with
  | 6 => v = .agg #[.int .i64 s, .string k, .bool m, .string b, .bool n, .string a]
  | 7 => v = .bool true
  | 8 => v = .bool false
  | 9 => v = .bool false
  | 10 => v = .agg #[.int .i64 s2, .string k2, .bool m2, .string b2, .bool n2, .string a2]
  | 11 => v = .bool true
  | 12 => v = .bool false
  | 13 => v = .bool false
  | 14 => v = .bool false
  | 15 => v = .pointer (some ⟨g1, 1, none⟩)
  | 16 => v = .string k
  | 17 => v = .pointer (some ⟨g2, 1, none⟩)
  | 18 => v = .string k2
  | 19 => v = .bool false
  | 20 => v = .bool false
  | 21 => v = .bool false
  | 22 => v = .pointer (some ⟨g2, 0, none⟩)
  | 23 => v = .int .i64 s2
  | 24 => v = .pointer (some ⟨g1, 0, none⟩)
  | 25 => v = .int .i64 s
  | 26 => v = .bool true
  | 27 => v = .bool true
  | 28 => v = .bool true
  | 29 => v = undef
  | 30 => v = undef
  | 31 => v = undef
  | 32 => v = undef
  | 33 => v = undef
  | 34 => v = .bool true
  | _ => True
theorem JnV3.on {s : Int} {k : ByteArray} {m : Bool} {b : ByteArray} {n : Bool} {a : ByteArray} {s2 : Int} {k2 : ByteArray} {m2 : Bool} {b2 : ByteArray} {n2 : Bool} {a2 : ByteArray} {g1 g2 : Nat} {p t : Nat} {v : Value} {w w' : World} (h : JnV3 s k m b n a s2 k2 m2 b2 n2 a2 g1 g2 p t v w) (hb : Below w.heap.size w w') : JnV3 s k m b n a s2 k2 m2 b2 n2 a2 g1 g2 p t v w' := by
  unfold JnV3 at *
  split at h <;> first | exact h

def JnV4 (s : Int) (k : ByteArray) (m : Bool) (b : ByteArray) (n : Bool) (a : ByteArray) (s2 : Int) (k2 : ByteArray) (m2 : Bool) (b2 : ByteArray) (n2 : Bool) (a2 : ByteArray) (g1 g2 : Nat) (p t : Nat) (v : Value) (w : World) : Prop :=
  match t with
  | 6 => v = .agg #[.int .i64 s, .string k, .bool m, .string b, .bool n, .string a]
  | 7 => v = .bool true
  | 8 => v = .bool false
  | 9 => v = .bool false
  | 10 => v = .agg #[.int .i64 s2, .string k2, .bool m2, .string b2, .bool n2, .string a2]
  | 11 => v = .bool true
  | 12 => v = .bool false
  | 13 => v = .bool false
  | 14 => v = .bool false
  | 15 => v = .pointer (some ⟨g1, 1, none⟩)
  | 16 => v = .string k
  | 17 => v = .pointer (some ⟨g2, 1, none⟩)
  | 18 => v = .string k2
  | 19 => v = .bool false
  | 20 => v = .bool false
  | 21 => v = .bool false
  | 22 => v = .pointer (some ⟨g2, 0, none⟩)
  | 23 => v = .int .i64 s2
  | 24 => v = .pointer (some ⟨g1, 0, none⟩)
  | 25 => v = .int .i64 s
  | 26 => v = .bool false
  | 27 => v = .bool false
  | 28 => v = .bool false
  | 29 => v = .agg #[.int .i64 s, .string k, .bool m, .string b, .bool n, .string a]
  | 30 => v = .agg #[.bool n, .string a]
  | 31 => v = .agg #[.int .i64 s2, .string k2, .bool m2, .string b2, .bool n2, .string a2]
  | 32 => v = .agg #[.bool m2, .string b2]
  | 33 => v = .bool true
  | 34 => v = .bool true
  | _ => True
theorem JnV4.on {s : Int} {k : ByteArray} {m : Bool} {b : ByteArray} {n : Bool} {a : ByteArray} {s2 : Int} {k2 : ByteArray} {m2 : Bool} {b2 : ByteArray} {n2 : Bool} {a2 : ByteArray} {g1 g2 : Nat} {p t : Nat} {v : Value} {w w' : World} (h : JnV4 s k m b n a s2 k2 m2 b2 n2 a2 g1 g2 p t v w) (hb : Below w.heap.size w w') : JnV4 s k m b n a s2 k2 m2 b2 n2 a2 g1 g2 p t v w' := by
  unfold JnV4 at *
  split at h <;> first | exact h

def JnV5 (s : Int) (k : ByteArray) (m : Bool) (b : ByteArray) (n : Bool) (a : ByteArray) (s2 : Int) (k2 : ByteArray) (m2 : Bool) (b2 : ByteArray) (n2 : Bool) (a2 : ByteArray) (g1 g2 : Nat) (p t : Nat) (v : Value) (w : World) : Prop :=
  match t with
  | 6 => v = .agg #[.int .i64 s, .string k, .bool m, .string b, .bool n, .string a]
  | 7 => v = .bool true
  | 8 => v = .bool false
  | 9 => v = .bool false
  | 10 => v = .agg #[.int .i64 s2, .string k2, .bool m2, .string b2, .bool n2, .string a2]
  | 11 => v = .bool true
  | 12 => v = .bool false
  | 13 => v = .bool false
  | 14 => v = .bool false
  | 15 => v = .pointer (some ⟨g1, 1, none⟩)
  | 16 => v = .string k
  | 17 => v = .pointer (some ⟨g2, 1, none⟩)
  | 18 => v = .string k2
  | 19 => v = .bool false
  | 20 => v = .bool false
  | 21 => v = .bool false
  | 22 => v = .pointer (some ⟨g2, 0, none⟩)
  | 23 => v = .int .i64 s2
  | 24 => v = .pointer (some ⟨g1, 0, none⟩)
  | 25 => v = .int .i64 s
  | 26 => v = .bool false
  | 27 => v = .bool false
  | 28 => v = .bool false
  | 29 => v = .agg #[.int .i64 s, .string k, .bool m, .string b, .bool n, .string a]
  | 30 => v = .agg #[.bool n, .string a]
  | 31 => v = .agg #[.int .i64 s2, .string k2, .bool m2, .string b2, .bool n2, .string a2]
  | 32 => v = .agg #[.bool m2, .string b2]
  | 33 => v = .bool false
  | 34 => v = .bool false
  | _ => True
theorem JnV5.on {s : Int} {k : ByteArray} {m : Bool} {b : ByteArray} {n : Bool} {a : ByteArray} {s2 : Int} {k2 : ByteArray} {m2 : Bool} {b2 : ByteArray} {n2 : Bool} {a2 : ByteArray} {g1 g2 : Nat} {p t : Nat} {v : Value} {w w' : World} (h : JnV5 s k m b n a s2 k2 m2 b2 n2 a2 g1 g2 p t v w) (hb : Below w.heap.size w w') : JnV5 s k m b n a s2 k2 m2 b2 n2 a2 g1 g2 p t v w' := by
  unfold JnV5 at *
  split at h <;> first | exact h

def JnE (s : Int) (k : ByteArray) (m : Bool) (b : ByteArray) (n : Bool) (a : ByteArray) (s2 : Int) (k2 : ByteArray) (m2 : Bool) (b2 : ByteArray) (n2 : Bool) (a2 : ByteArray) (g1 g2 : Nat) (p t : Nat) (v : Value) (w : World) : Prop :=
  match t with
  | 45 => v = .pointer (some ⟨g2, 0, none⟩)
  | 46 => v = .int .i64 s2
  | 47 => v = .pointer (some ⟨g1, 1, none⟩)
  | 48 => v = .string k
  | 49 => v = .agg #[.int .i64 s, .string k, .bool m, .string b, .bool n, .string a]
  | 50 => v = .agg #[.bool m, .string b]
  | 51 => v = .agg #[.int .i64 s2, .string k2, .bool m2, .string b2, .bool n2, .string a2]
  | 52 => v = .agg #[.bool n2, .string a2]
  | 53 => v = .agg #[.int .i64 s2, .string k, .bool m, .string b, .bool n2, .string a2]
  | 5 => v = .int .i64 0
  | _ => True
theorem JnE.on {s : Int} {k : ByteArray} {m : Bool} {b : ByteArray} {n : Bool} {a : ByteArray} {s2 : Int} {k2 : ByteArray} {m2 : Bool} {b2 : ByteArray} {n2 : Bool} {a2 : ByteArray} {g1 g2 : Nat} {p t : Nat} {v : Value} {w w' : World} (h : JnE s k m b n a s2 k2 m2 b2 n2 a2 g1 g2 p t v w) (hb : Below w.heap.size w w') : JnE s k m b n a s2 k2 m2 b2 n2 a2 g1 g2 p t v w' := by
  unfold JnE at *
  split at h <;> first | exact h | exact NewB.on h hb

set_option maxRecDepth 100000 in
set_option maxHeartbeats 4000000 in
theorem join_w0 (s : Int) (k : ByteArray) (m : Bool) (b : ByteArray) (n : Bool) (a : ByteArray) (s2 : Int) (k2 : ByteArray) (m2 : Bool) (b2 : ByteArray) (n2 : Bool) (a2 : ByteArray) (w : World) (hm1 : mayC ⟨s, k, m, b, n, a⟩ = false) :
    Calls Try.prog 14 #[chV s k m b n a, chV s2 k2 m2 b2 n2 a2] w fun e w' => e = .returned (.tuple #[.agg #[.int .i64 0, .string ⟨#[]⟩, .bool false, .string ⟨#[]⟩, .bool false, .string ⟨#[]⟩], .int .i64 1]) ∧ Below w.heap.size w w' := by
  unfold chV
  have hc1 := fun w => may_any s k m b n a w
  rw [hm1] at hc1
  have HM1 := Lib.hid hc1
  clear hc1
  obtain ⟨w1, hw1⟩ : ∃ w1, w1 = w.alloc (.cells #[.int .i64 s, .string k, .bool m, .string b, .bool n, .string a] 27) := ⟨_, rfl⟩
  obtain ⟨w2, hw2⟩ : ∃ w2, w2 = w1.alloc (.cells #[.int .i64 s2, .string k2, .bool m2, .string b2, .bool n2, .string a2] 27) := ⟨_, rfl⟩
  obtain ⟨w3, hw3⟩ : ∃ w3, w3 = w2.alloc (.cells #[.int .i64 0, .string ⟨#[]⟩, .bool false, .string ⟨#[]⟩, .bool false, .string ⟨#[]⟩] 27) := ⟨_, rfl⟩
  obtain ⟨g1, hg1⟩ : ∃ q, q = w.heap.size := ⟨_, rfl⟩
  obtain ⟨g2, hg2⟩ : ∃ q, q = w1.heap.size := ⟨_, rfl⟩
  obtain ⟨q, hq⟩ : ∃ q, q = w2.heap.size := ⟨_, rfl⟩
  have e4 : g1 + 1 = g2 := by rw [hg2, hw1, hg1]; simp
  have e5 : g2 + 1 = q := by rw [hq, hw2, hg2]; simp
  have hbx : Box w3 g1 27 #[.int .i64 s, .string k, .bool m, .string b, .bool n, .string a] := by rw [hw3, hw2]; exact Box.push (Box.push (by rw [hw1]; exact Box.at_ w _ _ hg1) _) _
  have hby : Box w3 g2 27 #[.int .i64 s2, .string k2, .bool m2, .string b2, .bool n2, .string a2] := by rw [hw3]; exact Box.push (by rw [hw2]; exact Box.at_ w1 _ _ hg2) _
  have Q3 := Lib.hid (show Box w3 q 27 #[.int .i64 0, .string ⟨#[]⟩, .bool false, .string ⟨#[]⟩, .bool false, .string ⟨#[]⟩] from by rw [hw3]; exact Box.at_ w2 _ _ hq)
  have hb3 : Below w.heap.size w w3 := by rw [hw3, hw2, hw1]; exact (((Below.refl _ _).alloc (Nat.le_refl _) _).alloc (by simp) _).alloc (by simp; omega) _
  have HB3 := Lib.hid hb3
  have HQ := Lib.hid (show w.heap.size ≤ q from by omega)
  have HX := Lib.hid (show ∀ wx, Below w3.heap.size w3 wx → _ ∧ _ ∧ _ ∧ _ ∧ _ ∧ _ from fun wx hh => let hx := hbx.on hh; ⟨hx.cell 0 rfl, hx.cell 1 rfl, hx.cell 2 rfl, hx.cell 3 rfl, hx.cell 4 rfl, hx.cell 5 rfl⟩)
  have HY := Lib.hid (show ∀ wx, Below w3.heap.size w3 wx → _ ∧ _ ∧ _ ∧ _ ∧ _ ∧ _ from fun wx hh => let hx := hby.on hh; ⟨hx.cell 0 rfl, hx.cell 1 rfl, hx.cell 2 rfl, hx.cell 3 rfl, hx.cell 4 rfl, hx.cell 5 rfl⟩)
  clear hb3 hbx hby
  go_enter Try.func14, Try.ntmps14
  go_upto_region 1 with fail
  rw [← hg1, e4, ← hw1, ← hw2, e5, ← hw3]
  clear hg1 hg2 e4 e5 hw1 hw2 hw3 hq
  refine wp_region_phase 40 [6, 7, 8, 9, 10, 11, 12, 13, 14, 15, 16, 17, 18, 19, 20, 21, 22, 23, 24, 25, 26, 27, 28, 29, 30, 31, 32, 33, 34] (by kernel_rfl) [] [] (fun _ _ => True) 0 rfl (by kernel_rfl) ((fun _ wx => Below w3.heap.size w3 wx)) (fun wa wb => Below wa.heap.size wa wb) (JnV0 s k m b n a s2 k2 m2 b2 n2 a2 g1 g2) (by kernel_rfl) (fun _ wa wb h1 h2 => h2.trans (h1.mono h2.size)) (fun _ t v wa wb h1 h2 => h2.on h1) (fun _ _ _ _ _ _ _ => trivial) (Below.refl _ _).drew trivial (phase0 ?_) ?_
  · refine Steps1.cons (fun _ ax wx hS _ hG => ?_) (Steps1.cons (fun _ ax wx hS _ hG => ?_) (Steps1.cons (fun _ ax wx hS _ hG => ?_) (Steps1.cons (fun _ ax wx hS _ hG => ?_) (Steps1.cons (fun _ ax wx hS _ hG => ?_) (Steps1.cons (fun _ ax wx hS _ hG => ?_) (Steps1.cons (fun _ ax wx hS _ hG => ?_) (Steps1.cons (fun _ ax wx hS _ hG => ?_) (Steps1.cons (fun _ ax wx hS _ hG => ?_) (Steps1.cons (fun _ ax wx hS _ hG => ?_) (Steps1.cons (fun _ ax wx hS _ hG => ?_) (Steps1.cons (fun _ ax wx hS _ hG => ?_) (Steps1.cons (fun _ ax wx hS _ hG => ?_) (Steps1.cons (fun _ ax wx hS _ hG => ?_) (Steps1.cons (fun _ ax wx hS _ hG => ?_) (Steps1.cons (fun _ ax wx hS _ hG => ?_) (Steps1.cons (fun _ ax wx hS _ hG => ?_) (Steps1.cons (fun _ ax wx hS _ hG => ?_) (Steps1.cons (fun _ ax wx hS _ hG => ?_) (Steps1.cons (fun _ ax wx hS _ hG => ?_) (Steps1.cons (fun _ ax wx hS _ hG => ?_) (Steps1.cons (fun _ ax wx hS _ hG => ?_) (Steps1.cons (fun _ ax wx hS _ hG => ?_) (Steps1.cons (fun _ ax wx hS _ hG => ?_) (Steps1.cons (fun _ ax wx hS _ hG => ?_) (Steps1.cons (fun _ ax wx hS _ hG => ?_) (Steps1.cons (fun _ ax wx hS _ hG => ?_) (Steps1.cons (fun _ ax wx hS _ hG => ?_) (Steps1.cons (fun _ ax wx hS _ hG => ?_) Steps1.nil))))))))))))))))))))))))))))
    · have q2 := hG.old 2 (by kernel_rfl) (by kernel_rfl)
      obtain ⟨z0, z1, z2, z3, z4, z5⟩ := HX.out wx hS
      refine step_slot rfl rfl rfl (step_value (v := .agg #[.int .i64 s, .string k, .bool m, .string b, .bool n, .string a]) (w' := wx) rfl rfl ?_ (Below.refl _ _) (fun d hd => by cases hd; exact rfl))
      go_simp
    · obtain ⟨_, q6, rfl⟩ := hG.new 6 (by kernel_rfl) (by kernel_rfl)
      refine step_slot rfl rfl rfl (step_call (w1 := wx) (f := 31) (args := #[.agg #[.int .i64 s, .string k, .bool m, .string b, .bool n, .string a]]) rfl rfl ?_ ((HM1.out wx).mono ?_))
      · skip
        go_simp
      · rintro e w' ⟨rfl, hq⟩
        exact ⟨_, rfl, hq, fun d hd => by cases hd; exact rfl⟩
    · obtain ⟨_, q7, rfl⟩ := hG.new 7 (by kernel_rfl) (by kernel_rfl)
      refine step_slot rfl rfl rfl (step_value (v := .bool true) (w' := wx) rfl rfl ?_ (Below.refl _ _) (fun d hd => by cases hd; exact rfl))
      go_simp
    · obtain ⟨_, q8, rfl⟩ := hG.new 8 (by kernel_rfl) (by kernel_rfl)
      refine step_slot rfl rfl rfl (step_value (v := .bool true) (w' := wx) rfl rfl ?_ (Below.refl _ _) (fun d hd => by cases hd; exact rfl))
      go_simp
    · obtain ⟨_, q9, rfl⟩ := hG.new 9 (by kernel_rfl) (by kernel_rfl)
      refine step_slot rfl rfl rfl (step_past rfl (by simp [Region.wanted, yielded, q9, undef]) (Below.refl _ _) (fun d hd => by cases hd; exact rfl))
    · obtain ⟨_, q9, rfl⟩ := hG.new 9 (by kernel_rfl) (by kernel_rfl)
      refine step_slot rfl rfl rfl (step_past rfl (by simp [Region.wanted, yielded, q9, undef]) (Below.refl _ _) (fun d hd => by cases hd; exact rfl))
    · obtain ⟨_, q9, rfl⟩ := hG.new 9 (by kernel_rfl) (by kernel_rfl)
      refine step_slot rfl rfl rfl (step_past rfl (by simp [Region.wanted, yielded, q9, undef]) (Below.refl _ _) (fun d hd => by cases hd; exact rfl))
    · obtain ⟨_, q9, rfl⟩ := hG.new 9 (by kernel_rfl) (by kernel_rfl)
      obtain ⟨_, q12, rfl⟩ := hG.new 12 (by kernel_rfl) (by kernel_rfl)
      refine step_slot rfl rfl rfl (step_value (v := .bool true) (w' := wx) rfl rfl ?_ (Below.refl _ _) (fun d hd => by cases hd; exact rfl))
      go_simp
    · obtain ⟨_, q13, rfl⟩ := hG.new 13 (by kernel_rfl) (by kernel_rfl)
      refine step_slot rfl rfl rfl (step_value (v := .bool true) (w' := wx) rfl rfl ?_ (Below.refl _ _) (fun d hd => by cases hd; exact rfl))
      go_simp
    · obtain ⟨_, q14, rfl⟩ := hG.new 14 (by kernel_rfl) (by kernel_rfl)
      refine step_slot rfl rfl rfl (step_past rfl (by simp [Region.wanted, yielded, q14, undef]) (Below.refl _ _) (fun d hd => by cases hd; exact rfl))
    · obtain ⟨_, q14, rfl⟩ := hG.new 14 (by kernel_rfl) (by kernel_rfl)
      refine step_slot rfl rfl rfl (step_past rfl (by simp [Region.wanted, yielded, q14, undef]) (Below.refl _ _) (fun d hd => by cases hd; exact rfl))
    · obtain ⟨_, q14, rfl⟩ := hG.new 14 (by kernel_rfl) (by kernel_rfl)
      refine step_slot rfl rfl rfl (step_past rfl (by simp [Region.wanted, yielded, q14, undef]) (Below.refl _ _) (fun d hd => by cases hd; exact rfl))
    · obtain ⟨_, q14, rfl⟩ := hG.new 14 (by kernel_rfl) (by kernel_rfl)
      refine step_slot rfl rfl rfl (step_past rfl (by simp [Region.wanted, yielded, q14, undef]) (Below.refl _ _) (fun d hd => by cases hd; exact rfl))
    · obtain ⟨_, q14, rfl⟩ := hG.new 14 (by kernel_rfl) (by kernel_rfl)
      refine step_slot rfl rfl rfl (step_past rfl (by simp [Region.wanted, yielded, q14, undef]) (Below.refl _ _) (fun d hd => by cases hd; exact rfl))
    · obtain ⟨_, q14, rfl⟩ := hG.new 14 (by kernel_rfl) (by kernel_rfl)
      obtain ⟨_, q19, rfl⟩ := hG.new 19 (by kernel_rfl) (by kernel_rfl)
      refine step_slot rfl rfl rfl (step_value (v := .bool true) (w' := wx) rfl rfl ?_ (Below.refl _ _) (fun d hd => by cases hd; exact rfl))
      go_simp
    · obtain ⟨_, q20, rfl⟩ := hG.new 20 (by kernel_rfl) (by kernel_rfl)
      refine step_slot rfl rfl rfl (step_value (v := .bool true) (w' := wx) rfl rfl ?_ (Below.refl _ _) (fun d hd => by cases hd; exact rfl))
      go_simp
    · obtain ⟨_, q21, rfl⟩ := hG.new 21 (by kernel_rfl) (by kernel_rfl)
      refine step_slot rfl rfl rfl (step_past rfl (by simp [Region.wanted, yielded, q21, undef]) (Below.refl _ _) (fun d hd => by cases hd; exact rfl))
    · obtain ⟨_, q21, rfl⟩ := hG.new 21 (by kernel_rfl) (by kernel_rfl)
      refine step_slot rfl rfl rfl (step_past rfl (by simp [Region.wanted, yielded, q21, undef]) (Below.refl _ _) (fun d hd => by cases hd; exact rfl))
    · obtain ⟨_, q21, rfl⟩ := hG.new 21 (by kernel_rfl) (by kernel_rfl)
      refine step_slot rfl rfl rfl (step_past rfl (by simp [Region.wanted, yielded, q21, undef]) (Below.refl _ _) (fun d hd => by cases hd; exact rfl))
    · obtain ⟨_, q21, rfl⟩ := hG.new 21 (by kernel_rfl) (by kernel_rfl)
      refine step_slot rfl rfl rfl (step_past rfl (by simp [Region.wanted, yielded, q21, undef]) (Below.refl _ _) (fun d hd => by cases hd; exact rfl))
    · obtain ⟨_, q21, rfl⟩ := hG.new 21 (by kernel_rfl) (by kernel_rfl)
      refine step_slot rfl rfl rfl (step_past rfl (by simp [Region.wanted, yielded, q21, undef]) (Below.refl _ _) (fun d hd => by cases hd; exact rfl))
    · obtain ⟨_, q21, rfl⟩ := hG.new 21 (by kernel_rfl) (by kernel_rfl)
      obtain ⟨_, q26, rfl⟩ := hG.new 26 (by kernel_rfl) (by kernel_rfl)
      refine step_slot rfl rfl rfl (step_value (v := .bool true) (w' := wx) rfl rfl ?_ (Below.refl _ _) (fun d hd => by cases hd; exact rfl))
      go_simp
    · obtain ⟨_, q27, rfl⟩ := hG.new 27 (by kernel_rfl) (by kernel_rfl)
      refine step_slot rfl rfl rfl (step_value (v := .bool true) (w' := wx) rfl rfl ?_ (Below.refl _ _) (fun d hd => by cases hd; exact rfl))
      go_simp
    · obtain ⟨_, q28, rfl⟩ := hG.new 28 (by kernel_rfl) (by kernel_rfl)
      refine step_slot rfl rfl rfl (step_past rfl (by simp [Region.wanted, yielded, q28, undef]) (Below.refl _ _) (fun d hd => by cases hd; exact rfl))
    · obtain ⟨_, q28, rfl⟩ := hG.new 28 (by kernel_rfl) (by kernel_rfl)
      refine step_slot rfl rfl rfl (step_past rfl (by simp [Region.wanted, yielded, q28, undef]) (Below.refl _ _) (fun d hd => by cases hd; exact rfl))
    · obtain ⟨_, q28, rfl⟩ := hG.new 28 (by kernel_rfl) (by kernel_rfl)
      refine step_slot rfl rfl rfl (step_past rfl (by simp [Region.wanted, yielded, q28, undef]) (Below.refl _ _) (fun d hd => by cases hd; exact rfl))
    · obtain ⟨_, q28, rfl⟩ := hG.new 28 (by kernel_rfl) (by kernel_rfl)
      refine step_slot rfl rfl rfl (step_past rfl (by simp [Region.wanted, yielded, q28, undef]) (Below.refl _ _) (fun d hd => by cases hd; exact rfl))
    · obtain ⟨_, q28, rfl⟩ := hG.new 28 (by kernel_rfl) (by kernel_rfl)
      refine step_slot rfl rfl rfl (step_past rfl (by simp [Region.wanted, yielded, q28, undef]) (Below.refl _ _) (fun d hd => by cases hd; exact rfl))
    · obtain ⟨_, q28, rfl⟩ := hG.new 28 (by kernel_rfl) (by kernel_rfl)
      obtain ⟨_, q33, rfl⟩ := hG.new 33 (by kernel_rfl) (by kernel_rfl)
      refine step_slot rfl rfl rfl (step_value (v := .bool true) (w' := wx) rfl rfl ?_ (Below.refl _ _) (fun d hd => by cases hd; exact rfl))
      go_simp
  intro fv w8 hS8 _ hV8
  have e34 : fv 34 = .bool true := hV8 34 (by decide)
  simp only [puts, Act.put, List.setIfInBounds_toArray, List.set_cons_succ, List.set_cons_zero]
  clear hV8
  rw [e34]
  obtain ⟨u0, u1, u2, u3, u4, u5⟩ : _ ∧ _ ∧ _ ∧ _ ∧ _ ∧ _ := HX.out w8 hS8
  obtain ⟨y0, y1, y2, y3, y4, y5⟩ : _ ∧ _ ∧ _ ∧ _ ∧ _ ∧ _ := HY.out w8 hS8
  have Q8 := Lib.hid (Q3.out.on hS8)
  have HB8 := Lib.hid (HB3.out.trans ((show Below w3.heap.size w3 w8 from hS8).mono HB3.out.size))
  obtain ⟨j0, j1, j2, j3, j4, j5⟩ := (⟨Box.free Q8.out 0, Box.free Q8.out 1, Box.free Q8.out 2, Box.free Q8.out 3, Box.free Q8.out 4, Box.free Q8.out 5⟩ : _ ∧ _ ∧ _ ∧ _ ∧ _ ∧ _)
  obtain ⟨m0, m1, x2, m3, m4, m5⟩ := (⟨Box.cell Q8.out 0 rfl, Box.cell Q8.out 1 rfl, Box.cell Q8.out 2 rfl, Box.cell Q8.out 3 rfl, Box.cell Q8.out 4 rfl, Box.cell Q8.out 5 rfl⟩ : _ ∧ _ ∧ _ ∧ _ ∧ _ ∧ _)
  clear hS8
  go_wp2
  obtain ⟨wz, hz⟩ : ∃ wz, wz = ((((((w8.setCell ⟨q, 0, none⟩ (.int .i64 0)).setCell ⟨q, 1, none⟩ (.string ⟨#[]⟩)).setCell ⟨q, 2, none⟩ (.bool false)).setCell ⟨q, 3, none⟩ (.string ⟨#[]⟩)).setCell ⟨q, 4, none⟩ (.bool false)).setCell ⟨q, 5, none⟩ (.string ⟨#[]⟩)) := ⟨_, rfl⟩
  rw [← hz]
  have hqz : Box wz q 27 #[.int .i64 0, .string ⟨#[]⟩, .bool false, .string ⟨#[]⟩, .bool false, .string ⟨#[]⟩] := by rw [hz]; exact ((((((Box.set Q8.out 0 _).set 1 _).set 2 _).set 3 _).set 4 _).set 5 _)
  have hbz : Below w.heap.size w wz := by rw [hz]; exact ((((((HB8.out.setCell (p := ⟨q, 0, none⟩) HQ.out _).setCell (p := ⟨q, 1, none⟩) HQ.out _).setCell (p := ⟨q, 2, none⟩) HQ.out _).setCell (p := ⟨q, 3, none⟩) HQ.out _).setCell (p := ⟨q, 4, none⟩) HQ.out _).setCell (p := ⟨q, 5, none⟩) HQ.out _)
  obtain ⟨p0, p1, p2, p3, p4, p5⟩ : _ ∧ _ ∧ _ ∧ _ ∧ _ ∧ _ := ⟨hqz.cell 0 rfl, hqz.cell 1 rfl, hqz.cell 2 rfl, hqz.cell 3 rfl, hqz.cell 4 rfl, hqz.cell 5 rfl⟩
  clear hz j0 j1 j2 j3 j4 j5 m0 m1 x2 m3 m4 m5
  exact bodyPost_ret (v := .tuple #[.agg #[.int .i64 0, .string ⟨#[]⟩, .bool false, .string ⟨#[]⟩, .bool false, .string ⟨#[]⟩], .int .i64 1]) (by simp [results, Try.results14, go_sem, p0, p1, p2, p3, p4, p5]) rfl ⟨rfl, hbz⟩

set_option maxRecDepth 100000 in
set_option maxHeartbeats 4000000 in
theorem join_w1 (s : Int) (k : ByteArray) (m : Bool) (b : ByteArray) (n : Bool) (a : ByteArray) (s2 : Int) (k2 : ByteArray) (m2 : Bool) (b2 : ByteArray) (n2 : Bool) (a2 : ByteArray) (w : World) (hm1 : mayC ⟨s, k, m, b, n, a⟩ = true) (hm2 : mayC ⟨s2, k2, m2, b2, n2, a2⟩ = false) :
    Calls Try.prog 14 #[chV s k m b n a, chV s2 k2 m2 b2 n2 a2] w fun e w' => e = .returned (.tuple #[.agg #[.int .i64 0, .string ⟨#[]⟩, .bool false, .string ⟨#[]⟩, .bool false, .string ⟨#[]⟩], .int .i64 1]) ∧ Below w.heap.size w w' := by
  unfold chV
  have hc1 := fun w => may_any s k m b n a w
  rw [hm1] at hc1
  have HM1 := Lib.hid hc1
  clear hc1
  have hc2 := fun w => may_any s2 k2 m2 b2 n2 a2 w
  rw [hm2] at hc2
  have HM2 := Lib.hid hc2
  clear hc2
  obtain ⟨w1, hw1⟩ : ∃ w1, w1 = w.alloc (.cells #[.int .i64 s, .string k, .bool m, .string b, .bool n, .string a] 27) := ⟨_, rfl⟩
  obtain ⟨w2, hw2⟩ : ∃ w2, w2 = w1.alloc (.cells #[.int .i64 s2, .string k2, .bool m2, .string b2, .bool n2, .string a2] 27) := ⟨_, rfl⟩
  obtain ⟨w3, hw3⟩ : ∃ w3, w3 = w2.alloc (.cells #[.int .i64 0, .string ⟨#[]⟩, .bool false, .string ⟨#[]⟩, .bool false, .string ⟨#[]⟩] 27) := ⟨_, rfl⟩
  obtain ⟨g1, hg1⟩ : ∃ q, q = w.heap.size := ⟨_, rfl⟩
  obtain ⟨g2, hg2⟩ : ∃ q, q = w1.heap.size := ⟨_, rfl⟩
  obtain ⟨q, hq⟩ : ∃ q, q = w2.heap.size := ⟨_, rfl⟩
  have e4 : g1 + 1 = g2 := by rw [hg2, hw1, hg1]; simp
  have e5 : g2 + 1 = q := by rw [hq, hw2, hg2]; simp
  have hbx : Box w3 g1 27 #[.int .i64 s, .string k, .bool m, .string b, .bool n, .string a] := by rw [hw3, hw2]; exact Box.push (Box.push (by rw [hw1]; exact Box.at_ w _ _ hg1) _) _
  have hby : Box w3 g2 27 #[.int .i64 s2, .string k2, .bool m2, .string b2, .bool n2, .string a2] := by rw [hw3]; exact Box.push (by rw [hw2]; exact Box.at_ w1 _ _ hg2) _
  have Q3 := Lib.hid (show Box w3 q 27 #[.int .i64 0, .string ⟨#[]⟩, .bool false, .string ⟨#[]⟩, .bool false, .string ⟨#[]⟩] from by rw [hw3]; exact Box.at_ w2 _ _ hq)
  have hb3 : Below w.heap.size w w3 := by rw [hw3, hw2, hw1]; exact (((Below.refl _ _).alloc (Nat.le_refl _) _).alloc (by simp) _).alloc (by simp; omega) _
  have HB3 := Lib.hid hb3
  have HQ := Lib.hid (show w.heap.size ≤ q from by omega)
  have HX := Lib.hid (show ∀ wx, Below w3.heap.size w3 wx → _ ∧ _ ∧ _ ∧ _ ∧ _ ∧ _ from fun wx hh => let hx := hbx.on hh; ⟨hx.cell 0 rfl, hx.cell 1 rfl, hx.cell 2 rfl, hx.cell 3 rfl, hx.cell 4 rfl, hx.cell 5 rfl⟩)
  have HY := Lib.hid (show ∀ wx, Below w3.heap.size w3 wx → _ ∧ _ ∧ _ ∧ _ ∧ _ ∧ _ from fun wx hh => let hx := hby.on hh; ⟨hx.cell 0 rfl, hx.cell 1 rfl, hx.cell 2 rfl, hx.cell 3 rfl, hx.cell 4 rfl, hx.cell 5 rfl⟩)
  clear hb3 hbx hby
  go_enter Try.func14, Try.ntmps14
  go_upto_region 1 with fail
  rw [← hg1, e4, ← hw1, ← hw2, e5, ← hw3]
  clear hg1 hg2 e4 e5 hw1 hw2 hw3 hq
  refine wp_region_phase 40 [6, 7, 8, 9, 10, 11, 12, 13, 14, 15, 16, 17, 18, 19, 20, 21, 22, 23, 24, 25, 26, 27, 28, 29, 30, 31, 32, 33, 34] (by kernel_rfl) [] [] (fun _ _ => True) 0 rfl (by kernel_rfl) ((fun _ wx => Below w3.heap.size w3 wx)) (fun wa wb => Below wa.heap.size wa wb) (JnV1 s k m b n a s2 k2 m2 b2 n2 a2 g1 g2) (by kernel_rfl) (fun _ wa wb h1 h2 => h2.trans (h1.mono h2.size)) (fun _ t v wa wb h1 h2 => h2.on h1) (fun _ _ _ _ _ _ _ => trivial) (Below.refl _ _).drew trivial (phase0 ?_) ?_
  · refine Steps1.cons (fun _ ax wx hS _ hG => ?_) (Steps1.cons (fun _ ax wx hS _ hG => ?_) (Steps1.cons (fun _ ax wx hS _ hG => ?_) (Steps1.cons (fun _ ax wx hS _ hG => ?_) (Steps1.cons (fun _ ax wx hS _ hG => ?_) (Steps1.cons (fun _ ax wx hS _ hG => ?_) (Steps1.cons (fun _ ax wx hS _ hG => ?_) (Steps1.cons (fun _ ax wx hS _ hG => ?_) (Steps1.cons (fun _ ax wx hS _ hG => ?_) (Steps1.cons (fun _ ax wx hS _ hG => ?_) (Steps1.cons (fun _ ax wx hS _ hG => ?_) (Steps1.cons (fun _ ax wx hS _ hG => ?_) (Steps1.cons (fun _ ax wx hS _ hG => ?_) (Steps1.cons (fun _ ax wx hS _ hG => ?_) (Steps1.cons (fun _ ax wx hS _ hG => ?_) (Steps1.cons (fun _ ax wx hS _ hG => ?_) (Steps1.cons (fun _ ax wx hS _ hG => ?_) (Steps1.cons (fun _ ax wx hS _ hG => ?_) (Steps1.cons (fun _ ax wx hS _ hG => ?_) (Steps1.cons (fun _ ax wx hS _ hG => ?_) (Steps1.cons (fun _ ax wx hS _ hG => ?_) (Steps1.cons (fun _ ax wx hS _ hG => ?_) (Steps1.cons (fun _ ax wx hS _ hG => ?_) (Steps1.cons (fun _ ax wx hS _ hG => ?_) (Steps1.cons (fun _ ax wx hS _ hG => ?_) (Steps1.cons (fun _ ax wx hS _ hG => ?_) (Steps1.cons (fun _ ax wx hS _ hG => ?_) (Steps1.cons (fun _ ax wx hS _ hG => ?_) (Steps1.cons (fun _ ax wx hS _ hG => ?_) Steps1.nil))))))))))))))))))))))))))))
    · have q2 := hG.old 2 (by kernel_rfl) (by kernel_rfl)
      obtain ⟨z0, z1, z2, z3, z4, z5⟩ := HX.out wx hS
      refine step_slot rfl rfl rfl (step_value (v := .agg #[.int .i64 s, .string k, .bool m, .string b, .bool n, .string a]) (w' := wx) rfl rfl ?_ (Below.refl _ _) (fun d hd => by cases hd; exact rfl))
      go_simp
    · obtain ⟨_, q6, rfl⟩ := hG.new 6 (by kernel_rfl) (by kernel_rfl)
      refine step_slot rfl rfl rfl (step_call (w1 := wx) (f := 31) (args := #[.agg #[.int .i64 s, .string k, .bool m, .string b, .bool n, .string a]]) rfl rfl ?_ ((HM1.out wx).mono ?_))
      · skip
        go_simp
      · rintro e w' ⟨rfl, hq⟩
        exact ⟨_, rfl, hq, fun d hd => by cases hd; exact rfl⟩
    · obtain ⟨_, q7, rfl⟩ := hG.new 7 (by kernel_rfl) (by kernel_rfl)
      refine step_slot rfl rfl rfl (step_value (v := .bool false) (w' := wx) rfl rfl ?_ (Below.refl _ _) (fun d hd => by cases hd; exact rfl))
      go_simp
    · obtain ⟨_, q8, rfl⟩ := hG.new 8 (by kernel_rfl) (by kernel_rfl)
      refine step_slot rfl rfl rfl (step_value (v := .bool false) (w' := wx) rfl rfl ?_ (Below.refl _ _) (fun d hd => by cases hd; exact rfl))
      go_simp
    · obtain ⟨_, q9, rfl⟩ := hG.new 9 (by kernel_rfl) (by kernel_rfl)
      have q3 := hG.old 3 (by kernel_rfl) (by kernel_rfl)
      obtain ⟨z0, z1, z2, z3, z4, z5⟩ := HY.out wx hS
      refine step_slot rfl rfl rfl (step_value (v := .agg #[.int .i64 s2, .string k2, .bool m2, .string b2, .bool n2, .string a2]) (w' := wx) rfl (by simp [Region.wanted, yielded, q9, undef]) ?_ (Below.refl _ _) (fun d hd => by cases hd; exact rfl))
      go_simp
    · obtain ⟨_, q9, rfl⟩ := hG.new 9 (by kernel_rfl) (by kernel_rfl)
      obtain ⟨_, q10, rfl⟩ := hG.new 10 (by kernel_rfl) (by kernel_rfl)
      refine step_slot rfl rfl rfl (step_call (w1 := wx) (f := 31) (args := #[.agg #[.int .i64 s2, .string k2, .bool m2, .string b2, .bool n2, .string a2]]) rfl (by simp [Region.wanted, yielded, q9, undef]) ?_ ((HM2.out wx).mono ?_))
      · skip
        go_simp
      · rintro e w' ⟨rfl, hq⟩
        exact ⟨_, rfl, hq, fun d hd => by cases hd; exact rfl⟩
    · obtain ⟨_, q9, rfl⟩ := hG.new 9 (by kernel_rfl) (by kernel_rfl)
      obtain ⟨_, q11, rfl⟩ := hG.new 11 (by kernel_rfl) (by kernel_rfl)
      refine step_slot rfl rfl rfl (step_value (v := .bool true) (w' := wx) rfl (by simp [Region.wanted, yielded, q9, undef]) ?_ (Below.refl _ _) (fun d hd => by cases hd; exact rfl))
      go_simp
    · obtain ⟨_, q9, rfl⟩ := hG.new 9 (by kernel_rfl) (by kernel_rfl)
      obtain ⟨_, q12, rfl⟩ := hG.new 12 (by kernel_rfl) (by kernel_rfl)
      refine step_slot rfl rfl rfl (step_value (v := .bool true) (w' := wx) rfl rfl ?_ (Below.refl _ _) (fun d hd => by cases hd; exact rfl))
      go_simp
    · obtain ⟨_, q13, rfl⟩ := hG.new 13 (by kernel_rfl) (by kernel_rfl)
      refine step_slot rfl rfl rfl (step_value (v := .bool true) (w' := wx) rfl rfl ?_ (Below.refl _ _) (fun d hd => by cases hd; exact rfl))
      go_simp
    · obtain ⟨_, q14, rfl⟩ := hG.new 14 (by kernel_rfl) (by kernel_rfl)
      refine step_slot rfl rfl rfl (step_past rfl (by simp [Region.wanted, yielded, q14, undef]) (Below.refl _ _) (fun d hd => by cases hd; exact rfl))
    · obtain ⟨_, q14, rfl⟩ := hG.new 14 (by kernel_rfl) (by kernel_rfl)
      refine step_slot rfl rfl rfl (step_past rfl (by simp [Region.wanted, yielded, q14, undef]) (Below.refl _ _) (fun d hd => by cases hd; exact rfl))
    · obtain ⟨_, q14, rfl⟩ := hG.new 14 (by kernel_rfl) (by kernel_rfl)
      refine step_slot rfl rfl rfl (step_past rfl (by simp [Region.wanted, yielded, q14, undef]) (Below.refl _ _) (fun d hd => by cases hd; exact rfl))
    · obtain ⟨_, q14, rfl⟩ := hG.new 14 (by kernel_rfl) (by kernel_rfl)
      refine step_slot rfl rfl rfl (step_past rfl (by simp [Region.wanted, yielded, q14, undef]) (Below.refl _ _) (fun d hd => by cases hd; exact rfl))
    · obtain ⟨_, q14, rfl⟩ := hG.new 14 (by kernel_rfl) (by kernel_rfl)
      refine step_slot rfl rfl rfl (step_past rfl (by simp [Region.wanted, yielded, q14, undef]) (Below.refl _ _) (fun d hd => by cases hd; exact rfl))
    · obtain ⟨_, q14, rfl⟩ := hG.new 14 (by kernel_rfl) (by kernel_rfl)
      obtain ⟨_, q19, rfl⟩ := hG.new 19 (by kernel_rfl) (by kernel_rfl)
      refine step_slot rfl rfl rfl (step_value (v := .bool true) (w' := wx) rfl rfl ?_ (Below.refl _ _) (fun d hd => by cases hd; exact rfl))
      go_simp
    · obtain ⟨_, q20, rfl⟩ := hG.new 20 (by kernel_rfl) (by kernel_rfl)
      refine step_slot rfl rfl rfl (step_value (v := .bool true) (w' := wx) rfl rfl ?_ (Below.refl _ _) (fun d hd => by cases hd; exact rfl))
      go_simp
    · obtain ⟨_, q21, rfl⟩ := hG.new 21 (by kernel_rfl) (by kernel_rfl)
      refine step_slot rfl rfl rfl (step_past rfl (by simp [Region.wanted, yielded, q21, undef]) (Below.refl _ _) (fun d hd => by cases hd; exact rfl))
    · obtain ⟨_, q21, rfl⟩ := hG.new 21 (by kernel_rfl) (by kernel_rfl)
      refine step_slot rfl rfl rfl (step_past rfl (by simp [Region.wanted, yielded, q21, undef]) (Below.refl _ _) (fun d hd => by cases hd; exact rfl))
    · obtain ⟨_, q21, rfl⟩ := hG.new 21 (by kernel_rfl) (by kernel_rfl)
      refine step_slot rfl rfl rfl (step_past rfl (by simp [Region.wanted, yielded, q21, undef]) (Below.refl _ _) (fun d hd => by cases hd; exact rfl))
    · obtain ⟨_, q21, rfl⟩ := hG.new 21 (by kernel_rfl) (by kernel_rfl)
      refine step_slot rfl rfl rfl (step_past rfl (by simp [Region.wanted, yielded, q21, undef]) (Below.refl _ _) (fun d hd => by cases hd; exact rfl))
    · obtain ⟨_, q21, rfl⟩ := hG.new 21 (by kernel_rfl) (by kernel_rfl)
      refine step_slot rfl rfl rfl (step_past rfl (by simp [Region.wanted, yielded, q21, undef]) (Below.refl _ _) (fun d hd => by cases hd; exact rfl))
    · obtain ⟨_, q21, rfl⟩ := hG.new 21 (by kernel_rfl) (by kernel_rfl)
      obtain ⟨_, q26, rfl⟩ := hG.new 26 (by kernel_rfl) (by kernel_rfl)
      refine step_slot rfl rfl rfl (step_value (v := .bool true) (w' := wx) rfl rfl ?_ (Below.refl _ _) (fun d hd => by cases hd; exact rfl))
      go_simp
    · obtain ⟨_, q27, rfl⟩ := hG.new 27 (by kernel_rfl) (by kernel_rfl)
      refine step_slot rfl rfl rfl (step_value (v := .bool true) (w' := wx) rfl rfl ?_ (Below.refl _ _) (fun d hd => by cases hd; exact rfl))
      go_simp
    · obtain ⟨_, q28, rfl⟩ := hG.new 28 (by kernel_rfl) (by kernel_rfl)
      refine step_slot rfl rfl rfl (step_past rfl (by simp [Region.wanted, yielded, q28, undef]) (Below.refl _ _) (fun d hd => by cases hd; exact rfl))
    · obtain ⟨_, q28, rfl⟩ := hG.new 28 (by kernel_rfl) (by kernel_rfl)
      refine step_slot rfl rfl rfl (step_past rfl (by simp [Region.wanted, yielded, q28, undef]) (Below.refl _ _) (fun d hd => by cases hd; exact rfl))
    · obtain ⟨_, q28, rfl⟩ := hG.new 28 (by kernel_rfl) (by kernel_rfl)
      refine step_slot rfl rfl rfl (step_past rfl (by simp [Region.wanted, yielded, q28, undef]) (Below.refl _ _) (fun d hd => by cases hd; exact rfl))
    · obtain ⟨_, q28, rfl⟩ := hG.new 28 (by kernel_rfl) (by kernel_rfl)
      refine step_slot rfl rfl rfl (step_past rfl (by simp [Region.wanted, yielded, q28, undef]) (Below.refl _ _) (fun d hd => by cases hd; exact rfl))
    · obtain ⟨_, q28, rfl⟩ := hG.new 28 (by kernel_rfl) (by kernel_rfl)
      refine step_slot rfl rfl rfl (step_past rfl (by simp [Region.wanted, yielded, q28, undef]) (Below.refl _ _) (fun d hd => by cases hd; exact rfl))
    · obtain ⟨_, q28, rfl⟩ := hG.new 28 (by kernel_rfl) (by kernel_rfl)
      obtain ⟨_, q33, rfl⟩ := hG.new 33 (by kernel_rfl) (by kernel_rfl)
      refine step_slot rfl rfl rfl (step_value (v := .bool true) (w' := wx) rfl rfl ?_ (Below.refl _ _) (fun d hd => by cases hd; exact rfl))
      go_simp
  intro fv w8 hS8 _ hV8
  have e34 : fv 34 = .bool true := hV8 34 (by decide)
  simp only [puts, Act.put, List.setIfInBounds_toArray, List.set_cons_succ, List.set_cons_zero]
  clear hV8
  rw [e34]
  obtain ⟨u0, u1, u2, u3, u4, u5⟩ : _ ∧ _ ∧ _ ∧ _ ∧ _ ∧ _ := HX.out w8 hS8
  obtain ⟨y0, y1, y2, y3, y4, y5⟩ : _ ∧ _ ∧ _ ∧ _ ∧ _ ∧ _ := HY.out w8 hS8
  have Q8 := Lib.hid (Q3.out.on hS8)
  have HB8 := Lib.hid (HB3.out.trans ((show Below w3.heap.size w3 w8 from hS8).mono HB3.out.size))
  obtain ⟨j0, j1, j2, j3, j4, j5⟩ := (⟨Box.free Q8.out 0, Box.free Q8.out 1, Box.free Q8.out 2, Box.free Q8.out 3, Box.free Q8.out 4, Box.free Q8.out 5⟩ : _ ∧ _ ∧ _ ∧ _ ∧ _ ∧ _)
  obtain ⟨m0, m1, x2, m3, m4, m5⟩ := (⟨Box.cell Q8.out 0 rfl, Box.cell Q8.out 1 rfl, Box.cell Q8.out 2 rfl, Box.cell Q8.out 3 rfl, Box.cell Q8.out 4 rfl, Box.cell Q8.out 5 rfl⟩ : _ ∧ _ ∧ _ ∧ _ ∧ _ ∧ _)
  clear hS8
  go_wp2
  obtain ⟨wz, hz⟩ : ∃ wz, wz = ((((((w8.setCell ⟨q, 0, none⟩ (.int .i64 0)).setCell ⟨q, 1, none⟩ (.string ⟨#[]⟩)).setCell ⟨q, 2, none⟩ (.bool false)).setCell ⟨q, 3, none⟩ (.string ⟨#[]⟩)).setCell ⟨q, 4, none⟩ (.bool false)).setCell ⟨q, 5, none⟩ (.string ⟨#[]⟩)) := ⟨_, rfl⟩
  rw [← hz]
  have hqz : Box wz q 27 #[.int .i64 0, .string ⟨#[]⟩, .bool false, .string ⟨#[]⟩, .bool false, .string ⟨#[]⟩] := by rw [hz]; exact ((((((Box.set Q8.out 0 _).set 1 _).set 2 _).set 3 _).set 4 _).set 5 _)
  have hbz : Below w.heap.size w wz := by rw [hz]; exact ((((((HB8.out.setCell (p := ⟨q, 0, none⟩) HQ.out _).setCell (p := ⟨q, 1, none⟩) HQ.out _).setCell (p := ⟨q, 2, none⟩) HQ.out _).setCell (p := ⟨q, 3, none⟩) HQ.out _).setCell (p := ⟨q, 4, none⟩) HQ.out _).setCell (p := ⟨q, 5, none⟩) HQ.out _)
  obtain ⟨p0, p1, p2, p3, p4, p5⟩ : _ ∧ _ ∧ _ ∧ _ ∧ _ ∧ _ := ⟨hqz.cell 0 rfl, hqz.cell 1 rfl, hqz.cell 2 rfl, hqz.cell 3 rfl, hqz.cell 4 rfl, hqz.cell 5 rfl⟩
  clear hz j0 j1 j2 j3 j4 j5 m0 m1 x2 m3 m4 m5
  exact bodyPost_ret (v := .tuple #[.agg #[.int .i64 0, .string ⟨#[]⟩, .bool false, .string ⟨#[]⟩, .bool false, .string ⟨#[]⟩], .int .i64 1]) (by simp [results, Try.results14, go_sem, p0, p1, p2, p3, p4, p5]) rfl ⟨rfl, hbz⟩

set_option maxRecDepth 100000 in
set_option maxHeartbeats 4000000 in
theorem join_w2 (s : Int) (k : ByteArray) (m : Bool) (b : ByteArray) (n : Bool) (a : ByteArray) (s2 : Int) (k2 : ByteArray) (m2 : Bool) (b2 : ByteArray) (n2 : Bool) (a2 : ByteArray) (w : World) (hm1 : mayC ⟨s, k, m, b, n, a⟩ = true) (hm2 : mayC ⟨s2, k2, m2, b2, n2, a2⟩ = true) (hk : ¬ k = k2) :
    Calls Try.prog 14 #[chV s k m b n a, chV s2 k2 m2 b2 n2 a2] w fun e w' => e = .returned (.tuple #[.agg #[.int .i64 0, .string ⟨#[]⟩, .bool false, .string ⟨#[]⟩, .bool false, .string ⟨#[]⟩], .int .i64 1]) ∧ Below w.heap.size w w' := by
  unfold chV
  have hc1 := fun w => may_any s k m b n a w
  rw [hm1] at hc1
  have HM1 := Lib.hid hc1
  clear hc1
  have hc2 := fun w => may_any s2 k2 m2 b2 n2 a2 w
  rw [hm2] at hc2
  have HM2 := Lib.hid hc2
  clear hc2
  have HK := Lib.hid hk
  clear hk
  obtain ⟨w1, hw1⟩ : ∃ w1, w1 = w.alloc (.cells #[.int .i64 s, .string k, .bool m, .string b, .bool n, .string a] 27) := ⟨_, rfl⟩
  obtain ⟨w2, hw2⟩ : ∃ w2, w2 = w1.alloc (.cells #[.int .i64 s2, .string k2, .bool m2, .string b2, .bool n2, .string a2] 27) := ⟨_, rfl⟩
  obtain ⟨w3, hw3⟩ : ∃ w3, w3 = w2.alloc (.cells #[.int .i64 0, .string ⟨#[]⟩, .bool false, .string ⟨#[]⟩, .bool false, .string ⟨#[]⟩] 27) := ⟨_, rfl⟩
  obtain ⟨g1, hg1⟩ : ∃ q, q = w.heap.size := ⟨_, rfl⟩
  obtain ⟨g2, hg2⟩ : ∃ q, q = w1.heap.size := ⟨_, rfl⟩
  obtain ⟨q, hq⟩ : ∃ q, q = w2.heap.size := ⟨_, rfl⟩
  have e4 : g1 + 1 = g2 := by rw [hg2, hw1, hg1]; simp
  have e5 : g2 + 1 = q := by rw [hq, hw2, hg2]; simp
  have hbx : Box w3 g1 27 #[.int .i64 s, .string k, .bool m, .string b, .bool n, .string a] := by rw [hw3, hw2]; exact Box.push (Box.push (by rw [hw1]; exact Box.at_ w _ _ hg1) _) _
  have hby : Box w3 g2 27 #[.int .i64 s2, .string k2, .bool m2, .string b2, .bool n2, .string a2] := by rw [hw3]; exact Box.push (by rw [hw2]; exact Box.at_ w1 _ _ hg2) _
  have Q3 := Lib.hid (show Box w3 q 27 #[.int .i64 0, .string ⟨#[]⟩, .bool false, .string ⟨#[]⟩, .bool false, .string ⟨#[]⟩] from by rw [hw3]; exact Box.at_ w2 _ _ hq)
  have hb3 : Below w.heap.size w w3 := by rw [hw3, hw2, hw1]; exact (((Below.refl _ _).alloc (Nat.le_refl _) _).alloc (by simp) _).alloc (by simp; omega) _
  have HB3 := Lib.hid hb3
  have HQ := Lib.hid (show w.heap.size ≤ q from by omega)
  have HX := Lib.hid (show ∀ wx, Below w3.heap.size w3 wx → _ ∧ _ ∧ _ ∧ _ ∧ _ ∧ _ from fun wx hh => let hx := hbx.on hh; ⟨hx.cell 0 rfl, hx.cell 1 rfl, hx.cell 2 rfl, hx.cell 3 rfl, hx.cell 4 rfl, hx.cell 5 rfl⟩)
  have HY := Lib.hid (show ∀ wx, Below w3.heap.size w3 wx → _ ∧ _ ∧ _ ∧ _ ∧ _ ∧ _ from fun wx hh => let hx := hby.on hh; ⟨hx.cell 0 rfl, hx.cell 1 rfl, hx.cell 2 rfl, hx.cell 3 rfl, hx.cell 4 rfl, hx.cell 5 rfl⟩)
  clear hb3 hbx hby
  go_enter Try.func14, Try.ntmps14
  go_upto_region 1 with fail
  rw [← hg1, e4, ← hw1, ← hw2, e5, ← hw3]
  clear hg1 hg2 e4 e5 hw1 hw2 hw3 hq
  refine wp_region_phase 40 [6, 7, 8, 9, 10, 11, 12, 13, 14, 15, 16, 17, 18, 19, 20, 21, 22, 23, 24, 25, 26, 27, 28, 29, 30, 31, 32, 33, 34] (by kernel_rfl) [] [] (fun _ _ => True) 0 rfl (by kernel_rfl) ((fun _ wx => Below w3.heap.size w3 wx)) (fun wa wb => Below wa.heap.size wa wb) (JnV2 s k m b n a s2 k2 m2 b2 n2 a2 g1 g2) (by kernel_rfl) (fun _ wa wb h1 h2 => h2.trans (h1.mono h2.size)) (fun _ t v wa wb h1 h2 => h2.on h1) (fun _ _ _ _ _ _ _ => trivial) (Below.refl _ _).drew trivial (phase0 ?_) ?_
  · refine Steps1.cons (fun _ ax wx hS _ hG => ?_) (Steps1.cons (fun _ ax wx hS _ hG => ?_) (Steps1.cons (fun _ ax wx hS _ hG => ?_) (Steps1.cons (fun _ ax wx hS _ hG => ?_) (Steps1.cons (fun _ ax wx hS _ hG => ?_) (Steps1.cons (fun _ ax wx hS _ hG => ?_) (Steps1.cons (fun _ ax wx hS _ hG => ?_) (Steps1.cons (fun _ ax wx hS _ hG => ?_) (Steps1.cons (fun _ ax wx hS _ hG => ?_) (Steps1.cons (fun _ ax wx hS _ hG => ?_) (Steps1.cons (fun _ ax wx hS _ hG => ?_) (Steps1.cons (fun _ ax wx hS _ hG => ?_) (Steps1.cons (fun _ ax wx hS _ hG => ?_) (Steps1.cons (fun _ ax wx hS _ hG => ?_) (Steps1.cons (fun _ ax wx hS _ hG => ?_) (Steps1.cons (fun _ ax wx hS _ hG => ?_) (Steps1.cons (fun _ ax wx hS _ hG => ?_) (Steps1.cons (fun _ ax wx hS _ hG => ?_) (Steps1.cons (fun _ ax wx hS _ hG => ?_) (Steps1.cons (fun _ ax wx hS _ hG => ?_) (Steps1.cons (fun _ ax wx hS _ hG => ?_) (Steps1.cons (fun _ ax wx hS _ hG => ?_) (Steps1.cons (fun _ ax wx hS _ hG => ?_) (Steps1.cons (fun _ ax wx hS _ hG => ?_) (Steps1.cons (fun _ ax wx hS _ hG => ?_) (Steps1.cons (fun _ ax wx hS _ hG => ?_) (Steps1.cons (fun _ ax wx hS _ hG => ?_) (Steps1.cons (fun _ ax wx hS _ hG => ?_) (Steps1.cons (fun _ ax wx hS _ hG => ?_) Steps1.nil))))))))))))))))))))))))))))
    · have q2 := hG.old 2 (by kernel_rfl) (by kernel_rfl)
      obtain ⟨z0, z1, z2, z3, z4, z5⟩ := HX.out wx hS
      refine step_slot rfl rfl rfl (step_value (v := .agg #[.int .i64 s, .string k, .bool m, .string b, .bool n, .string a]) (w' := wx) rfl rfl ?_ (Below.refl _ _) (fun d hd => by cases hd; exact rfl))
      go_simp
    · obtain ⟨_, q6, rfl⟩ := hG.new 6 (by kernel_rfl) (by kernel_rfl)
      refine step_slot rfl rfl rfl (step_call (w1 := wx) (f := 31) (args := #[.agg #[.int .i64 s, .string k, .bool m, .string b, .bool n, .string a]]) rfl rfl ?_ ((HM1.out wx).mono ?_))
      · skip
        go_simp
      · rintro e w' ⟨rfl, hq⟩
        exact ⟨_, rfl, hq, fun d hd => by cases hd; exact rfl⟩
    · obtain ⟨_, q7, rfl⟩ := hG.new 7 (by kernel_rfl) (by kernel_rfl)
      refine step_slot rfl rfl rfl (step_value (v := .bool false) (w' := wx) rfl rfl ?_ (Below.refl _ _) (fun d hd => by cases hd; exact rfl))
      go_simp
    · obtain ⟨_, q8, rfl⟩ := hG.new 8 (by kernel_rfl) (by kernel_rfl)
      refine step_slot rfl rfl rfl (step_value (v := .bool false) (w' := wx) rfl rfl ?_ (Below.refl _ _) (fun d hd => by cases hd; exact rfl))
      go_simp
    · obtain ⟨_, q9, rfl⟩ := hG.new 9 (by kernel_rfl) (by kernel_rfl)
      have q3 := hG.old 3 (by kernel_rfl) (by kernel_rfl)
      obtain ⟨z0, z1, z2, z3, z4, z5⟩ := HY.out wx hS
      refine step_slot rfl rfl rfl (step_value (v := .agg #[.int .i64 s2, .string k2, .bool m2, .string b2, .bool n2, .string a2]) (w' := wx) rfl (by simp [Region.wanted, yielded, q9, undef]) ?_ (Below.refl _ _) (fun d hd => by cases hd; exact rfl))
      go_simp
    · obtain ⟨_, q9, rfl⟩ := hG.new 9 (by kernel_rfl) (by kernel_rfl)
      obtain ⟨_, q10, rfl⟩ := hG.new 10 (by kernel_rfl) (by kernel_rfl)
      refine step_slot rfl rfl rfl (step_call (w1 := wx) (f := 31) (args := #[.agg #[.int .i64 s2, .string k2, .bool m2, .string b2, .bool n2, .string a2]]) rfl (by simp [Region.wanted, yielded, q9, undef]) ?_ ((HM2.out wx).mono ?_))
      · skip
        go_simp
      · rintro e w' ⟨rfl, hq⟩
        exact ⟨_, rfl, hq, fun d hd => by cases hd; exact rfl⟩
    · obtain ⟨_, q9, rfl⟩ := hG.new 9 (by kernel_rfl) (by kernel_rfl)
      obtain ⟨_, q11, rfl⟩ := hG.new 11 (by kernel_rfl) (by kernel_rfl)
      refine step_slot rfl rfl rfl (step_value (v := .bool false) (w' := wx) rfl (by simp [Region.wanted, yielded, q9, undef]) ?_ (Below.refl _ _) (fun d hd => by cases hd; exact rfl))
      go_simp
    · obtain ⟨_, q9, rfl⟩ := hG.new 9 (by kernel_rfl) (by kernel_rfl)
      obtain ⟨_, q12, rfl⟩ := hG.new 12 (by kernel_rfl) (by kernel_rfl)
      refine step_slot rfl rfl rfl (step_value (v := .bool false) (w' := wx) rfl rfl ?_ (Below.refl _ _) (fun d hd => by cases hd; exact rfl))
      go_simp
    · obtain ⟨_, q13, rfl⟩ := hG.new 13 (by kernel_rfl) (by kernel_rfl)
      refine step_slot rfl rfl rfl (step_value (v := .bool false) (w' := wx) rfl rfl ?_ (Below.refl _ _) (fun d hd => by cases hd; exact rfl))
      go_simp
    · obtain ⟨_, q14, rfl⟩ := hG.new 14 (by kernel_rfl) (by kernel_rfl)
      have q2 := hG.old 2 (by kernel_rfl) (by kernel_rfl)
      refine step_slot rfl rfl rfl (step_value (v := .pointer (some ⟨g1, 1, none⟩)) (w' := wx) rfl (by simp [Region.wanted, yielded, q14, undef]) ?_ (Below.refl _ _) (fun d hd => by cases hd; exact rfl))
      go_simp
    · obtain ⟨_, q14, rfl⟩ := hG.new 14 (by kernel_rfl) (by kernel_rfl)
      obtain ⟨_, q15, rfl⟩ := hG.new 15 (by kernel_rfl) (by kernel_rfl)
      obtain ⟨z0, z1, z2, z3, z4, z5⟩ := HX.out wx hS
      refine step_slot rfl rfl rfl (step_value (v := .string k) (w' := wx) rfl (by simp [Region.wanted, yielded, q14, undef]) ?_ (Below.refl _ _) (fun d hd => by cases hd; exact rfl))
      go_simp
    · obtain ⟨_, q14, rfl⟩ := hG.new 14 (by kernel_rfl) (by kernel_rfl)
      have q3 := hG.old 3 (by kernel_rfl) (by kernel_rfl)
      refine step_slot rfl rfl rfl (step_value (v := .pointer (some ⟨g2, 1, none⟩)) (w' := wx) rfl (by simp [Region.wanted, yielded, q14, undef]) ?_ (Below.refl _ _) (fun d hd => by cases hd; exact rfl))
      go_simp
    · obtain ⟨_, q14, rfl⟩ := hG.new 14 (by kernel_rfl) (by kernel_rfl)
      obtain ⟨_, q17, rfl⟩ := hG.new 17 (by kernel_rfl) (by kernel_rfl)
      obtain ⟨z0, z1, z2, z3, z4, z5⟩ := HY.out wx hS
      refine step_slot rfl rfl rfl (step_value (v := .string k2) (w' := wx) rfl (by simp [Region.wanted, yielded, q14, undef]) ?_ (Below.refl _ _) (fun d hd => by cases hd; exact rfl))
      go_simp
    · obtain ⟨_, q14, rfl⟩ := hG.new 14 (by kernel_rfl) (by kernel_rfl)
      obtain ⟨_, q16, rfl⟩ := hG.new 16 (by kernel_rfl) (by kernel_rfl)
      obtain ⟨_, q18, rfl⟩ := hG.new 18 (by kernel_rfl) (by kernel_rfl)
      have hk := HK.out
      refine step_slot rfl rfl rfl (step_value (v := .bool true) (w' := wx) rfl (by simp [Region.wanted, yielded, q14, undef]) ?_ (Below.refl _ _) (fun d hd => by cases hd; exact rfl))
      (go_simp; first | done | exact hk | exact fun e => hk (tl_inj e) | simp [hk])
    · obtain ⟨_, q14, rfl⟩ := hG.new 14 (by kernel_rfl) (by kernel_rfl)
      obtain ⟨_, q19, rfl⟩ := hG.new 19 (by kernel_rfl) (by kernel_rfl)
      refine step_slot rfl rfl rfl (step_value (v := .bool true) (w' := wx) rfl rfl ?_ (Below.refl _ _) (fun d hd => by cases hd; exact rfl))
      go_simp
    · obtain ⟨_, q20, rfl⟩ := hG.new 20 (by kernel_rfl) (by kernel_rfl)
      refine step_slot rfl rfl rfl (step_value (v := .bool true) (w' := wx) rfl rfl ?_ (Below.refl _ _) (fun d hd => by cases hd; exact rfl))
      go_simp
    · obtain ⟨_, q21, rfl⟩ := hG.new 21 (by kernel_rfl) (by kernel_rfl)
      refine step_slot rfl rfl rfl (step_past rfl (by simp [Region.wanted, yielded, q21, undef]) (Below.refl _ _) (fun d hd => by cases hd; exact rfl))
    · obtain ⟨_, q21, rfl⟩ := hG.new 21 (by kernel_rfl) (by kernel_rfl)
      refine step_slot rfl rfl rfl (step_past rfl (by simp [Region.wanted, yielded, q21, undef]) (Below.refl _ _) (fun d hd => by cases hd; exact rfl))
    · obtain ⟨_, q21, rfl⟩ := hG.new 21 (by kernel_rfl) (by kernel_rfl)
      refine step_slot rfl rfl rfl (step_past rfl (by simp [Region.wanted, yielded, q21, undef]) (Below.refl _ _) (fun d hd => by cases hd; exact rfl))
    · obtain ⟨_, q21, rfl⟩ := hG.new 21 (by kernel_rfl) (by kernel_rfl)
      refine step_slot rfl rfl rfl (step_past rfl (by simp [Region.wanted, yielded, q21, undef]) (Below.refl _ _) (fun d hd => by cases hd; exact rfl))
    · obtain ⟨_, q21, rfl⟩ := hG.new 21 (by kernel_rfl) (by kernel_rfl)
      refine step_slot rfl rfl rfl (step_past rfl (by simp [Region.wanted, yielded, q21, undef]) (Below.refl _ _) (fun d hd => by cases hd; exact rfl))
    · obtain ⟨_, q21, rfl⟩ := hG.new 21 (by kernel_rfl) (by kernel_rfl)
      obtain ⟨_, q26, rfl⟩ := hG.new 26 (by kernel_rfl) (by kernel_rfl)
      refine step_slot rfl rfl rfl (step_value (v := .bool true) (w' := wx) rfl rfl ?_ (Below.refl _ _) (fun d hd => by cases hd; exact rfl))
      go_simp
    · obtain ⟨_, q27, rfl⟩ := hG.new 27 (by kernel_rfl) (by kernel_rfl)
      refine step_slot rfl rfl rfl (step_value (v := .bool true) (w' := wx) rfl rfl ?_ (Below.refl _ _) (fun d hd => by cases hd; exact rfl))
      go_simp
    · obtain ⟨_, q28, rfl⟩ := hG.new 28 (by kernel_rfl) (by kernel_rfl)
      refine step_slot rfl rfl rfl (step_past rfl (by simp [Region.wanted, yielded, q28, undef]) (Below.refl _ _) (fun d hd => by cases hd; exact rfl))
    · obtain ⟨_, q28, rfl⟩ := hG.new 28 (by kernel_rfl) (by kernel_rfl)
      refine step_slot rfl rfl rfl (step_past rfl (by simp [Region.wanted, yielded, q28, undef]) (Below.refl _ _) (fun d hd => by cases hd; exact rfl))
    · obtain ⟨_, q28, rfl⟩ := hG.new 28 (by kernel_rfl) (by kernel_rfl)
      refine step_slot rfl rfl rfl (step_past rfl (by simp [Region.wanted, yielded, q28, undef]) (Below.refl _ _) (fun d hd => by cases hd; exact rfl))
    · obtain ⟨_, q28, rfl⟩ := hG.new 28 (by kernel_rfl) (by kernel_rfl)
      refine step_slot rfl rfl rfl (step_past rfl (by simp [Region.wanted, yielded, q28, undef]) (Below.refl _ _) (fun d hd => by cases hd; exact rfl))
    · obtain ⟨_, q28, rfl⟩ := hG.new 28 (by kernel_rfl) (by kernel_rfl)
      refine step_slot rfl rfl rfl (step_past rfl (by simp [Region.wanted, yielded, q28, undef]) (Below.refl _ _) (fun d hd => by cases hd; exact rfl))
    · obtain ⟨_, q28, rfl⟩ := hG.new 28 (by kernel_rfl) (by kernel_rfl)
      obtain ⟨_, q33, rfl⟩ := hG.new 33 (by kernel_rfl) (by kernel_rfl)
      refine step_slot rfl rfl rfl (step_value (v := .bool true) (w' := wx) rfl rfl ?_ (Below.refl _ _) (fun d hd => by cases hd; exact rfl))
      go_simp
  intro fv w8 hS8 _ hV8
  have e34 : fv 34 = .bool true := hV8 34 (by decide)
  simp only [puts, Act.put, List.setIfInBounds_toArray, List.set_cons_succ, List.set_cons_zero]
  clear hV8
  rw [e34]
  obtain ⟨u0, u1, u2, u3, u4, u5⟩ : _ ∧ _ ∧ _ ∧ _ ∧ _ ∧ _ := HX.out w8 hS8
  obtain ⟨y0, y1, y2, y3, y4, y5⟩ : _ ∧ _ ∧ _ ∧ _ ∧ _ ∧ _ := HY.out w8 hS8
  have Q8 := Lib.hid (Q3.out.on hS8)
  have HB8 := Lib.hid (HB3.out.trans ((show Below w3.heap.size w3 w8 from hS8).mono HB3.out.size))
  obtain ⟨j0, j1, j2, j3, j4, j5⟩ := (⟨Box.free Q8.out 0, Box.free Q8.out 1, Box.free Q8.out 2, Box.free Q8.out 3, Box.free Q8.out 4, Box.free Q8.out 5⟩ : _ ∧ _ ∧ _ ∧ _ ∧ _ ∧ _)
  obtain ⟨m0, m1, x2, m3, m4, m5⟩ := (⟨Box.cell Q8.out 0 rfl, Box.cell Q8.out 1 rfl, Box.cell Q8.out 2 rfl, Box.cell Q8.out 3 rfl, Box.cell Q8.out 4 rfl, Box.cell Q8.out 5 rfl⟩ : _ ∧ _ ∧ _ ∧ _ ∧ _ ∧ _)
  clear hS8
  go_wp2
  obtain ⟨wz, hz⟩ : ∃ wz, wz = ((((((w8.setCell ⟨q, 0, none⟩ (.int .i64 0)).setCell ⟨q, 1, none⟩ (.string ⟨#[]⟩)).setCell ⟨q, 2, none⟩ (.bool false)).setCell ⟨q, 3, none⟩ (.string ⟨#[]⟩)).setCell ⟨q, 4, none⟩ (.bool false)).setCell ⟨q, 5, none⟩ (.string ⟨#[]⟩)) := ⟨_, rfl⟩
  rw [← hz]
  have hqz : Box wz q 27 #[.int .i64 0, .string ⟨#[]⟩, .bool false, .string ⟨#[]⟩, .bool false, .string ⟨#[]⟩] := by rw [hz]; exact ((((((Box.set Q8.out 0 _).set 1 _).set 2 _).set 3 _).set 4 _).set 5 _)
  have hbz : Below w.heap.size w wz := by rw [hz]; exact ((((((HB8.out.setCell (p := ⟨q, 0, none⟩) HQ.out _).setCell (p := ⟨q, 1, none⟩) HQ.out _).setCell (p := ⟨q, 2, none⟩) HQ.out _).setCell (p := ⟨q, 3, none⟩) HQ.out _).setCell (p := ⟨q, 4, none⟩) HQ.out _).setCell (p := ⟨q, 5, none⟩) HQ.out _)
  obtain ⟨p0, p1, p2, p3, p4, p5⟩ : _ ∧ _ ∧ _ ∧ _ ∧ _ ∧ _ := ⟨hqz.cell 0 rfl, hqz.cell 1 rfl, hqz.cell 2 rfl, hqz.cell 3 rfl, hqz.cell 4 rfl, hqz.cell 5 rfl⟩
  clear hz j0 j1 j2 j3 j4 j5 m0 m1 x2 m3 m4 m5
  exact bodyPost_ret (v := .tuple #[.agg #[.int .i64 0, .string ⟨#[]⟩, .bool false, .string ⟨#[]⟩, .bool false, .string ⟨#[]⟩], .int .i64 1]) (by simp [results, Try.results14, go_sem, p0, p1, p2, p3, p4, p5]) rfl ⟨rfl, hbz⟩

set_option maxRecDepth 100000 in
set_option maxHeartbeats 4000000 in
theorem join_w3 (s : Int) (k : ByteArray) (m : Bool) (b : ByteArray) (n : Bool) (a : ByteArray) (s2 : Int) (k2 : ByteArray) (m2 : Bool) (b2 : ByteArray) (n2 : Bool) (a2 : ByteArray) (w : World) (hm1 : mayC ⟨s, k, m, b, n, a⟩ = true) (hm2 : mayC ⟨s2, k2, m2, b2, n2, a2⟩ = true) (hk : k = k2) (hs : s2 ≤ s) :
    Calls Try.prog 14 #[chV s k m b n a, chV s2 k2 m2 b2 n2 a2] w fun e w' => e = .returned (.tuple #[.agg #[.int .i64 0, .string ⟨#[]⟩, .bool false, .string ⟨#[]⟩, .bool false, .string ⟨#[]⟩], .int .i64 1]) ∧ Below w.heap.size w w' := by
  unfold chV
  have hc1 := fun w => may_any s k m b n a w
  rw [hm1] at hc1
  have HM1 := Lib.hid hc1
  clear hc1
  have hc2 := fun w => may_any s2 k2 m2 b2 n2 a2 w
  rw [hm2] at hc2
  have HM2 := Lib.hid hc2
  clear hc2
  have HK := Lib.hid hk
  clear hk
  have HS := Lib.hid hs
  clear hs
  obtain ⟨w1, hw1⟩ : ∃ w1, w1 = w.alloc (.cells #[.int .i64 s, .string k, .bool m, .string b, .bool n, .string a] 27) := ⟨_, rfl⟩
  obtain ⟨w2, hw2⟩ : ∃ w2, w2 = w1.alloc (.cells #[.int .i64 s2, .string k2, .bool m2, .string b2, .bool n2, .string a2] 27) := ⟨_, rfl⟩
  obtain ⟨w3, hw3⟩ : ∃ w3, w3 = w2.alloc (.cells #[.int .i64 0, .string ⟨#[]⟩, .bool false, .string ⟨#[]⟩, .bool false, .string ⟨#[]⟩] 27) := ⟨_, rfl⟩
  obtain ⟨g1, hg1⟩ : ∃ q, q = w.heap.size := ⟨_, rfl⟩
  obtain ⟨g2, hg2⟩ : ∃ q, q = w1.heap.size := ⟨_, rfl⟩
  obtain ⟨q, hq⟩ : ∃ q, q = w2.heap.size := ⟨_, rfl⟩
  have e4 : g1 + 1 = g2 := by rw [hg2, hw1, hg1]; simp
  have e5 : g2 + 1 = q := by rw [hq, hw2, hg2]; simp
  have hbx : Box w3 g1 27 #[.int .i64 s, .string k, .bool m, .string b, .bool n, .string a] := by rw [hw3, hw2]; exact Box.push (Box.push (by rw [hw1]; exact Box.at_ w _ _ hg1) _) _
  have hby : Box w3 g2 27 #[.int .i64 s2, .string k2, .bool m2, .string b2, .bool n2, .string a2] := by rw [hw3]; exact Box.push (by rw [hw2]; exact Box.at_ w1 _ _ hg2) _
  have Q3 := Lib.hid (show Box w3 q 27 #[.int .i64 0, .string ⟨#[]⟩, .bool false, .string ⟨#[]⟩, .bool false, .string ⟨#[]⟩] from by rw [hw3]; exact Box.at_ w2 _ _ hq)
  have hb3 : Below w.heap.size w w3 := by rw [hw3, hw2, hw1]; exact (((Below.refl _ _).alloc (Nat.le_refl _) _).alloc (by simp) _).alloc (by simp; omega) _
  have HB3 := Lib.hid hb3
  have HQ := Lib.hid (show w.heap.size ≤ q from by omega)
  have HX := Lib.hid (show ∀ wx, Below w3.heap.size w3 wx → _ ∧ _ ∧ _ ∧ _ ∧ _ ∧ _ from fun wx hh => let hx := hbx.on hh; ⟨hx.cell 0 rfl, hx.cell 1 rfl, hx.cell 2 rfl, hx.cell 3 rfl, hx.cell 4 rfl, hx.cell 5 rfl⟩)
  have HY := Lib.hid (show ∀ wx, Below w3.heap.size w3 wx → _ ∧ _ ∧ _ ∧ _ ∧ _ ∧ _ from fun wx hh => let hx := hby.on hh; ⟨hx.cell 0 rfl, hx.cell 1 rfl, hx.cell 2 rfl, hx.cell 3 rfl, hx.cell 4 rfl, hx.cell 5 rfl⟩)
  clear hb3 hbx hby
  go_enter Try.func14, Try.ntmps14
  go_upto_region 1 with fail
  rw [← hg1, e4, ← hw1, ← hw2, e5, ← hw3]
  clear hg1 hg2 e4 e5 hw1 hw2 hw3 hq
  refine wp_region_phase 40 [6, 7, 8, 9, 10, 11, 12, 13, 14, 15, 16, 17, 18, 19, 20, 21, 22, 23, 24, 25, 26, 27, 28, 29, 30, 31, 32, 33, 34] (by kernel_rfl) [] [] (fun _ _ => True) 0 rfl (by kernel_rfl) ((fun _ wx => Below w3.heap.size w3 wx)) (fun wa wb => Below wa.heap.size wa wb) (JnV3 s k m b n a s2 k2 m2 b2 n2 a2 g1 g2) (by kernel_rfl) (fun _ wa wb h1 h2 => h2.trans (h1.mono h2.size)) (fun _ t v wa wb h1 h2 => h2.on h1) (fun _ _ _ _ _ _ _ => trivial) (Below.refl _ _).drew trivial (phase0 ?_) ?_
  · refine Steps1.cons (fun _ ax wx hS _ hG => ?_) (Steps1.cons (fun _ ax wx hS _ hG => ?_) (Steps1.cons (fun _ ax wx hS _ hG => ?_) (Steps1.cons (fun _ ax wx hS _ hG => ?_) (Steps1.cons (fun _ ax wx hS _ hG => ?_) (Steps1.cons (fun _ ax wx hS _ hG => ?_) (Steps1.cons (fun _ ax wx hS _ hG => ?_) (Steps1.cons (fun _ ax wx hS _ hG => ?_) (Steps1.cons (fun _ ax wx hS _ hG => ?_) (Steps1.cons (fun _ ax wx hS _ hG => ?_) (Steps1.cons (fun _ ax wx hS _ hG => ?_) (Steps1.cons (fun _ ax wx hS _ hG => ?_) (Steps1.cons (fun _ ax wx hS _ hG => ?_) (Steps1.cons (fun _ ax wx hS _ hG => ?_) (Steps1.cons (fun _ ax wx hS _ hG => ?_) (Steps1.cons (fun _ ax wx hS _ hG => ?_) (Steps1.cons (fun _ ax wx hS _ hG => ?_) (Steps1.cons (fun _ ax wx hS _ hG => ?_) (Steps1.cons (fun _ ax wx hS _ hG => ?_) (Steps1.cons (fun _ ax wx hS _ hG => ?_) (Steps1.cons (fun _ ax wx hS _ hG => ?_) (Steps1.cons (fun _ ax wx hS _ hG => ?_) (Steps1.cons (fun _ ax wx hS _ hG => ?_) (Steps1.cons (fun _ ax wx hS _ hG => ?_) (Steps1.cons (fun _ ax wx hS _ hG => ?_) (Steps1.cons (fun _ ax wx hS _ hG => ?_) (Steps1.cons (fun _ ax wx hS _ hG => ?_) (Steps1.cons (fun _ ax wx hS _ hG => ?_) (Steps1.cons (fun _ ax wx hS _ hG => ?_) Steps1.nil))))))))))))))))))))))))))))
    · have q2 := hG.old 2 (by kernel_rfl) (by kernel_rfl)
      obtain ⟨z0, z1, z2, z3, z4, z5⟩ := HX.out wx hS
      refine step_slot rfl rfl rfl (step_value (v := .agg #[.int .i64 s, .string k, .bool m, .string b, .bool n, .string a]) (w' := wx) rfl rfl ?_ (Below.refl _ _) (fun d hd => by cases hd; exact rfl))
      go_simp
    · obtain ⟨_, q6, rfl⟩ := hG.new 6 (by kernel_rfl) (by kernel_rfl)
      refine step_slot rfl rfl rfl (step_call (w1 := wx) (f := 31) (args := #[.agg #[.int .i64 s, .string k, .bool m, .string b, .bool n, .string a]]) rfl rfl ?_ ((HM1.out wx).mono ?_))
      · skip
        go_simp
      · rintro e w' ⟨rfl, hq⟩
        exact ⟨_, rfl, hq, fun d hd => by cases hd; exact rfl⟩
    · obtain ⟨_, q7, rfl⟩ := hG.new 7 (by kernel_rfl) (by kernel_rfl)
      refine step_slot rfl rfl rfl (step_value (v := .bool false) (w' := wx) rfl rfl ?_ (Below.refl _ _) (fun d hd => by cases hd; exact rfl))
      go_simp
    · obtain ⟨_, q8, rfl⟩ := hG.new 8 (by kernel_rfl) (by kernel_rfl)
      refine step_slot rfl rfl rfl (step_value (v := .bool false) (w' := wx) rfl rfl ?_ (Below.refl _ _) (fun d hd => by cases hd; exact rfl))
      go_simp
    · obtain ⟨_, q9, rfl⟩ := hG.new 9 (by kernel_rfl) (by kernel_rfl)
      have q3 := hG.old 3 (by kernel_rfl) (by kernel_rfl)
      obtain ⟨z0, z1, z2, z3, z4, z5⟩ := HY.out wx hS
      refine step_slot rfl rfl rfl (step_value (v := .agg #[.int .i64 s2, .string k2, .bool m2, .string b2, .bool n2, .string a2]) (w' := wx) rfl (by simp [Region.wanted, yielded, q9, undef]) ?_ (Below.refl _ _) (fun d hd => by cases hd; exact rfl))
      go_simp
    · obtain ⟨_, q9, rfl⟩ := hG.new 9 (by kernel_rfl) (by kernel_rfl)
      obtain ⟨_, q10, rfl⟩ := hG.new 10 (by kernel_rfl) (by kernel_rfl)
      refine step_slot rfl rfl rfl (step_call (w1 := wx) (f := 31) (args := #[.agg #[.int .i64 s2, .string k2, .bool m2, .string b2, .bool n2, .string a2]]) rfl (by simp [Region.wanted, yielded, q9, undef]) ?_ ((HM2.out wx).mono ?_))
      · skip
        go_simp
      · rintro e w' ⟨rfl, hq⟩
        exact ⟨_, rfl, hq, fun d hd => by cases hd; exact rfl⟩
    · obtain ⟨_, q9, rfl⟩ := hG.new 9 (by kernel_rfl) (by kernel_rfl)
      obtain ⟨_, q11, rfl⟩ := hG.new 11 (by kernel_rfl) (by kernel_rfl)
      refine step_slot rfl rfl rfl (step_value (v := .bool false) (w' := wx) rfl (by simp [Region.wanted, yielded, q9, undef]) ?_ (Below.refl _ _) (fun d hd => by cases hd; exact rfl))
      go_simp
    · obtain ⟨_, q9, rfl⟩ := hG.new 9 (by kernel_rfl) (by kernel_rfl)
      obtain ⟨_, q12, rfl⟩ := hG.new 12 (by kernel_rfl) (by kernel_rfl)
      refine step_slot rfl rfl rfl (step_value (v := .bool false) (w' := wx) rfl rfl ?_ (Below.refl _ _) (fun d hd => by cases hd; exact rfl))
      go_simp
    · obtain ⟨_, q13, rfl⟩ := hG.new 13 (by kernel_rfl) (by kernel_rfl)
      refine step_slot rfl rfl rfl (step_value (v := .bool false) (w' := wx) rfl rfl ?_ (Below.refl _ _) (fun d hd => by cases hd; exact rfl))
      go_simp
    · obtain ⟨_, q14, rfl⟩ := hG.new 14 (by kernel_rfl) (by kernel_rfl)
      have q2 := hG.old 2 (by kernel_rfl) (by kernel_rfl)
      refine step_slot rfl rfl rfl (step_value (v := .pointer (some ⟨g1, 1, none⟩)) (w' := wx) rfl (by simp [Region.wanted, yielded, q14, undef]) ?_ (Below.refl _ _) (fun d hd => by cases hd; exact rfl))
      go_simp
    · obtain ⟨_, q14, rfl⟩ := hG.new 14 (by kernel_rfl) (by kernel_rfl)
      obtain ⟨_, q15, rfl⟩ := hG.new 15 (by kernel_rfl) (by kernel_rfl)
      obtain ⟨z0, z1, z2, z3, z4, z5⟩ := HX.out wx hS
      refine step_slot rfl rfl rfl (step_value (v := .string k) (w' := wx) rfl (by simp [Region.wanted, yielded, q14, undef]) ?_ (Below.refl _ _) (fun d hd => by cases hd; exact rfl))
      go_simp
    · obtain ⟨_, q14, rfl⟩ := hG.new 14 (by kernel_rfl) (by kernel_rfl)
      have q3 := hG.old 3 (by kernel_rfl) (by kernel_rfl)
      refine step_slot rfl rfl rfl (step_value (v := .pointer (some ⟨g2, 1, none⟩)) (w' := wx) rfl (by simp [Region.wanted, yielded, q14, undef]) ?_ (Below.refl _ _) (fun d hd => by cases hd; exact rfl))
      go_simp
    · obtain ⟨_, q14, rfl⟩ := hG.new 14 (by kernel_rfl) (by kernel_rfl)
      obtain ⟨_, q17, rfl⟩ := hG.new 17 (by kernel_rfl) (by kernel_rfl)
      obtain ⟨z0, z1, z2, z3, z4, z5⟩ := HY.out wx hS
      refine step_slot rfl rfl rfl (step_value (v := .string k2) (w' := wx) rfl (by simp [Region.wanted, yielded, q14, undef]) ?_ (Below.refl _ _) (fun d hd => by cases hd; exact rfl))
      go_simp
    · obtain ⟨_, q14, rfl⟩ := hG.new 14 (by kernel_rfl) (by kernel_rfl)
      obtain ⟨_, q16, rfl⟩ := hG.new 16 (by kernel_rfl) (by kernel_rfl)
      obtain ⟨_, q18, rfl⟩ := hG.new 18 (by kernel_rfl) (by kernel_rfl)
      have hk := HK.out
      refine step_slot rfl rfl rfl (step_value (v := .bool false) (w' := wx) rfl (by simp [Region.wanted, yielded, q14, undef]) ?_ (Below.refl _ _) (fun d hd => by cases hd; exact rfl))
      (go_simp; first | done | exact hk | exact fun e => hk (tl_inj e) | simp [hk])
    · obtain ⟨_, q14, rfl⟩ := hG.new 14 (by kernel_rfl) (by kernel_rfl)
      obtain ⟨_, q19, rfl⟩ := hG.new 19 (by kernel_rfl) (by kernel_rfl)
      refine step_slot rfl rfl rfl (step_value (v := .bool false) (w' := wx) rfl rfl ?_ (Below.refl _ _) (fun d hd => by cases hd; exact rfl))
      go_simp
    · obtain ⟨_, q20, rfl⟩ := hG.new 20 (by kernel_rfl) (by kernel_rfl)
      refine step_slot rfl rfl rfl (step_value (v := .bool false) (w' := wx) rfl rfl ?_ (Below.refl _ _) (fun d hd => by cases hd; exact rfl))
      go_simp
    · obtain ⟨_, q21, rfl⟩ := hG.new 21 (by kernel_rfl) (by kernel_rfl)
      have q3 := hG.old 3 (by kernel_rfl) (by kernel_rfl)
      refine step_slot rfl rfl rfl (step_value (v := .pointer (some ⟨g2, 0, none⟩)) (w' := wx) rfl (by simp [Region.wanted, yielded, q21, undef]) ?_ (Below.refl _ _) (fun d hd => by cases hd; exact rfl))
      go_simp
    · obtain ⟨_, q21, rfl⟩ := hG.new 21 (by kernel_rfl) (by kernel_rfl)
      obtain ⟨_, q22, rfl⟩ := hG.new 22 (by kernel_rfl) (by kernel_rfl)
      obtain ⟨z0, z1, z2, z3, z4, z5⟩ := HY.out wx hS
      refine step_slot rfl rfl rfl (step_value (v := .int .i64 s2) (w' := wx) rfl (by simp [Region.wanted, yielded, q21, undef]) ?_ (Below.refl _ _) (fun d hd => by cases hd; exact rfl))
      go_simp
    · obtain ⟨_, q21, rfl⟩ := hG.new 21 (by kernel_rfl) (by kernel_rfl)
      have q2 := hG.old 2 (by kernel_rfl) (by kernel_rfl)
      refine step_slot rfl rfl rfl (step_value (v := .pointer (some ⟨g1, 0, none⟩)) (w' := wx) rfl (by simp [Region.wanted, yielded, q21, undef]) ?_ (Below.refl _ _) (fun d hd => by cases hd; exact rfl))
      go_simp
    · obtain ⟨_, q21, rfl⟩ := hG.new 21 (by kernel_rfl) (by kernel_rfl)
      obtain ⟨_, q24, rfl⟩ := hG.new 24 (by kernel_rfl) (by kernel_rfl)
      obtain ⟨z0, z1, z2, z3, z4, z5⟩ := HX.out wx hS
      refine step_slot rfl rfl rfl (step_value (v := .int .i64 s) (w' := wx) rfl (by simp [Region.wanted, yielded, q21, undef]) ?_ (Below.refl _ _) (fun d hd => by cases hd; exact rfl))
      go_simp
    · obtain ⟨_, q21, rfl⟩ := hG.new 21 (by kernel_rfl) (by kernel_rfl)
      obtain ⟨_, q23, rfl⟩ := hG.new 23 (by kernel_rfl) (by kernel_rfl)
      obtain ⟨_, q25, rfl⟩ := hG.new 25 (by kernel_rfl) (by kernel_rfl)
      have hs := HS.out
      refine step_slot rfl rfl rfl (step_value (v := .bool true) (w' := wx) rfl (by simp [Region.wanted, yielded, q21, undef]) ?_ (Below.refl _ _) (fun d hd => by cases hd; exact rfl))
      (go_simp; first | done | exact hs | omega | simp [hs])
    · obtain ⟨_, q21, rfl⟩ := hG.new 21 (by kernel_rfl) (by kernel_rfl)
      obtain ⟨_, q26, rfl⟩ := hG.new 26 (by kernel_rfl) (by kernel_rfl)
      refine step_slot rfl rfl rfl (step_value (v := .bool true) (w' := wx) rfl rfl ?_ (Below.refl _ _) (fun d hd => by cases hd; exact rfl))
      go_simp
    · obtain ⟨_, q27, rfl⟩ := hG.new 27 (by kernel_rfl) (by kernel_rfl)
      refine step_slot rfl rfl rfl (step_value (v := .bool true) (w' := wx) rfl rfl ?_ (Below.refl _ _) (fun d hd => by cases hd; exact rfl))
      go_simp
    · obtain ⟨_, q28, rfl⟩ := hG.new 28 (by kernel_rfl) (by kernel_rfl)
      refine step_slot rfl rfl rfl (step_past rfl (by simp [Region.wanted, yielded, q28, undef]) (Below.refl _ _) (fun d hd => by cases hd; exact rfl))
    · obtain ⟨_, q28, rfl⟩ := hG.new 28 (by kernel_rfl) (by kernel_rfl)
      refine step_slot rfl rfl rfl (step_past rfl (by simp [Region.wanted, yielded, q28, undef]) (Below.refl _ _) (fun d hd => by cases hd; exact rfl))
    · obtain ⟨_, q28, rfl⟩ := hG.new 28 (by kernel_rfl) (by kernel_rfl)
      refine step_slot rfl rfl rfl (step_past rfl (by simp [Region.wanted, yielded, q28, undef]) (Below.refl _ _) (fun d hd => by cases hd; exact rfl))
    · obtain ⟨_, q28, rfl⟩ := hG.new 28 (by kernel_rfl) (by kernel_rfl)
      refine step_slot rfl rfl rfl (step_past rfl (by simp [Region.wanted, yielded, q28, undef]) (Below.refl _ _) (fun d hd => by cases hd; exact rfl))
    · obtain ⟨_, q28, rfl⟩ := hG.new 28 (by kernel_rfl) (by kernel_rfl)
      refine step_slot rfl rfl rfl (step_past rfl (by simp [Region.wanted, yielded, q28, undef]) (Below.refl _ _) (fun d hd => by cases hd; exact rfl))
    · obtain ⟨_, q28, rfl⟩ := hG.new 28 (by kernel_rfl) (by kernel_rfl)
      obtain ⟨_, q33, rfl⟩ := hG.new 33 (by kernel_rfl) (by kernel_rfl)
      refine step_slot rfl rfl rfl (step_value (v := .bool true) (w' := wx) rfl rfl ?_ (Below.refl _ _) (fun d hd => by cases hd; exact rfl))
      go_simp
  intro fv w8 hS8 _ hV8
  have e34 : fv 34 = .bool true := hV8 34 (by decide)
  simp only [puts, Act.put, List.setIfInBounds_toArray, List.set_cons_succ, List.set_cons_zero]
  clear hV8
  rw [e34]
  obtain ⟨u0, u1, u2, u3, u4, u5⟩ : _ ∧ _ ∧ _ ∧ _ ∧ _ ∧ _ := HX.out w8 hS8
  obtain ⟨y0, y1, y2, y3, y4, y5⟩ : _ ∧ _ ∧ _ ∧ _ ∧ _ ∧ _ := HY.out w8 hS8
  have Q8 := Lib.hid (Q3.out.on hS8)
  have HB8 := Lib.hid (HB3.out.trans ((show Below w3.heap.size w3 w8 from hS8).mono HB3.out.size))
  obtain ⟨j0, j1, j2, j3, j4, j5⟩ := (⟨Box.free Q8.out 0, Box.free Q8.out 1, Box.free Q8.out 2, Box.free Q8.out 3, Box.free Q8.out 4, Box.free Q8.out 5⟩ : _ ∧ _ ∧ _ ∧ _ ∧ _ ∧ _)
  obtain ⟨m0, m1, x2, m3, m4, m5⟩ := (⟨Box.cell Q8.out 0 rfl, Box.cell Q8.out 1 rfl, Box.cell Q8.out 2 rfl, Box.cell Q8.out 3 rfl, Box.cell Q8.out 4 rfl, Box.cell Q8.out 5 rfl⟩ : _ ∧ _ ∧ _ ∧ _ ∧ _ ∧ _)
  clear hS8
  go_wp2
  obtain ⟨wz, hz⟩ : ∃ wz, wz = ((((((w8.setCell ⟨q, 0, none⟩ (.int .i64 0)).setCell ⟨q, 1, none⟩ (.string ⟨#[]⟩)).setCell ⟨q, 2, none⟩ (.bool false)).setCell ⟨q, 3, none⟩ (.string ⟨#[]⟩)).setCell ⟨q, 4, none⟩ (.bool false)).setCell ⟨q, 5, none⟩ (.string ⟨#[]⟩)) := ⟨_, rfl⟩
  rw [← hz]
  have hqz : Box wz q 27 #[.int .i64 0, .string ⟨#[]⟩, .bool false, .string ⟨#[]⟩, .bool false, .string ⟨#[]⟩] := by rw [hz]; exact ((((((Box.set Q8.out 0 _).set 1 _).set 2 _).set 3 _).set 4 _).set 5 _)
  have hbz : Below w.heap.size w wz := by rw [hz]; exact ((((((HB8.out.setCell (p := ⟨q, 0, none⟩) HQ.out _).setCell (p := ⟨q, 1, none⟩) HQ.out _).setCell (p := ⟨q, 2, none⟩) HQ.out _).setCell (p := ⟨q, 3, none⟩) HQ.out _).setCell (p := ⟨q, 4, none⟩) HQ.out _).setCell (p := ⟨q, 5, none⟩) HQ.out _)
  obtain ⟨p0, p1, p2, p3, p4, p5⟩ : _ ∧ _ ∧ _ ∧ _ ∧ _ ∧ _ := ⟨hqz.cell 0 rfl, hqz.cell 1 rfl, hqz.cell 2 rfl, hqz.cell 3 rfl, hqz.cell 4 rfl, hqz.cell 5 rfl⟩
  clear hz j0 j1 j2 j3 j4 j5 m0 m1 x2 m3 m4 m5
  exact bodyPost_ret (v := .tuple #[.agg #[.int .i64 0, .string ⟨#[]⟩, .bool false, .string ⟨#[]⟩, .bool false, .string ⟨#[]⟩], .int .i64 1]) (by simp [results, Try.results14, go_sem, p0, p1, p2, p3, p4, p5]) rfl ⟨rfl, hbz⟩

set_option maxRecDepth 100000 in
set_option maxHeartbeats 4000000 in
theorem join_w4 (s : Int) (k : ByteArray) (m : Bool) (b : ByteArray) (n : Bool) (a : ByteArray) (s2 : Int) (k2 : ByteArray) (m2 : Bool) (b2 : ByteArray) (n2 : Bool) (a2 : ByteArray) (w : World) (hm1 : mayC ⟨s, k, m, b, n, a⟩ = true) (hm2 : mayC ⟨s2, k2, m2, b2, n2, a2⟩ = true) (hk : k = k2) (hs : ¬ s2 ≤ s) (hd : ¬ (n = m2 ∧ a = b2)) :
    Calls Try.prog 14 #[chV s k m b n a, chV s2 k2 m2 b2 n2 a2] w fun e w' => e = .returned (.tuple #[.agg #[.int .i64 0, .string ⟨#[]⟩, .bool false, .string ⟨#[]⟩, .bool false, .string ⟨#[]⟩], .int .i64 1]) ∧ Below w.heap.size w w' := by
  unfold chV
  have hc1 := fun w => may_any s k m b n a w
  rw [hm1] at hc1
  have HM1 := Lib.hid hc1
  clear hc1
  have hc2 := fun w => may_any s2 k2 m2 b2 n2 a2 w
  rw [hm2] at hc2
  have HM2 := Lib.hid hc2
  clear hc2
  have HK := Lib.hid hk
  clear hk
  have HS := Lib.hid hs
  clear hs
  have HD := Lib.hid hd
  clear hd
  obtain ⟨w1, hw1⟩ : ∃ w1, w1 = w.alloc (.cells #[.int .i64 s, .string k, .bool m, .string b, .bool n, .string a] 27) := ⟨_, rfl⟩
  obtain ⟨w2, hw2⟩ : ∃ w2, w2 = w1.alloc (.cells #[.int .i64 s2, .string k2, .bool m2, .string b2, .bool n2, .string a2] 27) := ⟨_, rfl⟩
  obtain ⟨w3, hw3⟩ : ∃ w3, w3 = w2.alloc (.cells #[.int .i64 0, .string ⟨#[]⟩, .bool false, .string ⟨#[]⟩, .bool false, .string ⟨#[]⟩] 27) := ⟨_, rfl⟩
  obtain ⟨g1, hg1⟩ : ∃ q, q = w.heap.size := ⟨_, rfl⟩
  obtain ⟨g2, hg2⟩ : ∃ q, q = w1.heap.size := ⟨_, rfl⟩
  obtain ⟨q, hq⟩ : ∃ q, q = w2.heap.size := ⟨_, rfl⟩
  have e4 : g1 + 1 = g2 := by rw [hg2, hw1, hg1]; simp
  have e5 : g2 + 1 = q := by rw [hq, hw2, hg2]; simp
  have hbx : Box w3 g1 27 #[.int .i64 s, .string k, .bool m, .string b, .bool n, .string a] := by rw [hw3, hw2]; exact Box.push (Box.push (by rw [hw1]; exact Box.at_ w _ _ hg1) _) _
  have hby : Box w3 g2 27 #[.int .i64 s2, .string k2, .bool m2, .string b2, .bool n2, .string a2] := by rw [hw3]; exact Box.push (by rw [hw2]; exact Box.at_ w1 _ _ hg2) _
  have Q3 := Lib.hid (show Box w3 q 27 #[.int .i64 0, .string ⟨#[]⟩, .bool false, .string ⟨#[]⟩, .bool false, .string ⟨#[]⟩] from by rw [hw3]; exact Box.at_ w2 _ _ hq)
  have hb3 : Below w.heap.size w w3 := by rw [hw3, hw2, hw1]; exact (((Below.refl _ _).alloc (Nat.le_refl _) _).alloc (by simp) _).alloc (by simp; omega) _
  have HB3 := Lib.hid hb3
  have HQ := Lib.hid (show w.heap.size ≤ q from by omega)
  have HX := Lib.hid (show ∀ wx, Below w3.heap.size w3 wx → _ ∧ _ ∧ _ ∧ _ ∧ _ ∧ _ from fun wx hh => let hx := hbx.on hh; ⟨hx.cell 0 rfl, hx.cell 1 rfl, hx.cell 2 rfl, hx.cell 3 rfl, hx.cell 4 rfl, hx.cell 5 rfl⟩)
  have HY := Lib.hid (show ∀ wx, Below w3.heap.size w3 wx → _ ∧ _ ∧ _ ∧ _ ∧ _ ∧ _ from fun wx hh => let hx := hby.on hh; ⟨hx.cell 0 rfl, hx.cell 1 rfl, hx.cell 2 rfl, hx.cell 3 rfl, hx.cell 4 rfl, hx.cell 5 rfl⟩)
  clear hb3 hbx hby
  go_enter Try.func14, Try.ntmps14
  go_upto_region 1 with fail
  rw [← hg1, e4, ← hw1, ← hw2, e5, ← hw3]
  clear hg1 hg2 e4 e5 hw1 hw2 hw3 hq
  refine wp_region_phase 40 [6, 7, 8, 9, 10, 11, 12, 13, 14, 15, 16, 17, 18, 19, 20, 21, 22, 23, 24, 25, 26, 27, 28, 29, 30, 31, 32, 33, 34] (by kernel_rfl) [] [] (fun _ _ => True) 0 rfl (by kernel_rfl) ((fun _ wx => Below w3.heap.size w3 wx)) (fun wa wb => Below wa.heap.size wa wb) (JnV4 s k m b n a s2 k2 m2 b2 n2 a2 g1 g2) (by kernel_rfl) (fun _ wa wb h1 h2 => h2.trans (h1.mono h2.size)) (fun _ t v wa wb h1 h2 => h2.on h1) (fun _ _ _ _ _ _ _ => trivial) (Below.refl _ _).drew trivial (phase0 ?_) ?_
  · refine Steps1.cons (fun _ ax wx hS _ hG => ?_) (Steps1.cons (fun _ ax wx hS _ hG => ?_) (Steps1.cons (fun _ ax wx hS _ hG => ?_) (Steps1.cons (fun _ ax wx hS _ hG => ?_) (Steps1.cons (fun _ ax wx hS _ hG => ?_) (Steps1.cons (fun _ ax wx hS _ hG => ?_) (Steps1.cons (fun _ ax wx hS _ hG => ?_) (Steps1.cons (fun _ ax wx hS _ hG => ?_) (Steps1.cons (fun _ ax wx hS _ hG => ?_) (Steps1.cons (fun _ ax wx hS _ hG => ?_) (Steps1.cons (fun _ ax wx hS _ hG => ?_) (Steps1.cons (fun _ ax wx hS _ hG => ?_) (Steps1.cons (fun _ ax wx hS _ hG => ?_) (Steps1.cons (fun _ ax wx hS _ hG => ?_) (Steps1.cons (fun _ ax wx hS _ hG => ?_) (Steps1.cons (fun _ ax wx hS _ hG => ?_) (Steps1.cons (fun _ ax wx hS _ hG => ?_) (Steps1.cons (fun _ ax wx hS _ hG => ?_) (Steps1.cons (fun _ ax wx hS _ hG => ?_) (Steps1.cons (fun _ ax wx hS _ hG => ?_) (Steps1.cons (fun _ ax wx hS _ hG => ?_) (Steps1.cons (fun _ ax wx hS _ hG => ?_) (Steps1.cons (fun _ ax wx hS _ hG => ?_) (Steps1.cons (fun _ ax wx hS _ hG => ?_) (Steps1.cons (fun _ ax wx hS _ hG => ?_) (Steps1.cons (fun _ ax wx hS _ hG => ?_) (Steps1.cons (fun _ ax wx hS _ hG => ?_) (Steps1.cons (fun _ ax wx hS _ hG => ?_) (Steps1.cons (fun _ ax wx hS _ hG => ?_) Steps1.nil))))))))))))))))))))))))))))
    · have q2 := hG.old 2 (by kernel_rfl) (by kernel_rfl)
      obtain ⟨z0, z1, z2, z3, z4, z5⟩ := HX.out wx hS
      refine step_slot rfl rfl rfl (step_value (v := .agg #[.int .i64 s, .string k, .bool m, .string b, .bool n, .string a]) (w' := wx) rfl rfl ?_ (Below.refl _ _) (fun d hd => by cases hd; exact rfl))
      go_simp
    · obtain ⟨_, q6, rfl⟩ := hG.new 6 (by kernel_rfl) (by kernel_rfl)
      refine step_slot rfl rfl rfl (step_call (w1 := wx) (f := 31) (args := #[.agg #[.int .i64 s, .string k, .bool m, .string b, .bool n, .string a]]) rfl rfl ?_ ((HM1.out wx).mono ?_))
      · skip
        go_simp
      · rintro e w' ⟨rfl, hq⟩
        exact ⟨_, rfl, hq, fun d hd => by cases hd; exact rfl⟩
    · obtain ⟨_, q7, rfl⟩ := hG.new 7 (by kernel_rfl) (by kernel_rfl)
      refine step_slot rfl rfl rfl (step_value (v := .bool false) (w' := wx) rfl rfl ?_ (Below.refl _ _) (fun d hd => by cases hd; exact rfl))
      go_simp
    · obtain ⟨_, q8, rfl⟩ := hG.new 8 (by kernel_rfl) (by kernel_rfl)
      refine step_slot rfl rfl rfl (step_value (v := .bool false) (w' := wx) rfl rfl ?_ (Below.refl _ _) (fun d hd => by cases hd; exact rfl))
      go_simp
    · obtain ⟨_, q9, rfl⟩ := hG.new 9 (by kernel_rfl) (by kernel_rfl)
      have q3 := hG.old 3 (by kernel_rfl) (by kernel_rfl)
      obtain ⟨z0, z1, z2, z3, z4, z5⟩ := HY.out wx hS
      refine step_slot rfl rfl rfl (step_value (v := .agg #[.int .i64 s2, .string k2, .bool m2, .string b2, .bool n2, .string a2]) (w' := wx) rfl (by simp [Region.wanted, yielded, q9, undef]) ?_ (Below.refl _ _) (fun d hd => by cases hd; exact rfl))
      go_simp
    · obtain ⟨_, q9, rfl⟩ := hG.new 9 (by kernel_rfl) (by kernel_rfl)
      obtain ⟨_, q10, rfl⟩ := hG.new 10 (by kernel_rfl) (by kernel_rfl)
      refine step_slot rfl rfl rfl (step_call (w1 := wx) (f := 31) (args := #[.agg #[.int .i64 s2, .string k2, .bool m2, .string b2, .bool n2, .string a2]]) rfl (by simp [Region.wanted, yielded, q9, undef]) ?_ ((HM2.out wx).mono ?_))
      · skip
        go_simp
      · rintro e w' ⟨rfl, hq⟩
        exact ⟨_, rfl, hq, fun d hd => by cases hd; exact rfl⟩
    · obtain ⟨_, q9, rfl⟩ := hG.new 9 (by kernel_rfl) (by kernel_rfl)
      obtain ⟨_, q11, rfl⟩ := hG.new 11 (by kernel_rfl) (by kernel_rfl)
      refine step_slot rfl rfl rfl (step_value (v := .bool false) (w' := wx) rfl (by simp [Region.wanted, yielded, q9, undef]) ?_ (Below.refl _ _) (fun d hd => by cases hd; exact rfl))
      go_simp
    · obtain ⟨_, q9, rfl⟩ := hG.new 9 (by kernel_rfl) (by kernel_rfl)
      obtain ⟨_, q12, rfl⟩ := hG.new 12 (by kernel_rfl) (by kernel_rfl)
      refine step_slot rfl rfl rfl (step_value (v := .bool false) (w' := wx) rfl rfl ?_ (Below.refl _ _) (fun d hd => by cases hd; exact rfl))
      go_simp
    · obtain ⟨_, q13, rfl⟩ := hG.new 13 (by kernel_rfl) (by kernel_rfl)
      refine step_slot rfl rfl rfl (step_value (v := .bool false) (w' := wx) rfl rfl ?_ (Below.refl _ _) (fun d hd => by cases hd; exact rfl))
      go_simp
    · obtain ⟨_, q14, rfl⟩ := hG.new 14 (by kernel_rfl) (by kernel_rfl)
      have q2 := hG.old 2 (by kernel_rfl) (by kernel_rfl)
      refine step_slot rfl rfl rfl (step_value (v := .pointer (some ⟨g1, 1, none⟩)) (w' := wx) rfl (by simp [Region.wanted, yielded, q14, undef]) ?_ (Below.refl _ _) (fun d hd => by cases hd; exact rfl))
      go_simp
    · obtain ⟨_, q14, rfl⟩ := hG.new 14 (by kernel_rfl) (by kernel_rfl)
      obtain ⟨_, q15, rfl⟩ := hG.new 15 (by kernel_rfl) (by kernel_rfl)
      obtain ⟨z0, z1, z2, z3, z4, z5⟩ := HX.out wx hS
      refine step_slot rfl rfl rfl (step_value (v := .string k) (w' := wx) rfl (by simp [Region.wanted, yielded, q14, undef]) ?_ (Below.refl _ _) (fun d hd => by cases hd; exact rfl))
      go_simp
    · obtain ⟨_, q14, rfl⟩ := hG.new 14 (by kernel_rfl) (by kernel_rfl)
      have q3 := hG.old 3 (by kernel_rfl) (by kernel_rfl)
      refine step_slot rfl rfl rfl (step_value (v := .pointer (some ⟨g2, 1, none⟩)) (w' := wx) rfl (by simp [Region.wanted, yielded, q14, undef]) ?_ (Below.refl _ _) (fun d hd => by cases hd; exact rfl))
      go_simp
    · obtain ⟨_, q14, rfl⟩ := hG.new 14 (by kernel_rfl) (by kernel_rfl)
      obtain ⟨_, q17, rfl⟩ := hG.new 17 (by kernel_rfl) (by kernel_rfl)
      obtain ⟨z0, z1, z2, z3, z4, z5⟩ := HY.out wx hS
      refine step_slot rfl rfl rfl (step_value (v := .string k2) (w' := wx) rfl (by simp [Region.wanted, yielded, q14, undef]) ?_ (Below.refl _ _) (fun d hd => by cases hd; exact rfl))
      go_simp
    · obtain ⟨_, q14, rfl⟩ := hG.new 14 (by kernel_rfl) (by kernel_rfl)
      obtain ⟨_, q16, rfl⟩ := hG.new 16 (by kernel_rfl) (by kernel_rfl)
      obtain ⟨_, q18, rfl⟩ := hG.new 18 (by kernel_rfl) (by kernel_rfl)
      have hk := HK.out
      refine step_slot rfl rfl rfl (step_value (v := .bool false) (w' := wx) rfl (by simp [Region.wanted, yielded, q14, undef]) ?_ (Below.refl _ _) (fun d hd => by cases hd; exact rfl))
      (go_simp; first | done | exact hk | exact fun e => hk (tl_inj e) | simp [hk])
    · obtain ⟨_, q14, rfl⟩ := hG.new 14 (by kernel_rfl) (by kernel_rfl)
      obtain ⟨_, q19, rfl⟩ := hG.new 19 (by kernel_rfl) (by kernel_rfl)
      refine step_slot rfl rfl rfl (step_value (v := .bool false) (w' := wx) rfl rfl ?_ (Below.refl _ _) (fun d hd => by cases hd; exact rfl))
      go_simp
    · obtain ⟨_, q20, rfl⟩ := hG.new 20 (by kernel_rfl) (by kernel_rfl)
      refine step_slot rfl rfl rfl (step_value (v := .bool false) (w' := wx) rfl rfl ?_ (Below.refl _ _) (fun d hd => by cases hd; exact rfl))
      go_simp
    · obtain ⟨_, q21, rfl⟩ := hG.new 21 (by kernel_rfl) (by kernel_rfl)
      have q3 := hG.old 3 (by kernel_rfl) (by kernel_rfl)
      refine step_slot rfl rfl rfl (step_value (v := .pointer (some ⟨g2, 0, none⟩)) (w' := wx) rfl (by simp [Region.wanted, yielded, q21, undef]) ?_ (Below.refl _ _) (fun d hd => by cases hd; exact rfl))
      go_simp
    · obtain ⟨_, q21, rfl⟩ := hG.new 21 (by kernel_rfl) (by kernel_rfl)
      obtain ⟨_, q22, rfl⟩ := hG.new 22 (by kernel_rfl) (by kernel_rfl)
      obtain ⟨z0, z1, z2, z3, z4, z5⟩ := HY.out wx hS
      refine step_slot rfl rfl rfl (step_value (v := .int .i64 s2) (w' := wx) rfl (by simp [Region.wanted, yielded, q21, undef]) ?_ (Below.refl _ _) (fun d hd => by cases hd; exact rfl))
      go_simp
    · obtain ⟨_, q21, rfl⟩ := hG.new 21 (by kernel_rfl) (by kernel_rfl)
      have q2 := hG.old 2 (by kernel_rfl) (by kernel_rfl)
      refine step_slot rfl rfl rfl (step_value (v := .pointer (some ⟨g1, 0, none⟩)) (w' := wx) rfl (by simp [Region.wanted, yielded, q21, undef]) ?_ (Below.refl _ _) (fun d hd => by cases hd; exact rfl))
      go_simp
    · obtain ⟨_, q21, rfl⟩ := hG.new 21 (by kernel_rfl) (by kernel_rfl)
      obtain ⟨_, q24, rfl⟩ := hG.new 24 (by kernel_rfl) (by kernel_rfl)
      obtain ⟨z0, z1, z2, z3, z4, z5⟩ := HX.out wx hS
      refine step_slot rfl rfl rfl (step_value (v := .int .i64 s) (w' := wx) rfl (by simp [Region.wanted, yielded, q21, undef]) ?_ (Below.refl _ _) (fun d hd => by cases hd; exact rfl))
      go_simp
    · obtain ⟨_, q21, rfl⟩ := hG.new 21 (by kernel_rfl) (by kernel_rfl)
      obtain ⟨_, q23, rfl⟩ := hG.new 23 (by kernel_rfl) (by kernel_rfl)
      obtain ⟨_, q25, rfl⟩ := hG.new 25 (by kernel_rfl) (by kernel_rfl)
      have hs := HS.out
      refine step_slot rfl rfl rfl (step_value (v := .bool false) (w' := wx) rfl (by simp [Region.wanted, yielded, q21, undef]) ?_ (Below.refl _ _) (fun d hd => by cases hd; exact rfl))
      (go_simp; first | done | exact hs | omega | simp [hs])
    · obtain ⟨_, q21, rfl⟩ := hG.new 21 (by kernel_rfl) (by kernel_rfl)
      obtain ⟨_, q26, rfl⟩ := hG.new 26 (by kernel_rfl) (by kernel_rfl)
      refine step_slot rfl rfl rfl (step_value (v := .bool false) (w' := wx) rfl rfl ?_ (Below.refl _ _) (fun d hd => by cases hd; exact rfl))
      go_simp
    · obtain ⟨_, q27, rfl⟩ := hG.new 27 (by kernel_rfl) (by kernel_rfl)
      refine step_slot rfl rfl rfl (step_value (v := .bool false) (w' := wx) rfl rfl ?_ (Below.refl _ _) (fun d hd => by cases hd; exact rfl))
      go_simp
    · obtain ⟨_, q28, rfl⟩ := hG.new 28 (by kernel_rfl) (by kernel_rfl)
      have q2 := hG.old 2 (by kernel_rfl) (by kernel_rfl)
      obtain ⟨z0, z1, z2, z3, z4, z5⟩ := HX.out wx hS
      refine step_slot rfl rfl rfl (step_value (v := .agg #[.int .i64 s, .string k, .bool m, .string b, .bool n, .string a]) (w' := wx) rfl (by simp [Region.wanted, yielded, q28, undef]) ?_ (Below.refl _ _) (fun d hd => by cases hd; exact rfl))
      go_simp
    · obtain ⟨_, q28, rfl⟩ := hG.new 28 (by kernel_rfl) (by kernel_rfl)
      obtain ⟨_, q29, rfl⟩ := hG.new 29 (by kernel_rfl) (by kernel_rfl)
      refine step_slot rfl rfl rfl (step_call (w1 := wx) (f := 32) (args := #[.agg #[.int .i64 s, .string k, .bool m, .string b, .bool n, .string a]]) rfl (by simp [Region.wanted, yielded, q28, undef]) ?_ ((behind_any s k m b n a wx).mono ?_))
      · skip
        go_simp
      · rintro e w' ⟨rfl, hq⟩
        exact ⟨_, rfl, hq, fun d hd => by cases hd; exact rfl⟩
    · obtain ⟨_, q28, rfl⟩ := hG.new 28 (by kernel_rfl) (by kernel_rfl)
      have q3 := hG.old 3 (by kernel_rfl) (by kernel_rfl)
      obtain ⟨z0, z1, z2, z3, z4, z5⟩ := HY.out wx hS
      refine step_slot rfl rfl rfl (step_value (v := .agg #[.int .i64 s2, .string k2, .bool m2, .string b2, .bool n2, .string a2]) (w' := wx) rfl (by simp [Region.wanted, yielded, q28, undef]) ?_ (Below.refl _ _) (fun d hd => by cases hd; exact rfl))
      go_simp
    · obtain ⟨_, q28, rfl⟩ := hG.new 28 (by kernel_rfl) (by kernel_rfl)
      obtain ⟨_, q31, rfl⟩ := hG.new 31 (by kernel_rfl) (by kernel_rfl)
      refine step_slot rfl rfl rfl (step_call (w1 := wx) (f := 33) (args := #[.agg #[.int .i64 s2, .string k2, .bool m2, .string b2, .bool n2, .string a2]]) rfl (by simp [Region.wanted, yielded, q28, undef]) ?_ ((ahead_any s2 k2 m2 b2 n2 a2 wx).mono ?_))
      · skip
        go_simp
      · rintro e w' ⟨rfl, hq⟩
        exact ⟨_, rfl, hq, fun d hd => by cases hd; exact rfl⟩
    · obtain ⟨_, q28, rfl⟩ := hG.new 28 (by kernel_rfl) (by kernel_rfl)
      obtain ⟨_, q30, rfl⟩ := hG.new 30 (by kernel_rfl) (by kernel_rfl)
      obtain ⟨_, q32, rfl⟩ := hG.new 32 (by kernel_rfl) (by kernel_rfl)
      have hd := HD.out
      refine step_slot rfl rfl rfl (step_value (v := .bool true) (w' := wx) rfl (by simp [Region.wanted, yielded, q28, undef]) ?_ (Below.refl _ _) (fun d hd => by cases hd; exact rfl))
      (go_simp; first | done | exact hd | exact fun e f => hd ⟨e, tl_inj f⟩ | simp [hd])
    · obtain ⟨_, q28, rfl⟩ := hG.new 28 (by kernel_rfl) (by kernel_rfl)
      obtain ⟨_, q33, rfl⟩ := hG.new 33 (by kernel_rfl) (by kernel_rfl)
      refine step_slot rfl rfl rfl (step_value (v := .bool true) (w' := wx) rfl rfl ?_ (Below.refl _ _) (fun d hd => by cases hd; exact rfl))
      go_simp
  intro fv w8 hS8 _ hV8
  have e34 : fv 34 = .bool true := hV8 34 (by decide)
  simp only [puts, Act.put, List.setIfInBounds_toArray, List.set_cons_succ, List.set_cons_zero]
  clear hV8
  rw [e34]
  obtain ⟨u0, u1, u2, u3, u4, u5⟩ : _ ∧ _ ∧ _ ∧ _ ∧ _ ∧ _ := HX.out w8 hS8
  obtain ⟨y0, y1, y2, y3, y4, y5⟩ : _ ∧ _ ∧ _ ∧ _ ∧ _ ∧ _ := HY.out w8 hS8
  have Q8 := Lib.hid (Q3.out.on hS8)
  have HB8 := Lib.hid (HB3.out.trans ((show Below w3.heap.size w3 w8 from hS8).mono HB3.out.size))
  obtain ⟨j0, j1, j2, j3, j4, j5⟩ := (⟨Box.free Q8.out 0, Box.free Q8.out 1, Box.free Q8.out 2, Box.free Q8.out 3, Box.free Q8.out 4, Box.free Q8.out 5⟩ : _ ∧ _ ∧ _ ∧ _ ∧ _ ∧ _)
  obtain ⟨m0, m1, x2, m3, m4, m5⟩ := (⟨Box.cell Q8.out 0 rfl, Box.cell Q8.out 1 rfl, Box.cell Q8.out 2 rfl, Box.cell Q8.out 3 rfl, Box.cell Q8.out 4 rfl, Box.cell Q8.out 5 rfl⟩ : _ ∧ _ ∧ _ ∧ _ ∧ _ ∧ _)
  clear hS8
  go_wp2
  obtain ⟨wz, hz⟩ : ∃ wz, wz = ((((((w8.setCell ⟨q, 0, none⟩ (.int .i64 0)).setCell ⟨q, 1, none⟩ (.string ⟨#[]⟩)).setCell ⟨q, 2, none⟩ (.bool false)).setCell ⟨q, 3, none⟩ (.string ⟨#[]⟩)).setCell ⟨q, 4, none⟩ (.bool false)).setCell ⟨q, 5, none⟩ (.string ⟨#[]⟩)) := ⟨_, rfl⟩
  rw [← hz]
  have hqz : Box wz q 27 #[.int .i64 0, .string ⟨#[]⟩, .bool false, .string ⟨#[]⟩, .bool false, .string ⟨#[]⟩] := by rw [hz]; exact ((((((Box.set Q8.out 0 _).set 1 _).set 2 _).set 3 _).set 4 _).set 5 _)
  have hbz : Below w.heap.size w wz := by rw [hz]; exact ((((((HB8.out.setCell (p := ⟨q, 0, none⟩) HQ.out _).setCell (p := ⟨q, 1, none⟩) HQ.out _).setCell (p := ⟨q, 2, none⟩) HQ.out _).setCell (p := ⟨q, 3, none⟩) HQ.out _).setCell (p := ⟨q, 4, none⟩) HQ.out _).setCell (p := ⟨q, 5, none⟩) HQ.out _)
  obtain ⟨p0, p1, p2, p3, p4, p5⟩ : _ ∧ _ ∧ _ ∧ _ ∧ _ ∧ _ := ⟨hqz.cell 0 rfl, hqz.cell 1 rfl, hqz.cell 2 rfl, hqz.cell 3 rfl, hqz.cell 4 rfl, hqz.cell 5 rfl⟩
  clear hz j0 j1 j2 j3 j4 j5 m0 m1 x2 m3 m4 m5
  exact bodyPost_ret (v := .tuple #[.agg #[.int .i64 0, .string ⟨#[]⟩, .bool false, .string ⟨#[]⟩, .bool false, .string ⟨#[]⟩], .int .i64 1]) (by simp [results, Try.results14, go_sem, p0, p1, p2, p3, p4, p5]) rfl ⟨rfl, hbz⟩

set_option maxRecDepth 100000 in
set_option maxHeartbeats 4000000 in
theorem join_w6 (s : Int) (k : ByteArray) (m : Bool) (b : ByteArray) (n : Bool) (a : ByteArray) (s2 : Int) (k2 : ByteArray) (m2 : Bool) (b2 : ByteArray) (n2 : Bool) (a2 : ByteArray) (w : World) (hm1 : mayC ⟨s, k, m, b, n, a⟩ = true) (hm2 : mayC ⟨s2, k2, m2, b2, n2, a2⟩ = true) (hk : k = k2) (hs : ¬ s2 ≤ s) (hd : n = m2 ∧ a = b2) (ho : (m || n2) = false) :
    Calls Try.prog 14 #[chV s k m b n a, chV s2 k2 m2 b2 n2 a2] w fun e w' => e = .returned (.tuple #[.agg #[.int .i64 0, .string ⟨#[]⟩, .bool false, .string ⟨#[]⟩, .bool false, .string ⟨#[]⟩], .int .i64 3]) ∧ Below w.heap.size w w' := by
  unfold chV
  have hc1 := fun w => may_any s k m b n a w
  rw [hm1] at hc1
  have HM1 := Lib.hid hc1
  clear hc1
  have hc2 := fun w => may_any s2 k2 m2 b2 n2 a2 w
  rw [hm2] at hc2
  have HM2 := Lib.hid hc2
  clear hc2
  have HK := Lib.hid hk
  clear hk
  have HS := Lib.hid hs
  clear hs
  have HD := Lib.hid hd
  clear hd
  obtain ⟨rfl, rfl⟩ : m = false ∧ n2 = false := by cases m <;> cases n2 <;> first | exact ⟨rfl, rfl⟩ | cases ho
  clear ho
  obtain ⟨w1, hw1⟩ : ∃ w1, w1 = w.alloc (.cells #[.int .i64 s, .string k, .bool false, .string b, .bool n, .string a] 27) := ⟨_, rfl⟩
  obtain ⟨w2, hw2⟩ : ∃ w2, w2 = w1.alloc (.cells #[.int .i64 s2, .string k2, .bool m2, .string b2, .bool false, .string a2] 27) := ⟨_, rfl⟩
  obtain ⟨w3, hw3⟩ : ∃ w3, w3 = w2.alloc (.cells #[.int .i64 0, .string ⟨#[]⟩, .bool false, .string ⟨#[]⟩, .bool false, .string ⟨#[]⟩] 27) := ⟨_, rfl⟩
  obtain ⟨g1, hg1⟩ : ∃ q, q = w.heap.size := ⟨_, rfl⟩
  obtain ⟨g2, hg2⟩ : ∃ q, q = w1.heap.size := ⟨_, rfl⟩
  obtain ⟨q, hq⟩ : ∃ q, q = w2.heap.size := ⟨_, rfl⟩
  have e4 : g1 + 1 = g2 := by rw [hg2, hw1, hg1]; simp
  have e5 : g2 + 1 = q := by rw [hq, hw2, hg2]; simp
  have hbx : Box w3 g1 27 #[.int .i64 s, .string k, .bool false, .string b, .bool n, .string a] := by rw [hw3, hw2]; exact Box.push (Box.push (by rw [hw1]; exact Box.at_ w _ _ hg1) _) _
  have hby : Box w3 g2 27 #[.int .i64 s2, .string k2, .bool m2, .string b2, .bool false, .string a2] := by rw [hw3]; exact Box.push (by rw [hw2]; exact Box.at_ w1 _ _ hg2) _
  have Q3 := Lib.hid (show Box w3 q 27 #[.int .i64 0, .string ⟨#[]⟩, .bool false, .string ⟨#[]⟩, .bool false, .string ⟨#[]⟩] from by rw [hw3]; exact Box.at_ w2 _ _ hq)
  have hb3 : Below w.heap.size w w3 := by rw [hw3, hw2, hw1]; exact (((Below.refl _ _).alloc (Nat.le_refl _) _).alloc (by simp) _).alloc (by simp; omega) _
  have HB3 := Lib.hid hb3
  have HQ := Lib.hid (show w.heap.size ≤ q from by omega)
  have HX := Lib.hid (show ∀ wx, Below w3.heap.size w3 wx → _ ∧ _ ∧ _ ∧ _ ∧ _ ∧ _ from fun wx hh => let hx := hbx.on hh; ⟨hx.cell 0 rfl, hx.cell 1 rfl, hx.cell 2 rfl, hx.cell 3 rfl, hx.cell 4 rfl, hx.cell 5 rfl⟩)
  have HY := Lib.hid (show ∀ wx, Below w3.heap.size w3 wx → _ ∧ _ ∧ _ ∧ _ ∧ _ ∧ _ from fun wx hh => let hx := hby.on hh; ⟨hx.cell 0 rfl, hx.cell 1 rfl, hx.cell 2 rfl, hx.cell 3 rfl, hx.cell 4 rfl, hx.cell 5 rfl⟩)
  clear hb3 hbx hby
  go_enter Try.func14, Try.ntmps14
  go_upto_region 1 with fail
  rw [← hg1, e4, ← hw1, ← hw2, e5, ← hw3]
  clear hg1 hg2 e4 e5 hw1 hw2 hw3 hq
  refine wp_region_phase 40 [6, 7, 8, 9, 10, 11, 12, 13, 14, 15, 16, 17, 18, 19, 20, 21, 22, 23, 24, 25, 26, 27, 28, 29, 30, 31, 32, 33, 34] (by kernel_rfl) [] [] (fun _ _ => True) 0 rfl (by kernel_rfl) ((fun _ wx => Below w3.heap.size w3 wx)) (fun wa wb => Below wa.heap.size wa wb) (JnV5 s k false b n a s2 k2 m2 b2 false a2 g1 g2) (by kernel_rfl) (fun _ wa wb h1 h2 => h2.trans (h1.mono h2.size)) (fun _ t v wa wb h1 h2 => h2.on h1) (fun _ _ _ _ _ _ _ => trivial) (Below.refl _ _).drew trivial (phase0 ?_) ?_
  · refine Steps1.cons (fun _ ax wx hS _ hG => ?_) (Steps1.cons (fun _ ax wx hS _ hG => ?_) (Steps1.cons (fun _ ax wx hS _ hG => ?_) (Steps1.cons (fun _ ax wx hS _ hG => ?_) (Steps1.cons (fun _ ax wx hS _ hG => ?_) (Steps1.cons (fun _ ax wx hS _ hG => ?_) (Steps1.cons (fun _ ax wx hS _ hG => ?_) (Steps1.cons (fun _ ax wx hS _ hG => ?_) (Steps1.cons (fun _ ax wx hS _ hG => ?_) (Steps1.cons (fun _ ax wx hS _ hG => ?_) (Steps1.cons (fun _ ax wx hS _ hG => ?_) (Steps1.cons (fun _ ax wx hS _ hG => ?_) (Steps1.cons (fun _ ax wx hS _ hG => ?_) (Steps1.cons (fun _ ax wx hS _ hG => ?_) (Steps1.cons (fun _ ax wx hS _ hG => ?_) (Steps1.cons (fun _ ax wx hS _ hG => ?_) (Steps1.cons (fun _ ax wx hS _ hG => ?_) (Steps1.cons (fun _ ax wx hS _ hG => ?_) (Steps1.cons (fun _ ax wx hS _ hG => ?_) (Steps1.cons (fun _ ax wx hS _ hG => ?_) (Steps1.cons (fun _ ax wx hS _ hG => ?_) (Steps1.cons (fun _ ax wx hS _ hG => ?_) (Steps1.cons (fun _ ax wx hS _ hG => ?_) (Steps1.cons (fun _ ax wx hS _ hG => ?_) (Steps1.cons (fun _ ax wx hS _ hG => ?_) (Steps1.cons (fun _ ax wx hS _ hG => ?_) (Steps1.cons (fun _ ax wx hS _ hG => ?_) (Steps1.cons (fun _ ax wx hS _ hG => ?_) (Steps1.cons (fun _ ax wx hS _ hG => ?_) Steps1.nil))))))))))))))))))))))))))))
    · have q2 := hG.old 2 (by kernel_rfl) (by kernel_rfl)
      obtain ⟨z0, z1, z2, z3, z4, z5⟩ := HX.out wx hS
      refine step_slot rfl rfl rfl (step_value (v := .agg #[.int .i64 s, .string k, .bool false, .string b, .bool n, .string a]) (w' := wx) rfl rfl ?_ (Below.refl _ _) (fun d hd => by cases hd; exact rfl))
      go_simp
    · obtain ⟨_, q6, rfl⟩ := hG.new 6 (by kernel_rfl) (by kernel_rfl)
      refine step_slot rfl rfl rfl (step_call (w1 := wx) (f := 31) (args := #[.agg #[.int .i64 s, .string k, .bool false, .string b, .bool n, .string a]]) rfl rfl ?_ ((HM1.out wx).mono ?_))
      · skip
        go_simp
      · rintro e w' ⟨rfl, hq⟩
        exact ⟨_, rfl, hq, fun d hd => by cases hd; exact rfl⟩
    · obtain ⟨_, q7, rfl⟩ := hG.new 7 (by kernel_rfl) (by kernel_rfl)
      refine step_slot rfl rfl rfl (step_value (v := .bool false) (w' := wx) rfl rfl ?_ (Below.refl _ _) (fun d hd => by cases hd; exact rfl))
      go_simp
    · obtain ⟨_, q8, rfl⟩ := hG.new 8 (by kernel_rfl) (by kernel_rfl)
      refine step_slot rfl rfl rfl (step_value (v := .bool false) (w' := wx) rfl rfl ?_ (Below.refl _ _) (fun d hd => by cases hd; exact rfl))
      go_simp
    · obtain ⟨_, q9, rfl⟩ := hG.new 9 (by kernel_rfl) (by kernel_rfl)
      have q3 := hG.old 3 (by kernel_rfl) (by kernel_rfl)
      obtain ⟨z0, z1, z2, z3, z4, z5⟩ := HY.out wx hS
      refine step_slot rfl rfl rfl (step_value (v := .agg #[.int .i64 s2, .string k2, .bool m2, .string b2, .bool false, .string a2]) (w' := wx) rfl (by simp [Region.wanted, yielded, q9, undef]) ?_ (Below.refl _ _) (fun d hd => by cases hd; exact rfl))
      go_simp
    · obtain ⟨_, q9, rfl⟩ := hG.new 9 (by kernel_rfl) (by kernel_rfl)
      obtain ⟨_, q10, rfl⟩ := hG.new 10 (by kernel_rfl) (by kernel_rfl)
      refine step_slot rfl rfl rfl (step_call (w1 := wx) (f := 31) (args := #[.agg #[.int .i64 s2, .string k2, .bool m2, .string b2, .bool false, .string a2]]) rfl (by simp [Region.wanted, yielded, q9, undef]) ?_ ((HM2.out wx).mono ?_))
      · skip
        go_simp
      · rintro e w' ⟨rfl, hq⟩
        exact ⟨_, rfl, hq, fun d hd => by cases hd; exact rfl⟩
    · obtain ⟨_, q9, rfl⟩ := hG.new 9 (by kernel_rfl) (by kernel_rfl)
      obtain ⟨_, q11, rfl⟩ := hG.new 11 (by kernel_rfl) (by kernel_rfl)
      refine step_slot rfl rfl rfl (step_value (v := .bool false) (w' := wx) rfl (by simp [Region.wanted, yielded, q9, undef]) ?_ (Below.refl _ _) (fun d hd => by cases hd; exact rfl))
      go_simp
    · obtain ⟨_, q9, rfl⟩ := hG.new 9 (by kernel_rfl) (by kernel_rfl)
      obtain ⟨_, q12, rfl⟩ := hG.new 12 (by kernel_rfl) (by kernel_rfl)
      refine step_slot rfl rfl rfl (step_value (v := .bool false) (w' := wx) rfl rfl ?_ (Below.refl _ _) (fun d hd => by cases hd; exact rfl))
      go_simp
    · obtain ⟨_, q13, rfl⟩ := hG.new 13 (by kernel_rfl) (by kernel_rfl)
      refine step_slot rfl rfl rfl (step_value (v := .bool false) (w' := wx) rfl rfl ?_ (Below.refl _ _) (fun d hd => by cases hd; exact rfl))
      go_simp
    · obtain ⟨_, q14, rfl⟩ := hG.new 14 (by kernel_rfl) (by kernel_rfl)
      have q2 := hG.old 2 (by kernel_rfl) (by kernel_rfl)
      refine step_slot rfl rfl rfl (step_value (v := .pointer (some ⟨g1, 1, none⟩)) (w' := wx) rfl (by simp [Region.wanted, yielded, q14, undef]) ?_ (Below.refl _ _) (fun d hd => by cases hd; exact rfl))
      go_simp
    · obtain ⟨_, q14, rfl⟩ := hG.new 14 (by kernel_rfl) (by kernel_rfl)
      obtain ⟨_, q15, rfl⟩ := hG.new 15 (by kernel_rfl) (by kernel_rfl)
      obtain ⟨z0, z1, z2, z3, z4, z5⟩ := HX.out wx hS
      refine step_slot rfl rfl rfl (step_value (v := .string k) (w' := wx) rfl (by simp [Region.wanted, yielded, q14, undef]) ?_ (Below.refl _ _) (fun d hd => by cases hd; exact rfl))
      go_simp
    · obtain ⟨_, q14, rfl⟩ := hG.new 14 (by kernel_rfl) (by kernel_rfl)
      have q3 := hG.old 3 (by kernel_rfl) (by kernel_rfl)
      refine step_slot rfl rfl rfl (step_value (v := .pointer (some ⟨g2, 1, none⟩)) (w' := wx) rfl (by simp [Region.wanted, yielded, q14, undef]) ?_ (Below.refl _ _) (fun d hd => by cases hd; exact rfl))
      go_simp
    · obtain ⟨_, q14, rfl⟩ := hG.new 14 (by kernel_rfl) (by kernel_rfl)
      obtain ⟨_, q17, rfl⟩ := hG.new 17 (by kernel_rfl) (by kernel_rfl)
      obtain ⟨z0, z1, z2, z3, z4, z5⟩ := HY.out wx hS
      refine step_slot rfl rfl rfl (step_value (v := .string k2) (w' := wx) rfl (by simp [Region.wanted, yielded, q14, undef]) ?_ (Below.refl _ _) (fun d hd => by cases hd; exact rfl))
      go_simp
    · obtain ⟨_, q14, rfl⟩ := hG.new 14 (by kernel_rfl) (by kernel_rfl)
      obtain ⟨_, q16, rfl⟩ := hG.new 16 (by kernel_rfl) (by kernel_rfl)
      obtain ⟨_, q18, rfl⟩ := hG.new 18 (by kernel_rfl) (by kernel_rfl)
      have hk := HK.out
      refine step_slot rfl rfl rfl (step_value (v := .bool false) (w' := wx) rfl (by simp [Region.wanted, yielded, q14, undef]) ?_ (Below.refl _ _) (fun d hd => by cases hd; exact rfl))
      (go_simp; first | done | exact hk | exact fun e => hk (tl_inj e) | simp [hk])
    · obtain ⟨_, q14, rfl⟩ := hG.new 14 (by kernel_rfl) (by kernel_rfl)
      obtain ⟨_, q19, rfl⟩ := hG.new 19 (by kernel_rfl) (by kernel_rfl)
      refine step_slot rfl rfl rfl (step_value (v := .bool false) (w' := wx) rfl rfl ?_ (Below.refl _ _) (fun d hd => by cases hd; exact rfl))
      go_simp
    · obtain ⟨_, q20, rfl⟩ := hG.new 20 (by kernel_rfl) (by kernel_rfl)
      refine step_slot rfl rfl rfl (step_value (v := .bool false) (w' := wx) rfl rfl ?_ (Below.refl _ _) (fun d hd => by cases hd; exact rfl))
      go_simp
    · obtain ⟨_, q21, rfl⟩ := hG.new 21 (by kernel_rfl) (by kernel_rfl)
      have q3 := hG.old 3 (by kernel_rfl) (by kernel_rfl)
      refine step_slot rfl rfl rfl (step_value (v := .pointer (some ⟨g2, 0, none⟩)) (w' := wx) rfl (by simp [Region.wanted, yielded, q21, undef]) ?_ (Below.refl _ _) (fun d hd => by cases hd; exact rfl))
      go_simp
    · obtain ⟨_, q21, rfl⟩ := hG.new 21 (by kernel_rfl) (by kernel_rfl)
      obtain ⟨_, q22, rfl⟩ := hG.new 22 (by kernel_rfl) (by kernel_rfl)
      obtain ⟨z0, z1, z2, z3, z4, z5⟩ := HY.out wx hS
      refine step_slot rfl rfl rfl (step_value (v := .int .i64 s2) (w' := wx) rfl (by simp [Region.wanted, yielded, q21, undef]) ?_ (Below.refl _ _) (fun d hd => by cases hd; exact rfl))
      go_simp
    · obtain ⟨_, q21, rfl⟩ := hG.new 21 (by kernel_rfl) (by kernel_rfl)
      have q2 := hG.old 2 (by kernel_rfl) (by kernel_rfl)
      refine step_slot rfl rfl rfl (step_value (v := .pointer (some ⟨g1, 0, none⟩)) (w' := wx) rfl (by simp [Region.wanted, yielded, q21, undef]) ?_ (Below.refl _ _) (fun d hd => by cases hd; exact rfl))
      go_simp
    · obtain ⟨_, q21, rfl⟩ := hG.new 21 (by kernel_rfl) (by kernel_rfl)
      obtain ⟨_, q24, rfl⟩ := hG.new 24 (by kernel_rfl) (by kernel_rfl)
      obtain ⟨z0, z1, z2, z3, z4, z5⟩ := HX.out wx hS
      refine step_slot rfl rfl rfl (step_value (v := .int .i64 s) (w' := wx) rfl (by simp [Region.wanted, yielded, q21, undef]) ?_ (Below.refl _ _) (fun d hd => by cases hd; exact rfl))
      go_simp
    · obtain ⟨_, q21, rfl⟩ := hG.new 21 (by kernel_rfl) (by kernel_rfl)
      obtain ⟨_, q23, rfl⟩ := hG.new 23 (by kernel_rfl) (by kernel_rfl)
      obtain ⟨_, q25, rfl⟩ := hG.new 25 (by kernel_rfl) (by kernel_rfl)
      have hs := HS.out
      refine step_slot rfl rfl rfl (step_value (v := .bool false) (w' := wx) rfl (by simp [Region.wanted, yielded, q21, undef]) ?_ (Below.refl _ _) (fun d hd => by cases hd; exact rfl))
      (go_simp; first | done | exact hs | omega | simp [hs])
    · obtain ⟨_, q21, rfl⟩ := hG.new 21 (by kernel_rfl) (by kernel_rfl)
      obtain ⟨_, q26, rfl⟩ := hG.new 26 (by kernel_rfl) (by kernel_rfl)
      refine step_slot rfl rfl rfl (step_value (v := .bool false) (w' := wx) rfl rfl ?_ (Below.refl _ _) (fun d hd => by cases hd; exact rfl))
      go_simp
    · obtain ⟨_, q27, rfl⟩ := hG.new 27 (by kernel_rfl) (by kernel_rfl)
      refine step_slot rfl rfl rfl (step_value (v := .bool false) (w' := wx) rfl rfl ?_ (Below.refl _ _) (fun d hd => by cases hd; exact rfl))
      go_simp
    · obtain ⟨_, q28, rfl⟩ := hG.new 28 (by kernel_rfl) (by kernel_rfl)
      have q2 := hG.old 2 (by kernel_rfl) (by kernel_rfl)
      obtain ⟨z0, z1, z2, z3, z4, z5⟩ := HX.out wx hS
      refine step_slot rfl rfl rfl (step_value (v := .agg #[.int .i64 s, .string k, .bool false, .string b, .bool n, .string a]) (w' := wx) rfl (by simp [Region.wanted, yielded, q28, undef]) ?_ (Below.refl _ _) (fun d hd => by cases hd; exact rfl))
      go_simp
    · obtain ⟨_, q28, rfl⟩ := hG.new 28 (by kernel_rfl) (by kernel_rfl)
      obtain ⟨_, q29, rfl⟩ := hG.new 29 (by kernel_rfl) (by kernel_rfl)
      refine step_slot rfl rfl rfl (step_call (w1 := wx) (f := 32) (args := #[.agg #[.int .i64 s, .string k, .bool false, .string b, .bool n, .string a]]) rfl (by simp [Region.wanted, yielded, q28, undef]) ?_ ((behind_any s k false b n a wx).mono ?_))
      · skip
        go_simp
      · rintro e w' ⟨rfl, hq⟩
        exact ⟨_, rfl, hq, fun d hd => by cases hd; exact rfl⟩
    · obtain ⟨_, q28, rfl⟩ := hG.new 28 (by kernel_rfl) (by kernel_rfl)
      have q3 := hG.old 3 (by kernel_rfl) (by kernel_rfl)
      obtain ⟨z0, z1, z2, z3, z4, z5⟩ := HY.out wx hS
      refine step_slot rfl rfl rfl (step_value (v := .agg #[.int .i64 s2, .string k2, .bool m2, .string b2, .bool false, .string a2]) (w' := wx) rfl (by simp [Region.wanted, yielded, q28, undef]) ?_ (Below.refl _ _) (fun d hd => by cases hd; exact rfl))
      go_simp
    · obtain ⟨_, q28, rfl⟩ := hG.new 28 (by kernel_rfl) (by kernel_rfl)
      obtain ⟨_, q31, rfl⟩ := hG.new 31 (by kernel_rfl) (by kernel_rfl)
      refine step_slot rfl rfl rfl (step_call (w1 := wx) (f := 33) (args := #[.agg #[.int .i64 s2, .string k2, .bool m2, .string b2, .bool false, .string a2]]) rfl (by simp [Region.wanted, yielded, q28, undef]) ?_ ((ahead_any s2 k2 m2 b2 false a2 wx).mono ?_))
      · skip
        go_simp
      · rintro e w' ⟨rfl, hq⟩
        exact ⟨_, rfl, hq, fun d hd => by cases hd; exact rfl⟩
    · obtain ⟨_, q28, rfl⟩ := hG.new 28 (by kernel_rfl) (by kernel_rfl)
      obtain ⟨_, q30, rfl⟩ := hG.new 30 (by kernel_rfl) (by kernel_rfl)
      obtain ⟨_, q32, rfl⟩ := hG.new 32 (by kernel_rfl) (by kernel_rfl)
      have hd := HD.out
      refine step_slot rfl rfl rfl (step_value (v := .bool false) (w' := wx) rfl (by simp [Region.wanted, yielded, q28, undef]) ?_ (Below.refl _ _) (fun d hd => by cases hd; exact rfl))
      (go_simp; first | done | exact hd | exact fun e f => hd ⟨e, tl_inj f⟩ | simp [hd])
    · obtain ⟨_, q28, rfl⟩ := hG.new 28 (by kernel_rfl) (by kernel_rfl)
      obtain ⟨_, q33, rfl⟩ := hG.new 33 (by kernel_rfl) (by kernel_rfl)
      refine step_slot rfl rfl rfl (step_value (v := .bool false) (w' := wx) rfl rfl ?_ (Below.refl _ _) (fun d hd => by cases hd; exact rfl))
      go_simp
  intro fv w8 hS8 _ hV8
  have e34 : fv 34 = .bool false := hV8 34 (by decide)
  simp only [puts, Act.put, List.setIfInBounds_toArray, List.set_cons_succ, List.set_cons_zero]
  clear hV8
  rw [e34]
  obtain ⟨u0, u1, u2, u3, u4, u5⟩ : _ ∧ _ ∧ _ ∧ _ ∧ _ ∧ _ := HX.out w8 hS8
  obtain ⟨y0, y1, y2, y3, y4, y5⟩ : _ ∧ _ ∧ _ ∧ _ ∧ _ ∧ _ := HY.out w8 hS8
  have Q8 := Lib.hid (Q3.out.on hS8)
  have HB8 := Lib.hid (HB3.out.trans ((show Below w3.heap.size w3 w8 from hS8).mono HB3.out.size))
  obtain ⟨j0, j1, j2, j3, j4, j5⟩ := (⟨Box.free Q8.out 0, Box.free Q8.out 1, Box.free Q8.out 2, Box.free Q8.out 3, Box.free Q8.out 4, Box.free Q8.out 5⟩ : _ ∧ _ ∧ _ ∧ _ ∧ _ ∧ _)
  obtain ⟨m0, m1, x2, m3, m4, m5⟩ := (⟨Box.cell Q8.out 0 rfl, Box.cell Q8.out 1 rfl, Box.cell Q8.out 2 rfl, Box.cell Q8.out 3 rfl, Box.cell Q8.out 4 rfl, Box.cell Q8.out 5 rfl⟩ : _ ∧ _ ∧ _ ∧ _ ∧ _ ∧ _)
  clear hS8
  go_wp2
  obtain ⟨wz, hz⟩ : ∃ wz, wz = ((((((w8.setCell ⟨q, 0, none⟩ (.int .i64 0)).setCell ⟨q, 1, none⟩ (.string ⟨#[]⟩)).setCell ⟨q, 2, none⟩ (.bool false)).setCell ⟨q, 3, none⟩ (.string ⟨#[]⟩)).setCell ⟨q, 4, none⟩ (.bool false)).setCell ⟨q, 5, none⟩ (.string ⟨#[]⟩)) := ⟨_, rfl⟩
  rw [← hz]
  have hqz : Box wz q 27 #[.int .i64 0, .string ⟨#[]⟩, .bool false, .string ⟨#[]⟩, .bool false, .string ⟨#[]⟩] := by rw [hz]; exact ((((((Box.set Q8.out 0 _).set 1 _).set 2 _).set 3 _).set 4 _).set 5 _)
  have hbz : Below w.heap.size w wz := by rw [hz]; exact ((((((HB8.out.setCell (p := ⟨q, 0, none⟩) HQ.out _).setCell (p := ⟨q, 1, none⟩) HQ.out _).setCell (p := ⟨q, 2, none⟩) HQ.out _).setCell (p := ⟨q, 3, none⟩) HQ.out _).setCell (p := ⟨q, 4, none⟩) HQ.out _).setCell (p := ⟨q, 5, none⟩) HQ.out _)
  obtain ⟨p0, p1, p2, p3, p4, p5⟩ : _ ∧ _ ∧ _ ∧ _ ∧ _ ∧ _ := ⟨hqz.cell 0 rfl, hqz.cell 1 rfl, hqz.cell 2 rfl, hqz.cell 3 rfl, hqz.cell 4 rfl, hqz.cell 5 rfl⟩
  clear hz j0 j1 j2 j3 j4 j5 m0 m1 x2 m3 m4 m5
  exact bodyPost_ret (v := .tuple #[.agg #[.int .i64 0, .string ⟨#[]⟩, .bool false, .string ⟨#[]⟩, .bool false, .string ⟨#[]⟩], .int .i64 3]) (by simp [results, Try.results14, go_sem, p0, p1, p2, p3, p4, p5]) rfl ⟨rfl, hbz⟩

set_option maxRecDepth 100000 in
set_option maxHeartbeats 4000000 in
theorem join_w7 (s : Int) (k : ByteArray) (m : Bool) (b : ByteArray) (n : Bool) (a : ByteArray) (s2 : Int) (k2 : ByteArray) (m2 : Bool) (b2 : ByteArray) (n2 : Bool) (a2 : ByteArray) (w : World) (hm1 : mayC ⟨s, k, m, b, n, a⟩ = true) (hm2 : mayC ⟨s2, k2, m2, b2, n2, a2⟩ = true) (hk : k = k2) (hs : ¬ s2 ≤ s) (hd : n = m2 ∧ a = b2) (ho : (m || n2) = true) :
    Calls Try.prog 14 #[chV s k m b n a, chV s2 k2 m2 b2 n2 a2] w fun e w' => e = .returned (.tuple #[.agg #[.int .i64 s2, .string k, .bool m, .string b, .bool n2, .string a2], .int .i64 0]) ∧ Below w.heap.size w w' := by
  unfold chV
  have hc1 := fun w => may_any s k m b n a w
  rw [hm1] at hc1
  have HM1 := Lib.hid hc1
  clear hc1
  have hc2 := fun w => may_any s2 k2 m2 b2 n2 a2 w
  rw [hm2] at hc2
  have HM2 := Lib.hid hc2
  clear hc2
  have HK := Lib.hid hk
  clear hk
  have HS := Lib.hid hs
  clear hs
  have HD := Lib.hid hd
  clear hd
  have HO := Lib.hid ho
  clear ho
  obtain ⟨w1, hw1⟩ : ∃ w1, w1 = w.alloc (.cells #[.int .i64 s, .string k, .bool m, .string b, .bool n, .string a] 27) := ⟨_, rfl⟩
  obtain ⟨w2, hw2⟩ : ∃ w2, w2 = w1.alloc (.cells #[.int .i64 s2, .string k2, .bool m2, .string b2, .bool n2, .string a2] 27) := ⟨_, rfl⟩
  obtain ⟨w3, hw3⟩ : ∃ w3, w3 = w2.alloc (.cells #[.int .i64 0, .string ⟨#[]⟩, .bool false, .string ⟨#[]⟩, .bool false, .string ⟨#[]⟩] 27) := ⟨_, rfl⟩
  obtain ⟨g1, hg1⟩ : ∃ q, q = w.heap.size := ⟨_, rfl⟩
  obtain ⟨g2, hg2⟩ : ∃ q, q = w1.heap.size := ⟨_, rfl⟩
  obtain ⟨q, hq⟩ : ∃ q, q = w2.heap.size := ⟨_, rfl⟩
  have e4 : g1 + 1 = g2 := by rw [hg2, hw1, hg1]; simp
  have e5 : g2 + 1 = q := by rw [hq, hw2, hg2]; simp
  have hbx : Box w3 g1 27 #[.int .i64 s, .string k, .bool m, .string b, .bool n, .string a] := by rw [hw3, hw2]; exact Box.push (Box.push (by rw [hw1]; exact Box.at_ w _ _ hg1) _) _
  have hby : Box w3 g2 27 #[.int .i64 s2, .string k2, .bool m2, .string b2, .bool n2, .string a2] := by rw [hw3]; exact Box.push (by rw [hw2]; exact Box.at_ w1 _ _ hg2) _
  have Q3 := Lib.hid (show Box w3 q 27 #[.int .i64 0, .string ⟨#[]⟩, .bool false, .string ⟨#[]⟩, .bool false, .string ⟨#[]⟩] from by rw [hw3]; exact Box.at_ w2 _ _ hq)
  have hb3 : Below w.heap.size w w3 := by rw [hw3, hw2, hw1]; exact (((Below.refl _ _).alloc (Nat.le_refl _) _).alloc (by simp) _).alloc (by simp; omega) _
  have HB3 := Lib.hid hb3
  have HQ := Lib.hid (show w.heap.size ≤ q from by omega)
  have HX := Lib.hid (show ∀ wx, Below w3.heap.size w3 wx → _ ∧ _ ∧ _ ∧ _ ∧ _ ∧ _ from fun wx hh => let hx := hbx.on hh; ⟨hx.cell 0 rfl, hx.cell 1 rfl, hx.cell 2 rfl, hx.cell 3 rfl, hx.cell 4 rfl, hx.cell 5 rfl⟩)
  have HY := Lib.hid (show ∀ wx, Below w3.heap.size w3 wx → _ ∧ _ ∧ _ ∧ _ ∧ _ ∧ _ from fun wx hh => let hx := hby.on hh; ⟨hx.cell 0 rfl, hx.cell 1 rfl, hx.cell 2 rfl, hx.cell 3 rfl, hx.cell 4 rfl, hx.cell 5 rfl⟩)
  clear hb3 hbx hby
  go_enter Try.func14, Try.ntmps14
  go_upto_region 1 with fail
  rw [← hg1, e4, ← hw1, ← hw2, e5, ← hw3]
  clear hg1 hg2 e4 e5 hw1 hw2 hw3 hq
  refine wp_region_phase 40 [6, 7, 8, 9, 10, 11, 12, 13, 14, 15, 16, 17, 18, 19, 20, 21, 22, 23, 24, 25, 26, 27, 28, 29, 30, 31, 32, 33, 34] (by kernel_rfl) [] [] (fun _ _ => True) 0 rfl (by kernel_rfl) ((fun _ wx => Below w3.heap.size w3 wx)) (fun wa wb => Below wa.heap.size wa wb) (JnV5 s k m b n a s2 k2 m2 b2 n2 a2 g1 g2) (by kernel_rfl) (fun _ wa wb h1 h2 => h2.trans (h1.mono h2.size)) (fun _ t v wa wb h1 h2 => h2.on h1) (fun _ _ _ _ _ _ _ => trivial) (Below.refl _ _).drew trivial (phase0 ?_) ?_
  · refine Steps1.cons (fun _ ax wx hS _ hG => ?_) (Steps1.cons (fun _ ax wx hS _ hG => ?_) (Steps1.cons (fun _ ax wx hS _ hG => ?_) (Steps1.cons (fun _ ax wx hS _ hG => ?_) (Steps1.cons (fun _ ax wx hS _ hG => ?_) (Steps1.cons (fun _ ax wx hS _ hG => ?_) (Steps1.cons (fun _ ax wx hS _ hG => ?_) (Steps1.cons (fun _ ax wx hS _ hG => ?_) (Steps1.cons (fun _ ax wx hS _ hG => ?_) (Steps1.cons (fun _ ax wx hS _ hG => ?_) (Steps1.cons (fun _ ax wx hS _ hG => ?_) (Steps1.cons (fun _ ax wx hS _ hG => ?_) (Steps1.cons (fun _ ax wx hS _ hG => ?_) (Steps1.cons (fun _ ax wx hS _ hG => ?_) (Steps1.cons (fun _ ax wx hS _ hG => ?_) (Steps1.cons (fun _ ax wx hS _ hG => ?_) (Steps1.cons (fun _ ax wx hS _ hG => ?_) (Steps1.cons (fun _ ax wx hS _ hG => ?_) (Steps1.cons (fun _ ax wx hS _ hG => ?_) (Steps1.cons (fun _ ax wx hS _ hG => ?_) (Steps1.cons (fun _ ax wx hS _ hG => ?_) (Steps1.cons (fun _ ax wx hS _ hG => ?_) (Steps1.cons (fun _ ax wx hS _ hG => ?_) (Steps1.cons (fun _ ax wx hS _ hG => ?_) (Steps1.cons (fun _ ax wx hS _ hG => ?_) (Steps1.cons (fun _ ax wx hS _ hG => ?_) (Steps1.cons (fun _ ax wx hS _ hG => ?_) (Steps1.cons (fun _ ax wx hS _ hG => ?_) (Steps1.cons (fun _ ax wx hS _ hG => ?_) Steps1.nil))))))))))))))))))))))))))))
    · have q2 := hG.old 2 (by kernel_rfl) (by kernel_rfl)
      obtain ⟨z0, z1, z2, z3, z4, z5⟩ := HX.out wx hS
      refine step_slot rfl rfl rfl (step_value (v := .agg #[.int .i64 s, .string k, .bool m, .string b, .bool n, .string a]) (w' := wx) rfl rfl ?_ (Below.refl _ _) (fun d hd => by cases hd; exact rfl))
      go_simp
    · obtain ⟨_, q6, rfl⟩ := hG.new 6 (by kernel_rfl) (by kernel_rfl)
      refine step_slot rfl rfl rfl (step_call (w1 := wx) (f := 31) (args := #[.agg #[.int .i64 s, .string k, .bool m, .string b, .bool n, .string a]]) rfl rfl ?_ ((HM1.out wx).mono ?_))
      · skip
        go_simp
      · rintro e w' ⟨rfl, hq⟩
        exact ⟨_, rfl, hq, fun d hd => by cases hd; exact rfl⟩
    · obtain ⟨_, q7, rfl⟩ := hG.new 7 (by kernel_rfl) (by kernel_rfl)
      refine step_slot rfl rfl rfl (step_value (v := .bool false) (w' := wx) rfl rfl ?_ (Below.refl _ _) (fun d hd => by cases hd; exact rfl))
      go_simp
    · obtain ⟨_, q8, rfl⟩ := hG.new 8 (by kernel_rfl) (by kernel_rfl)
      refine step_slot rfl rfl rfl (step_value (v := .bool false) (w' := wx) rfl rfl ?_ (Below.refl _ _) (fun d hd => by cases hd; exact rfl))
      go_simp
    · obtain ⟨_, q9, rfl⟩ := hG.new 9 (by kernel_rfl) (by kernel_rfl)
      have q3 := hG.old 3 (by kernel_rfl) (by kernel_rfl)
      obtain ⟨z0, z1, z2, z3, z4, z5⟩ := HY.out wx hS
      refine step_slot rfl rfl rfl (step_value (v := .agg #[.int .i64 s2, .string k2, .bool m2, .string b2, .bool n2, .string a2]) (w' := wx) rfl (by simp [Region.wanted, yielded, q9, undef]) ?_ (Below.refl _ _) (fun d hd => by cases hd; exact rfl))
      go_simp
    · obtain ⟨_, q9, rfl⟩ := hG.new 9 (by kernel_rfl) (by kernel_rfl)
      obtain ⟨_, q10, rfl⟩ := hG.new 10 (by kernel_rfl) (by kernel_rfl)
      refine step_slot rfl rfl rfl (step_call (w1 := wx) (f := 31) (args := #[.agg #[.int .i64 s2, .string k2, .bool m2, .string b2, .bool n2, .string a2]]) rfl (by simp [Region.wanted, yielded, q9, undef]) ?_ ((HM2.out wx).mono ?_))
      · skip
        go_simp
      · rintro e w' ⟨rfl, hq⟩
        exact ⟨_, rfl, hq, fun d hd => by cases hd; exact rfl⟩
    · obtain ⟨_, q9, rfl⟩ := hG.new 9 (by kernel_rfl) (by kernel_rfl)
      obtain ⟨_, q11, rfl⟩ := hG.new 11 (by kernel_rfl) (by kernel_rfl)
      refine step_slot rfl rfl rfl (step_value (v := .bool false) (w' := wx) rfl (by simp [Region.wanted, yielded, q9, undef]) ?_ (Below.refl _ _) (fun d hd => by cases hd; exact rfl))
      go_simp
    · obtain ⟨_, q9, rfl⟩ := hG.new 9 (by kernel_rfl) (by kernel_rfl)
      obtain ⟨_, q12, rfl⟩ := hG.new 12 (by kernel_rfl) (by kernel_rfl)
      refine step_slot rfl rfl rfl (step_value (v := .bool false) (w' := wx) rfl rfl ?_ (Below.refl _ _) (fun d hd => by cases hd; exact rfl))
      go_simp
    · obtain ⟨_, q13, rfl⟩ := hG.new 13 (by kernel_rfl) (by kernel_rfl)
      refine step_slot rfl rfl rfl (step_value (v := .bool false) (w' := wx) rfl rfl ?_ (Below.refl _ _) (fun d hd => by cases hd; exact rfl))
      go_simp
    · obtain ⟨_, q14, rfl⟩ := hG.new 14 (by kernel_rfl) (by kernel_rfl)
      have q2 := hG.old 2 (by kernel_rfl) (by kernel_rfl)
      refine step_slot rfl rfl rfl (step_value (v := .pointer (some ⟨g1, 1, none⟩)) (w' := wx) rfl (by simp [Region.wanted, yielded, q14, undef]) ?_ (Below.refl _ _) (fun d hd => by cases hd; exact rfl))
      go_simp
    · obtain ⟨_, q14, rfl⟩ := hG.new 14 (by kernel_rfl) (by kernel_rfl)
      obtain ⟨_, q15, rfl⟩ := hG.new 15 (by kernel_rfl) (by kernel_rfl)
      obtain ⟨z0, z1, z2, z3, z4, z5⟩ := HX.out wx hS
      refine step_slot rfl rfl rfl (step_value (v := .string k) (w' := wx) rfl (by simp [Region.wanted, yielded, q14, undef]) ?_ (Below.refl _ _) (fun d hd => by cases hd; exact rfl))
      go_simp
    · obtain ⟨_, q14, rfl⟩ := hG.new 14 (by kernel_rfl) (by kernel_rfl)
      have q3 := hG.old 3 (by kernel_rfl) (by kernel_rfl)
      refine step_slot rfl rfl rfl (step_value (v := .pointer (some ⟨g2, 1, none⟩)) (w' := wx) rfl (by simp [Region.wanted, yielded, q14, undef]) ?_ (Below.refl _ _) (fun d hd => by cases hd; exact rfl))
      go_simp
    · obtain ⟨_, q14, rfl⟩ := hG.new 14 (by kernel_rfl) (by kernel_rfl)
      obtain ⟨_, q17, rfl⟩ := hG.new 17 (by kernel_rfl) (by kernel_rfl)
      obtain ⟨z0, z1, z2, z3, z4, z5⟩ := HY.out wx hS
      refine step_slot rfl rfl rfl (step_value (v := .string k2) (w' := wx) rfl (by simp [Region.wanted, yielded, q14, undef]) ?_ (Below.refl _ _) (fun d hd => by cases hd; exact rfl))
      go_simp
    · obtain ⟨_, q14, rfl⟩ := hG.new 14 (by kernel_rfl) (by kernel_rfl)
      obtain ⟨_, q16, rfl⟩ := hG.new 16 (by kernel_rfl) (by kernel_rfl)
      obtain ⟨_, q18, rfl⟩ := hG.new 18 (by kernel_rfl) (by kernel_rfl)
      have hk := HK.out
      refine step_slot rfl rfl rfl (step_value (v := .bool false) (w' := wx) rfl (by simp [Region.wanted, yielded, q14, undef]) ?_ (Below.refl _ _) (fun d hd => by cases hd; exact rfl))
      (go_simp; first | done | exact hk | exact fun e => hk (tl_inj e) | simp [hk])
    · obtain ⟨_, q14, rfl⟩ := hG.new 14 (by kernel_rfl) (by kernel_rfl)
      obtain ⟨_, q19, rfl⟩ := hG.new 19 (by kernel_rfl) (by kernel_rfl)
      refine step_slot rfl rfl rfl (step_value (v := .bool false) (w' := wx) rfl rfl ?_ (Below.refl _ _) (fun d hd => by cases hd; exact rfl))
      go_simp
    · obtain ⟨_, q20, rfl⟩ := hG.new 20 (by kernel_rfl) (by kernel_rfl)
      refine step_slot rfl rfl rfl (step_value (v := .bool false) (w' := wx) rfl rfl ?_ (Below.refl _ _) (fun d hd => by cases hd; exact rfl))
      go_simp
    · obtain ⟨_, q21, rfl⟩ := hG.new 21 (by kernel_rfl) (by kernel_rfl)
      have q3 := hG.old 3 (by kernel_rfl) (by kernel_rfl)
      refine step_slot rfl rfl rfl (step_value (v := .pointer (some ⟨g2, 0, none⟩)) (w' := wx) rfl (by simp [Region.wanted, yielded, q21, undef]) ?_ (Below.refl _ _) (fun d hd => by cases hd; exact rfl))
      go_simp
    · obtain ⟨_, q21, rfl⟩ := hG.new 21 (by kernel_rfl) (by kernel_rfl)
      obtain ⟨_, q22, rfl⟩ := hG.new 22 (by kernel_rfl) (by kernel_rfl)
      obtain ⟨z0, z1, z2, z3, z4, z5⟩ := HY.out wx hS
      refine step_slot rfl rfl rfl (step_value (v := .int .i64 s2) (w' := wx) rfl (by simp [Region.wanted, yielded, q21, undef]) ?_ (Below.refl _ _) (fun d hd => by cases hd; exact rfl))
      go_simp
    · obtain ⟨_, q21, rfl⟩ := hG.new 21 (by kernel_rfl) (by kernel_rfl)
      have q2 := hG.old 2 (by kernel_rfl) (by kernel_rfl)
      refine step_slot rfl rfl rfl (step_value (v := .pointer (some ⟨g1, 0, none⟩)) (w' := wx) rfl (by simp [Region.wanted, yielded, q21, undef]) ?_ (Below.refl _ _) (fun d hd => by cases hd; exact rfl))
      go_simp
    · obtain ⟨_, q21, rfl⟩ := hG.new 21 (by kernel_rfl) (by kernel_rfl)
      obtain ⟨_, q24, rfl⟩ := hG.new 24 (by kernel_rfl) (by kernel_rfl)
      obtain ⟨z0, z1, z2, z3, z4, z5⟩ := HX.out wx hS
      refine step_slot rfl rfl rfl (step_value (v := .int .i64 s) (w' := wx) rfl (by simp [Region.wanted, yielded, q21, undef]) ?_ (Below.refl _ _) (fun d hd => by cases hd; exact rfl))
      go_simp
    · obtain ⟨_, q21, rfl⟩ := hG.new 21 (by kernel_rfl) (by kernel_rfl)
      obtain ⟨_, q23, rfl⟩ := hG.new 23 (by kernel_rfl) (by kernel_rfl)
      obtain ⟨_, q25, rfl⟩ := hG.new 25 (by kernel_rfl) (by kernel_rfl)
      have hs := HS.out
      refine step_slot rfl rfl rfl (step_value (v := .bool false) (w' := wx) rfl (by simp [Region.wanted, yielded, q21, undef]) ?_ (Below.refl _ _) (fun d hd => by cases hd; exact rfl))
      (go_simp; first | done | exact hs | omega | simp [hs])
    · obtain ⟨_, q21, rfl⟩ := hG.new 21 (by kernel_rfl) (by kernel_rfl)
      obtain ⟨_, q26, rfl⟩ := hG.new 26 (by kernel_rfl) (by kernel_rfl)
      refine step_slot rfl rfl rfl (step_value (v := .bool false) (w' := wx) rfl rfl ?_ (Below.refl _ _) (fun d hd => by cases hd; exact rfl))
      go_simp
    · obtain ⟨_, q27, rfl⟩ := hG.new 27 (by kernel_rfl) (by kernel_rfl)
      refine step_slot rfl rfl rfl (step_value (v := .bool false) (w' := wx) rfl rfl ?_ (Below.refl _ _) (fun d hd => by cases hd; exact rfl))
      go_simp
    · obtain ⟨_, q28, rfl⟩ := hG.new 28 (by kernel_rfl) (by kernel_rfl)
      have q2 := hG.old 2 (by kernel_rfl) (by kernel_rfl)
      obtain ⟨z0, z1, z2, z3, z4, z5⟩ := HX.out wx hS
      refine step_slot rfl rfl rfl (step_value (v := .agg #[.int .i64 s, .string k, .bool m, .string b, .bool n, .string a]) (w' := wx) rfl (by simp [Region.wanted, yielded, q28, undef]) ?_ (Below.refl _ _) (fun d hd => by cases hd; exact rfl))
      go_simp
    · obtain ⟨_, q28, rfl⟩ := hG.new 28 (by kernel_rfl) (by kernel_rfl)
      obtain ⟨_, q29, rfl⟩ := hG.new 29 (by kernel_rfl) (by kernel_rfl)
      refine step_slot rfl rfl rfl (step_call (w1 := wx) (f := 32) (args := #[.agg #[.int .i64 s, .string k, .bool m, .string b, .bool n, .string a]]) rfl (by simp [Region.wanted, yielded, q28, undef]) ?_ ((behind_any s k m b n a wx).mono ?_))
      · skip
        go_simp
      · rintro e w' ⟨rfl, hq⟩
        exact ⟨_, rfl, hq, fun d hd => by cases hd; exact rfl⟩
    · obtain ⟨_, q28, rfl⟩ := hG.new 28 (by kernel_rfl) (by kernel_rfl)
      have q3 := hG.old 3 (by kernel_rfl) (by kernel_rfl)
      obtain ⟨z0, z1, z2, z3, z4, z5⟩ := HY.out wx hS
      refine step_slot rfl rfl rfl (step_value (v := .agg #[.int .i64 s2, .string k2, .bool m2, .string b2, .bool n2, .string a2]) (w' := wx) rfl (by simp [Region.wanted, yielded, q28, undef]) ?_ (Below.refl _ _) (fun d hd => by cases hd; exact rfl))
      go_simp
    · obtain ⟨_, q28, rfl⟩ := hG.new 28 (by kernel_rfl) (by kernel_rfl)
      obtain ⟨_, q31, rfl⟩ := hG.new 31 (by kernel_rfl) (by kernel_rfl)
      refine step_slot rfl rfl rfl (step_call (w1 := wx) (f := 33) (args := #[.agg #[.int .i64 s2, .string k2, .bool m2, .string b2, .bool n2, .string a2]]) rfl (by simp [Region.wanted, yielded, q28, undef]) ?_ ((ahead_any s2 k2 m2 b2 n2 a2 wx).mono ?_))
      · skip
        go_simp
      · rintro e w' ⟨rfl, hq⟩
        exact ⟨_, rfl, hq, fun d hd => by cases hd; exact rfl⟩
    · obtain ⟨_, q28, rfl⟩ := hG.new 28 (by kernel_rfl) (by kernel_rfl)
      obtain ⟨_, q30, rfl⟩ := hG.new 30 (by kernel_rfl) (by kernel_rfl)
      obtain ⟨_, q32, rfl⟩ := hG.new 32 (by kernel_rfl) (by kernel_rfl)
      have hd := HD.out
      refine step_slot rfl rfl rfl (step_value (v := .bool false) (w' := wx) rfl (by simp [Region.wanted, yielded, q28, undef]) ?_ (Below.refl _ _) (fun d hd => by cases hd; exact rfl))
      (go_simp; first | done | exact hd | exact fun e f => hd ⟨e, tl_inj f⟩ | simp [hd])
    · obtain ⟨_, q28, rfl⟩ := hG.new 28 (by kernel_rfl) (by kernel_rfl)
      obtain ⟨_, q33, rfl⟩ := hG.new 33 (by kernel_rfl) (by kernel_rfl)
      refine step_slot rfl rfl rfl (step_value (v := .bool false) (w' := wx) rfl rfl ?_ (Below.refl _ _) (fun d hd => by cases hd; exact rfl))
      go_simp
  intro fv w8 hS8 _ hV8
  have e34 : fv 34 = .bool false := hV8 34 (by decide)
  simp only [puts, Act.put, List.setIfInBounds_toArray, List.set_cons_succ, List.set_cons_zero]
  clear hV8
  rw [e34]
  obtain ⟨u0, u1, u2, u3, u4, u5⟩ : _ ∧ _ ∧ _ ∧ _ ∧ _ ∧ _ := HX.out w8 hS8
  obtain ⟨y0, y1, y2, y3, y4, y5⟩ : _ ∧ _ ∧ _ ∧ _ ∧ _ ∧ _ := HY.out w8 hS8
  have Q8 := Lib.hid (Q3.out.on hS8)
  have HB8 := Lib.hid (HB3.out.trans ((show Below w3.heap.size w3 w8 from hS8).mono HB3.out.size))
  obtain ⟨j0, j1, j2, j3, j4, j5⟩ := (⟨Box.free Q8.out 0, Box.free Q8.out 1, Box.free Q8.out 2, Box.free Q8.out 3, Box.free Q8.out 4, Box.free Q8.out 5⟩ : _ ∧ _ ∧ _ ∧ _ ∧ _ ∧ _)
  obtain ⟨m0, m1, x2, m3, m4, m5⟩ := (⟨Box.cell Q8.out 0 rfl, Box.cell Q8.out 1 rfl, Box.cell Q8.out 2 rfl, Box.cell Q8.out 3 rfl, Box.cell Q8.out 4 rfl, Box.cell Q8.out 5 rfl⟩ : _ ∧ _ ∧ _ ∧ _ ∧ _ ∧ _)
  have HX8 := Lib.hid (show ∀ wx, Below w8.heap.size w8 wx → _ ∧ _ ∧ _ ∧ _ ∧ _ ∧ _ from fun wx hh => HX.out wx ((show Below w3.heap.size w3 w8 from hS8).trans (hh.mono (show Below w3.heap.size w3 w8 from hS8).size)))
  have HY8 := Lib.hid (show ∀ wx, Below w8.heap.size w8 wx → _ ∧ _ ∧ _ ∧ _ ∧ _ ∧ _ from fun wx hh => HY.out wx ((show Below w3.heap.size w3 w8 from hS8).trans (hh.mono (show Below w3.heap.size w3 w8 from hS8).size)))
  clear hS8 j0 j1 j2 j3 j4 j5 m0 m1 x2 m3 m4 m5
  cases m
  · obtain rfl : n2 = true := by have := HO.out; simpa using this
    go_upto_region 5 with fail
    refine wp_region_phase 14 [45, 46, 47, 48, 49, 50, 51, 52, 53, 5] (by kernel_rfl) [9] [] (fun _ _ => True) 1 rfl (by kernel_rfl) (ResS w8 q 27 #[.int .i64 s2, .string k, .bool false, .string b, .bool true, .string a2]) (fun wa wb => Below wa.heap.size wa wb) (JnE s k false b n a s2 k2 m2 b2 true a2 g1 g2) (by kernel_rfl) (fun _ wa wb h1 h2 => h2.on h1) (fun _ t v wa wb h1 h2 => h2.on h1) (fun _ _ _ _ _ _ _ => trivial) (ResS.start _ _ _ _) trivial (phase1 ?_ ?_) ?_
    · refine Steps1.cons (fun _ ax wx hS _ hG => ?_) (Steps1.cons (fun _ ax wx hS _ hG => ?_) (Steps1.cons (fun _ ax wx hS _ hG => ?_) (Steps1.cons (fun _ ax wx hS _ hG => ?_) (Steps1.cons (fun _ ax wx hS _ hG => ?_) (Steps1.cons (fun _ ax wx hS _ hG => ?_) (Steps1.cons (fun _ ax wx hS _ hG => ?_) (Steps1.cons (fun _ ax wx hS _ hG => ?_) (Steps1.cons (fun _ ax wx hS _ hG => ?_) (Steps1.cons (fun _ ax wx hS _ hG => ?_) (Steps1.cons (fun _ ax wx hS _ hG => ?_) Steps1.nil))))))))))
      · have q3 := hG.old 3 (by kernel_rfl) (by kernel_rfl)
        refine step_slot rfl rfl rfl (step_value (v := .pointer (some ⟨g2, 0, none⟩)) (w' := wx) rfl rfl ?_ (Below.refl _ _) (fun d hd => by cases hd; exact rfl))
        go_simp
      · obtain ⟨_, q45, rfl⟩ := hG.new 45 (by kernel_rfl) (by kernel_rfl)
        obtain ⟨z0, z1, z2, z3, z4, z5⟩ := HY8.out wx (hS.fresh rfl)
        refine step_slot rfl rfl rfl (step_value (v := .int .i64 s2) (w' := wx) rfl rfl ?_ (Below.refl _ _) (fun d hd => by cases hd; exact rfl))
        go_simp
      · have q2 := hG.old 2 (by kernel_rfl) (by kernel_rfl)
        refine step_slot rfl rfl rfl (step_value (v := .pointer (some ⟨g1, 1, none⟩)) (w' := wx) rfl rfl ?_ (Below.refl _ _) (fun d hd => by cases hd; exact rfl))
        go_simp
      · obtain ⟨_, q47, rfl⟩ := hG.new 47 (by kernel_rfl) (by kernel_rfl)
        obtain ⟨z0, z1, z2, z3, z4, z5⟩ := HX8.out wx (hS.fresh rfl)
        refine step_slot rfl rfl rfl (step_value (v := .string k) (w' := wx) rfl rfl ?_ (Below.refl _ _) (fun d hd => by cases hd; exact rfl))
        go_simp
      · have q2 := hG.old 2 (by kernel_rfl) (by kernel_rfl)
        obtain ⟨z0, z1, z2, z3, z4, z5⟩ := HX8.out wx (hS.fresh rfl)
        refine step_slot rfl rfl rfl (step_value (v := .agg #[.int .i64 s, .string k, .bool false, .string b, .bool n, .string a]) (w' := wx) rfl rfl ?_ (Below.refl _ _) (fun d hd => by cases hd; exact rfl))
        go_simp
      · obtain ⟨_, q49, rfl⟩ := hG.new 49 (by kernel_rfl) (by kernel_rfl)
        refine step_slot rfl rfl rfl (step_call (w1 := wx) (f := 33) (args := #[.agg #[.int .i64 s, .string k, .bool false, .string b, .bool n, .string a]]) rfl rfl ?_ ((ahead_any s k false b n a wx).mono ?_))
        · skip
          go_simp
        · rintro e w' ⟨rfl, hq⟩
          exact ⟨_, rfl, hq, fun d hd => by cases hd; exact rfl⟩
      · have q3 := hG.old 3 (by kernel_rfl) (by kernel_rfl)
        obtain ⟨z0, z1, z2, z3, z4, z5⟩ := HY8.out wx (hS.fresh rfl)
        refine step_slot rfl rfl rfl (step_value (v := .agg #[.int .i64 s2, .string k2, .bool m2, .string b2, .bool true, .string a2]) (w' := wx) rfl rfl ?_ (Below.refl _ _) (fun d hd => by cases hd; exact rfl))
        go_simp
      · obtain ⟨_, q51, rfl⟩ := hG.new 51 (by kernel_rfl) (by kernel_rfl)
        refine step_slot rfl rfl rfl (step_call (w1 := wx) (f := 32) (args := #[.agg #[.int .i64 s2, .string k2, .bool m2, .string b2, .bool true, .string a2]]) rfl rfl ?_ ((behind_any s2 k2 m2 b2 true a2 wx).mono ?_))
        · skip
          go_simp
        · rintro e w' ⟨rfl, hq⟩
          exact ⟨_, rfl, hq, fun d hd => by cases hd; exact rfl⟩
      · obtain ⟨_, q46, rfl⟩ := hG.new 46 (by kernel_rfl) (by kernel_rfl)
        obtain ⟨_, q48, rfl⟩ := hG.new 48 (by kernel_rfl) (by kernel_rfl)
        obtain ⟨_, q50, rfl⟩ := hG.new 50 (by kernel_rfl) (by kernel_rfl)
        obtain ⟨_, q52, rfl⟩ := hG.new 52 (by kernel_rfl) (by kernel_rfl)
        refine step_slot rfl rfl rfl (step_call (w1 := wx) (f := 26) (args := #[.int .i64 s2, .string k, .agg #[.bool false, .string b], .agg #[.bool true, .string a2]]) rfl rfl ?_ ((between_any s2 k false b true a2 wx).mono ?_))
        · skip
          go_simp
        · rintro e w' ⟨rfl, hq⟩
          exact ⟨_, rfl, hq, fun d hd => by cases hd; exact rfl⟩
      · have q4 := hG.old 4 (by kernel_rfl) (by kernel_rfl)
        obtain ⟨_, q53, rfl⟩ := hG.new 53 (by kernel_rfl) (by kernel_rfl)
        have hbq := Q8.out.on (hS.fresh rfl)
        have f0 := Box.free hbq 0
        have m0 := Box.cell hbq 0 rfl
        have f1 := Box.free hbq 1
        have m1 := Box.cell hbq 1 rfl
        have f2 := Box.free hbq 2
        have m2 := Box.cell hbq 2 rfl
        have f3 := Box.free hbq 3
        have m3 := Box.cell hbq 3 rfl
        have f4 := Box.free hbq 4
        have m4 := Box.cell hbq 4 rfl
        have f5 := Box.free hbq 5
        have m5 := Box.cell hbq 5 rfl
        skip
        refine step_store (w' := ((((((wx.setCell ⟨q, 0, none⟩ (.int .i64 s2)).setCell ⟨q, 1, none⟩ (.string k)).setCell ⟨q, 2, none⟩ (.bool false)).setCell ⟨q, 3, none⟩ (.string b)).setCell ⟨q, 4, none⟩ (.bool true)).setCell ⟨q, 5, none⟩ (.string a2))) rfl rfl rfl rfl ?_ (⟨(Ex.trans (Ex.trans (Ex.trans (Ex.trans (Ex.trans (Ex.trans hS.ex (Ex.set (g := q) (i := 0) _ (.int .i64 s2))) (Ex.set (g := q) (i := 1) _ (.string k))) (Ex.set (g := q) (i := 2) _ (.bool false))) (Ex.set (g := q) (i := 3) _ (.string b))) (Ex.set (g := q) (i := 4) _ (.bool true))) (Ex.set (g := q) (i := 5) _ (.string a2))), fun h => absurd h (by decide), fun _ => (Box.set (Box.set (Box.set (Box.set (Box.set (Box.set hbq 0 (.int .i64 s2)) 1 (.string k)) 2 (.bool false)) 3 (.string b)) 4 (.bool true)) 5 (.string a2))⟩) trivial ?_
        · clear hbq hS
          go_simp
        · intro t u _ hu hV
          unfold JnE at *
          split at hV <;> exact hV
      · refine step_slot rfl rfl rfl (step_value (v := .int .i64 0) (w' := wx) rfl rfl ?_ (Below.refl _ _) (fun d hd => by cases hd; exact rfl))
        go_simp
    · refine Steps1.cons (fun hin _ _ _ _ _ => out (by kernel_rfl) hin) (Steps1.cons (fun hin _ _ _ _ _ => out (by kernel_rfl) hin) (Steps1.cons (fun hin _ _ _ _ _ => out (by kernel_rfl) hin) (Steps1.cons (fun hin _ _ _ _ _ => out (by kernel_rfl) hin) (Steps1.cons (fun hin _ _ _ _ _ => out (by kernel_rfl) hin) (Steps1.cons (fun hin _ _ _ _ _ => out (by kernel_rfl) hin) (Steps1.cons (fun hin _ _ _ _ _ => out (by kernel_rfl) hin) (Steps1.cons (fun hin _ _ _ _ _ => out (by kernel_rfl) hin) (Steps1.cons (fun hin _ _ _ _ _ => out (by kernel_rfl) hin) (Steps1.cons (fun hin _ _ _ _ _ => out (by kernel_rfl) hin) (Steps1.cons (fun _ ax wx hS _ hG => ?_) Steps1.nil))))))))))
      · refine step_slot rfl rfl rfl (step_value (v := .int .i64 0) (w' := wx) rfl rfl ?_ (Below.refl _ _) (fun d hd => by cases hd; exact rfl))
        go_simp
    intro fv w9 hS9 _ hV8
    have e5 : fv 5 = .int .i64 0 := hV8 5 (by decide)
    simp only [puts, Act.put, List.setIfInBounds_toArray, List.set_cons_succ, List.set_cons_zero]
    clear hV8
    rw [e5]
    obtain ⟨p0, p1, p2, p3, p4, p5⟩ : _ ∧ _ ∧ _ ∧ _ ∧ _ ∧ _ := let hx := hS9.done rfl; ⟨hx.cell 0 rfl, hx.cell 1 rfl, hx.cell 2 rfl, hx.cell 3 rfl, hx.cell 4 rfl, hx.cell 5 rfl⟩
    have hb9 := Ex.below HB8.out hS9.ex HQ.out HB8.out.size
    clear hS9
    go_wp2
    exact bodyPost_ret (v := .tuple #[.agg #[.int .i64 s2, .string k, .bool false, .string b, .bool true, .string a2], .int .i64 0]) (by simp [results, Try.results14, go_sem, p0, p1, p2, p3, p4, p5]) rfl ⟨rfl, hb9⟩
  · go_upto_region 5 with fail
    refine wp_region_phase 14 [45, 46, 47, 48, 49, 50, 51, 52, 53, 5] (by kernel_rfl) [9] [] (fun _ _ => True) 1 rfl (by kernel_rfl) (ResS w8 q 27 #[.int .i64 s2, .string k, .bool true, .string b, .bool n2, .string a2]) (fun wa wb => Below wa.heap.size wa wb) (JnE s k true b n a s2 k2 m2 b2 n2 a2 g1 g2) (by kernel_rfl) (fun _ wa wb h1 h2 => h2.on h1) (fun _ t v wa wb h1 h2 => h2.on h1) (fun _ _ _ _ _ _ _ => trivial) (ResS.start _ _ _ _) trivial (phase1 ?_ ?_) ?_
    · refine Steps1.cons (fun _ ax wx hS _ hG => ?_) (Steps1.cons (fun _ ax wx hS _ hG => ?_) (Steps1.cons (fun _ ax wx hS _ hG => ?_) (Steps1.cons (fun _ ax wx hS _ hG => ?_) (Steps1.cons (fun _ ax wx hS _ hG => ?_) (Steps1.cons (fun _ ax wx hS _ hG => ?_) (Steps1.cons (fun _ ax wx hS _ hG => ?_) (Steps1.cons (fun _ ax wx hS _ hG => ?_) (Steps1.cons (fun _ ax wx hS _ hG => ?_) (Steps1.cons (fun _ ax wx hS _ hG => ?_) (Steps1.cons (fun _ ax wx hS _ hG => ?_) Steps1.nil))))))))))
      · have q3 := hG.old 3 (by kernel_rfl) (by kernel_rfl)
        refine step_slot rfl rfl rfl (step_value (v := .pointer (some ⟨g2, 0, none⟩)) (w' := wx) rfl rfl ?_ (Below.refl _ _) (fun d hd => by cases hd; exact rfl))
        go_simp
      · obtain ⟨_, q45, rfl⟩ := hG.new 45 (by kernel_rfl) (by kernel_rfl)
        obtain ⟨z0, z1, z2, z3, z4, z5⟩ := HY8.out wx (hS.fresh rfl)
        refine step_slot rfl rfl rfl (step_value (v := .int .i64 s2) (w' := wx) rfl rfl ?_ (Below.refl _ _) (fun d hd => by cases hd; exact rfl))
        go_simp
      · have q2 := hG.old 2 (by kernel_rfl) (by kernel_rfl)
        refine step_slot rfl rfl rfl (step_value (v := .pointer (some ⟨g1, 1, none⟩)) (w' := wx) rfl rfl ?_ (Below.refl _ _) (fun d hd => by cases hd; exact rfl))
        go_simp
      · obtain ⟨_, q47, rfl⟩ := hG.new 47 (by kernel_rfl) (by kernel_rfl)
        obtain ⟨z0, z1, z2, z3, z4, z5⟩ := HX8.out wx (hS.fresh rfl)
        refine step_slot rfl rfl rfl (step_value (v := .string k) (w' := wx) rfl rfl ?_ (Below.refl _ _) (fun d hd => by cases hd; exact rfl))
        go_simp
      · have q2 := hG.old 2 (by kernel_rfl) (by kernel_rfl)
        obtain ⟨z0, z1, z2, z3, z4, z5⟩ := HX8.out wx (hS.fresh rfl)
        refine step_slot rfl rfl rfl (step_value (v := .agg #[.int .i64 s, .string k, .bool true, .string b, .bool n, .string a]) (w' := wx) rfl rfl ?_ (Below.refl _ _) (fun d hd => by cases hd; exact rfl))
        go_simp
      · obtain ⟨_, q49, rfl⟩ := hG.new 49 (by kernel_rfl) (by kernel_rfl)
        refine step_slot rfl rfl rfl (step_call (w1 := wx) (f := 33) (args := #[.agg #[.int .i64 s, .string k, .bool true, .string b, .bool n, .string a]]) rfl rfl ?_ ((ahead_any s k true b n a wx).mono ?_))
        · skip
          go_simp
        · rintro e w' ⟨rfl, hq⟩
          exact ⟨_, rfl, hq, fun d hd => by cases hd; exact rfl⟩
      · have q3 := hG.old 3 (by kernel_rfl) (by kernel_rfl)
        obtain ⟨z0, z1, z2, z3, z4, z5⟩ := HY8.out wx (hS.fresh rfl)
        refine step_slot rfl rfl rfl (step_value (v := .agg #[.int .i64 s2, .string k2, .bool m2, .string b2, .bool n2, .string a2]) (w' := wx) rfl rfl ?_ (Below.refl _ _) (fun d hd => by cases hd; exact rfl))
        go_simp
      · obtain ⟨_, q51, rfl⟩ := hG.new 51 (by kernel_rfl) (by kernel_rfl)
        refine step_slot rfl rfl rfl (step_call (w1 := wx) (f := 32) (args := #[.agg #[.int .i64 s2, .string k2, .bool m2, .string b2, .bool n2, .string a2]]) rfl rfl ?_ ((behind_any s2 k2 m2 b2 n2 a2 wx).mono ?_))
        · skip
          go_simp
        · rintro e w' ⟨rfl, hq⟩
          exact ⟨_, rfl, hq, fun d hd => by cases hd; exact rfl⟩
      · obtain ⟨_, q46, rfl⟩ := hG.new 46 (by kernel_rfl) (by kernel_rfl)
        obtain ⟨_, q48, rfl⟩ := hG.new 48 (by kernel_rfl) (by kernel_rfl)
        obtain ⟨_, q50, rfl⟩ := hG.new 50 (by kernel_rfl) (by kernel_rfl)
        obtain ⟨_, q52, rfl⟩ := hG.new 52 (by kernel_rfl) (by kernel_rfl)
        refine step_slot rfl rfl rfl (step_call (w1 := wx) (f := 26) (args := #[.int .i64 s2, .string k, .agg #[.bool true, .string b], .agg #[.bool n2, .string a2]]) rfl rfl ?_ ((between_any s2 k true b n2 a2 wx).mono ?_))
        · skip
          go_simp
        · rintro e w' ⟨rfl, hq⟩
          exact ⟨_, rfl, hq, fun d hd => by cases hd; exact rfl⟩
      · have q4 := hG.old 4 (by kernel_rfl) (by kernel_rfl)
        obtain ⟨_, q53, rfl⟩ := hG.new 53 (by kernel_rfl) (by kernel_rfl)
        have hbq := Q8.out.on (hS.fresh rfl)
        have f0 := Box.free hbq 0
        have m0 := Box.cell hbq 0 rfl
        have f1 := Box.free hbq 1
        have m1 := Box.cell hbq 1 rfl
        have f2 := Box.free hbq 2
        have m2 := Box.cell hbq 2 rfl
        have f3 := Box.free hbq 3
        have m3 := Box.cell hbq 3 rfl
        have f4 := Box.free hbq 4
        have m4 := Box.cell hbq 4 rfl
        have f5 := Box.free hbq 5
        have m5 := Box.cell hbq 5 rfl
        skip
        refine step_store (w' := ((((((wx.setCell ⟨q, 0, none⟩ (.int .i64 s2)).setCell ⟨q, 1, none⟩ (.string k)).setCell ⟨q, 2, none⟩ (.bool true)).setCell ⟨q, 3, none⟩ (.string b)).setCell ⟨q, 4, none⟩ (.bool n2)).setCell ⟨q, 5, none⟩ (.string a2))) rfl rfl rfl rfl ?_ (⟨(Ex.trans (Ex.trans (Ex.trans (Ex.trans (Ex.trans (Ex.trans hS.ex (Ex.set (g := q) (i := 0) _ (.int .i64 s2))) (Ex.set (g := q) (i := 1) _ (.string k))) (Ex.set (g := q) (i := 2) _ (.bool true))) (Ex.set (g := q) (i := 3) _ (.string b))) (Ex.set (g := q) (i := 4) _ (.bool n2))) (Ex.set (g := q) (i := 5) _ (.string a2))), fun h => absurd h (by decide), fun _ => (Box.set (Box.set (Box.set (Box.set (Box.set (Box.set hbq 0 (.int .i64 s2)) 1 (.string k)) 2 (.bool true)) 3 (.string b)) 4 (.bool n2)) 5 (.string a2))⟩) trivial ?_
        · clear hbq hS
          go_simp
        · intro t u _ hu hV
          unfold JnE at *
          split at hV <;> exact hV
      · refine step_slot rfl rfl rfl (step_value (v := .int .i64 0) (w' := wx) rfl rfl ?_ (Below.refl _ _) (fun d hd => by cases hd; exact rfl))
        go_simp
    · refine Steps1.cons (fun hin _ _ _ _ _ => out (by kernel_rfl) hin) (Steps1.cons (fun hin _ _ _ _ _ => out (by kernel_rfl) hin) (Steps1.cons (fun hin _ _ _ _ _ => out (by kernel_rfl) hin) (Steps1.cons (fun hin _ _ _ _ _ => out (by kernel_rfl) hin) (Steps1.cons (fun hin _ _ _ _ _ => out (by kernel_rfl) hin) (Steps1.cons (fun hin _ _ _ _ _ => out (by kernel_rfl) hin) (Steps1.cons (fun hin _ _ _ _ _ => out (by kernel_rfl) hin) (Steps1.cons (fun hin _ _ _ _ _ => out (by kernel_rfl) hin) (Steps1.cons (fun hin _ _ _ _ _ => out (by kernel_rfl) hin) (Steps1.cons (fun hin _ _ _ _ _ => out (by kernel_rfl) hin) (Steps1.cons (fun _ ax wx hS _ hG => ?_) Steps1.nil))))))))))
      · refine step_slot rfl rfl rfl (step_value (v := .int .i64 0) (w' := wx) rfl rfl ?_ (Below.refl _ _) (fun d hd => by cases hd; exact rfl))
        go_simp
    intro fv w9 hS9 _ hV8
    have e5 : fv 5 = .int .i64 0 := hV8 5 (by decide)
    simp only [puts, Act.put, List.setIfInBounds_toArray, List.set_cons_succ, List.set_cons_zero]
    clear hV8
    rw [e5]
    obtain ⟨p0, p1, p2, p3, p4, p5⟩ : _ ∧ _ ∧ _ ∧ _ ∧ _ ∧ _ := let hx := hS9.done rfl; ⟨hx.cell 0 rfl, hx.cell 1 rfl, hx.cell 2 rfl, hx.cell 3 rfl, hx.cell 4 rfl, hx.cell 5 rfl⟩
    have hb9 := Ex.below HB8.out hS9.ex HQ.out HB8.out.size
    clear hS9
    go_wp2
    exact bodyPost_ret (v := .tuple #[.agg #[.int .i64 s2, .string k, .bool true, .string b, .bool n2, .string a2], .int .i64 0]) (by simp [results, Try.results14, go_sem, p0, p1, p2, p3, p4, p5]) rfl ⟨rfl, hb9⟩

theorem join_any (x y : Ch) (w : World) :
    Calls Try.prog 14 #[x.v, y.v] w fun e w' => e = .returned (.tuple #[(joinA x y).v, .int .i64 (joinE x y)]) ∧ Below w.heap.size w w' := by
  obtain ⟨s, k, m, b, n, a⟩ := x
  obtain ⟨s2, k2, m2, b2, n2, a2⟩ := y
  have no : joinOk ⟨s, k, m, b, n, a⟩ ⟨s2, k2, m2, b2, n2, a2⟩ = false → joinE ⟨s, k, m, b, n, a⟩ ⟨s2, k2, m2, b2, n2, a2⟩ = 1 ∧ joinA ⟨s, k, m, b, n, a⟩ ⟨s2, k2, m2, b2, n2, a2⟩ = noC := fun h => by
    have h1 : joinE ⟨s, k, m, b, n, a⟩ ⟨s2, k2, m2, b2, n2, a2⟩ = 1 := by unfold joinE; rw [h]; rfl
    exact ⟨h1, by unfold joinA; rw [h1]; rfl⟩
  cases hm1 : mayC ⟨s, k, m, b, n, a⟩ with
  | false =>
    obtain ⟨e1, e2⟩ := no (by unfold joinOk; rw [hm1]; rfl)
    rw [e1, e2]
    exact join_w0 s k m b n a s2 k2 m2 b2 n2 a2 w hm1
  | true =>
    cases hm2 : mayC ⟨s2, k2, m2, b2, n2, a2⟩ with
    | false =>
      obtain ⟨e1, e2⟩ := no (by unfold joinOk; rw [hm1, hm2]; rfl)
      rw [e1, e2]
      exact join_w1 s k m b n a s2 k2 m2 b2 n2 a2 w hm1 hm2
    | true =>
      by_cases hk : k = k2
      case neg =>
        obtain ⟨e1, e2⟩ := no (by unfold joinOk; simp [hk])
        rw [e1, e2]
        exact join_w2 s k m b n a s2 k2 m2 b2 n2 a2 w hm1 hm2 hk
      by_cases hs : s2 ≤ s
      case pos =>
        obtain ⟨e1, e2⟩ := no (by unfold joinOk; simp; intros; omega)
        rw [e1, e2]
        exact join_w3 s k m b n a s2 k2 m2 b2 n2 a2 w hm1 hm2 hk hs
      by_cases hd : n = m2 ∧ a = b2
      case neg =>
        obtain ⟨e1, e2⟩ := no (by unfold joinOk; rw [decide_eq_false hd]; simp)
        rw [e1, e2]
        exact join_w4 s k m b n a s2 k2 m2 b2 n2 a2 w hm1 hm2 hk hs hd
      have hok : joinOk ⟨s, k, m, b, n, a⟩ ⟨s2, k2, m2, b2, n2, a2⟩ = true := by unfold joinOk; rw [hm1, hm2, decide_eq_true hk, decide_eq_true (show s < s2 by omega), decide_eq_true hd]; rfl
      cases ho : (m || n2) with
      | false =>
        have e1 : joinE ⟨s, k, m, b, n, a⟩ ⟨s2, k2, m2, b2, n2, a2⟩ = 3 := by unfold joinE; rw [hok]; cases m <;> cases n2 <;> first | rfl | cases ho
        have e2 : joinA ⟨s, k, m, b, n, a⟩ ⟨s2, k2, m2, b2, n2, a2⟩ = noC := by unfold joinA; rw [e1]; rfl
        rw [e1, e2]
        exact join_w6 s k m b n a s2 k2 m2 b2 n2 a2 w hm1 hm2 hk hs hd ho
      | true =>
        have e1 : joinE ⟨s, k, m, b, n, a⟩ ⟨s2, k2, m2, b2, n2, a2⟩ = 0 := by unfold joinE; rw [hok]; cases m <;> cases n2 <;> first | rfl | cases ho
        have e2 : joinA ⟨s, k, m, b, n, a⟩ ⟨s2, k2, m2, b2, n2, a2⟩ = joinC ⟨s, k, m, b, n, a⟩ ⟨s2, k2, m2, b2, n2, a2⟩ := by unfold joinA; rw [e1]; rfl
        rw [e1, e2]
        exact join_w7 s k m b n a s2 k2 m2 b2 n2 a2 w hm1 hm2 hk hs hd ho

end Go.Proofs.Ythhbkgeoigdjaaa
