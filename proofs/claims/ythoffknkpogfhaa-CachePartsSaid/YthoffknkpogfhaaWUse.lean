/- The walk of use: a cache in a block of its own, whose items are a row of the call's own. -/
import Derived.Test.YthoffknkpogfhaaWRight
import Derived.Test.YthoffknkpogfhaaWDel
import Derived.Test.YthoffknkpogfhaaWIns
set_option linter.unusedVariables false
set_option linter.unusedSimpArgs false
namespace Go.Proofs.Ythoffknkpogfhaa
open Go.RowKit

/-- Where use stands: w0: where it began; the cache's block gc has u for its items; the row v has l; the call's own x in g3, its answer in g4. -/
structure UseSt (w0 : World) (base gc g3 g4 : Nat) (r : Option Nat) (m : Int) (x : It) (n : Nat) (l : List It) (w : World) (u v : Value) : Prop where
  k : K2 gc r w0 w
  bx : Box w gc 24 #[.int .i64 m, u]
  own : w.ownsRow base 27 3 v n (l.flatMap It.cells)
  at_ : v.ownBlock = r ∨ ∃ q, g4 < q ∧ v.ownBlock = some q
  b3 : Box w g3 27 x.cells.toArray
  b4 : Box w g4 27 #[.int .i64 0, .string ⟨#[]⟩, .bool false]
  lo : w0.heap.size = g3 ∧ g3 + 1 = g4
  rlt : ∀ q, r = some q → q < g3
  gcl : gc < g3
section
variable {w0 : World} {base gc g3 g4 : Nat} {r : Option Nat} {m : Int} {x : It} {n n' : Nat} {l l' : List It} {w w' : World} {u v v' : Value}
theorem UseSt.ne (h : UseSt w0 base gc g3 g4 r m x n l w u v) : v.ownBlock ≠ some g3 ∧ v.ownBlock ≠ some g4 := by
  have h1 := h.lo
  constructor
  · rcases h.at_ with e | ⟨q, hq, e⟩
    · rw [e]; intro e2; have := h.rlt _ e2; omega
    · rw [e]; intro e2; injection e2 with e2; omega
  · rcases h.at_ with e | ⟨q, hq, e⟩
    · rw [e]; intro e2; have := h.rlt _ e2; omega
    · rw [e]; intro e2; injection e2 with e2; omega
theorem UseSt.off (h : UseSt w0 base gc g3 g4 r m x n l w u v) : v.ownBlock ≠ some gc := own_off h.own h.bx
theorem UseSt.big (h : UseSt w0 base gc g3 g4 r m x n l w u v) : g4 < w.heap.size := h.b4.lt
theorem UseSt.on (h : UseSt w0 base gc g3 g4 r m x n l w u v) (hb : Below w.heap.size w w') : UseSt w0 base gc g3 g4 r m x n l w' u v :=
  ⟨h.k.on hb, h.bx.on hb, own_on h.own hb, h.at_, h.b3.on hb, h.b4.on hb, h.lo, h.rlt, h.gcl⟩
/-- The row is written, or another one comes in its place. -/
theorem UseSt.row (h : UseSt w0 base gc g3 g4 r m x n l w u v) (ho : w'.ownsRow base 27 3 v' n' (l'.flatMap It.cells)) (hg : w.grownBy w' v.ownBlock) (ha : v'.ownBlock = v.ownBlock ∨ ∃ q, w.heap.size ≤ q ∧ v'.ownBlock = some q) :
    UseSt w0 base gc g3 g4 r m x n' l' w' u v' := by
  have hlo := h.lo
  have hbig := h.big
  have hne := h.ne
  have hoff := h.off
  refine ⟨h.k.trans (K2.row hg) ?_, h.bx.grown hg hoff.symm, ho, ?_, h.b3.grown hg hne.1.symm, h.b4.grown hg hne.2.symm, h.lo, h.rlt, h.gcl⟩
  · rcases h.at_ with e | ⟨q, hq, e⟩
    · exact .inl e
    · exact .inr ⟨q, by omega, e⟩
  · rcases ha with e | ⟨q, hq, e⟩
    · rw [e]; exact h.at_
    · exact .inr ⟨q, by omega, e⟩
/-- The cache's block takes the row. -/
theorem UseSt.put (h : UseSt w0 base gc g3 g4 r m x n l w u v) : UseSt w0 base gc g3 g4 r m x n l (w.setCell ⟨gc, 1, none⟩ v) v v := by
  have hlo := h.lo
  have hgl := h.gcl
  have hex : Ex gc w (w.setCell ⟨gc, 1, none⟩ v) := Ex.set w v
  exact ⟨h.k.trans (K2.ex (r := r) hex) (.inl rfl), h.bx.set 1 v, own_ex hex h.own h.off, h.at_, hex.box h.b3 (by omega), hex.box h.b4 (by omega), h.lo, h.rlt, h.gcl⟩
theorem UseSt.see (h : UseSt w0 base gc g3 g4 r m x n l w u v) : w.cell? ⟨gc, 0, none⟩ = some (.int .i64 m) ∧ w.cell? ⟨gc, 1, none⟩ = some u ∧ w.frozen? ⟨gc, 1, none⟩ = false :=
  ⟨Box.cell h.bx 0 rfl, Box.cell h.bx 1 rfl, Box.free h.bx 1⟩
theorem UseSt.seex (h : UseSt w0 base gc g3 g4 r m x n l w u v) : w.cell? ⟨g3, 0, none⟩ = some (.int .i64 x.a) ∧ w.cell? ⟨g3, 1, none⟩ = some (.string x.t) ∧ w.cell? ⟨g3, 2, none⟩ = some (.bool x.d) :=
  ⟨Box.cell h.b3 0 rfl, Box.cell h.b3 1 rfl, Box.cell h.b3 2 rfl⟩
theorem UseSt.seez (h : UseSt w0 base gc g3 g4 r m x n l w u v) : (w.cell? ⟨g4, 0, none⟩ = some (.int .i64 0) ∧ w.cell? ⟨g4, 1, none⟩ = some (.string ⟨#[]⟩) ∧ w.cell? ⟨g4, 2, none⟩ = some (.bool false)) ∧ w.frozen? ⟨g4, 0, none⟩ = false ∧ w.frozen? ⟨g4, 1, none⟩ = false ∧ w.frozen? ⟨g4, 2, none⟩ = false :=
  ⟨⟨Box.cell h.b4 0 rfl, Box.cell h.b4 1 rfl, Box.cell h.b4 2 rfl⟩, Box.free h.b4 0, Box.free h.b4 1, Box.free h.b4 2⟩
/-- What use leaves. -/
def UseOut (w0 : World) (base gc : Nat) (r : Option Nat) (m : Int) (n : Nat) (l : List It) (w : World) : Prop :=
  ∃ v, Box w gc 24 #[.int .i64 m, v] ∧ w.ownsRow base 27 3 v n (l.flatMap It.cells) ∧ K2 gc r w0 w ∧ (v.ownBlock = r ∨ ∃ q, w0.heap.size ≤ q ∧ v.ownBlock = some q)
/-- The answer is written. -/
theorem UseSt.out (h : UseSt w0 base gc g3 g4 r m x n l w v v) (a b c : Value) : UseOut w0 base gc r m n l (((w.setCell ⟨g4, 0, none⟩ a).setCell ⟨g4, 1, none⟩ b).setCell ⟨g4, 2, none⟩ c) := by
  have hlo := h.lo
  have hgl := h.gcl
  have hex : Ex g4 w (((w.setCell ⟨g4, 0, none⟩ a).setCell ⟨g4, 1, none⟩ b).setCell ⟨g4, 2, none⟩ c) := ((Ex.set (g := g4) (i := 0) w a).trans (Ex.set (i := 1) _ b)).trans (Ex.set (i := 2) _ c)
  refine ⟨v, hex.box h.bx (by omega), own_ex hex h.own h.ne.2, h.k.trans (r1 := some g4) (K2.row hex) (.inr ⟨g4, by omega, rfl⟩), ?_⟩
  rcases h.at_ with e | ⟨q, hq, e⟩
  · exact .inl e
  · exact .inr ⟨q, by omega, e⟩
theorem ans_three {w : World} {g : Nat} {T : TypeId} {C : Array Value} (a b c : Value) (h : Box w g T C) (hC : C.size = 3) :
    (((w.setCell ⟨g, 0, none⟩ a).setCell ⟨g, 1, none⟩ b).setCell ⟨g, 2, none⟩ c).cell? ⟨g, 0, none⟩ = some a ∧ (((w.setCell ⟨g, 0, none⟩ a).setCell ⟨g, 1, none⟩ b).setCell ⟨g, 2, none⟩ c).cell? ⟨g, 1, none⟩ = some b ∧ (((w.setCell ⟨g, 0, none⟩ a).setCell ⟨g, 1, none⟩ b).setCell ⟨g, 2, none⟩ c).cell? ⟨g, 2, none⟩ = some c := by
  have h3 := ((h.set 0 a).set 1 b).set 2 c
  refine ⟨Box.cell h3 0 ?_, Box.cell h3 1 ?_, Box.cell h3 2 ?_⟩ <;> simp [hC]
end
theorem del_v (w : World) (base i n : Nat) (v : Value) (l : List It) (h : w.ownsRow base 27 3 v n (l.flatMap It.cells)) (hn : l.length = n) (hi : i < n) (j : Nat) (hj : j = i + 1) :
    Calls Try.prog 31 #[v, .int .i64 i, .int .i64 j] w fun e w' => ∃ A c, e = .returned (.slice A (n - 1) c) ∧ w'.ownsRow base 27 3 (.slice A (n - 1) c) (n - 1) ((l.eraseIdx i).flatMap It.cells) ∧ w.grownBy w' v.ownBlock ∧ (Value.slice A (n - 1) c).ownBlock = v.ownBlock := by
  rcases own_open h with ⟨_, h0, _⟩ | ⟨g, c, C, rfl, hC⟩
  · omega
  · refine (del_own w base g c i n l C (by rw [hn]; exact hC) hn hi j hj).mono ?_
    rintro e w' ⟨D, rfl, hD, hg⟩
    exact ⟨_, _, rfl, hD.own, hg, rfl⟩
theorem ins_v (w : World) (base n h : Nat) (v : Value) (l : List It) (x : It) (hO : w.ownsRow base 27 3 v n (l.flatMap It.cells)) (hln : l.length = n) (hx : Box w h 27 x.cells.toArray) (hgh : v.ownBlock ≠ some h) (hbase : base ≤ w.heap.size) (hn : n ≤ 100000) :
    Calls Try.prog 32 #[v, .int .i64 0, .slice (some ⟨h, 0, none⟩) 1 1] w fun e w' => ∃ A c, e = .returned (.slice A (n + 1) c) ∧ w'.ownsRow base 27 3 (.slice A (n + 1) c) (n + 1) ((x :: l).flatMap It.cells) ∧ w.grownBy w' v.ownBlock ∧ ((Value.slice A (n + 1) c).ownBlock = v.ownBlock ∨ ∃ q, w.heap.size ≤ q ∧ (Value.slice A (n + 1) c).ownBlock = some q) := by
  refine (ins_first w base v n h l x hO hln hx hgh hbase hn).mono ?_
  rintro e w' ⟨v', rfl, ho, hg, ha⟩
  obtain ⟨A, c, rfl⟩ := own_shape ho
  exact ⟨A, c, rfl, ho, hg, ha⟩

def UsV (gc g3 n c : Nat) (A : Option Addr) (xa Z : Int) (p t : Nat) (v : Value) (w : World) : Prop :=
  match t with
  | 9 => v = .pointer (some ⟨gc, 0, none⟩)
  | 10 => v = .pointer (some ⟨gc, 0, none⟩)
  | 11 => v = .pointer (some ⟨gc, 1, none⟩)
  | 12 => v = .slice A n c
  | 13 => v = .pointer (some ⟨g3, 0, none⟩)
  | 14 => v = .int .i64 xa
  | 15 => v = .int .i64 Z
  | 6 => v = .int .i64 Z
  | _ => True
theorem UsV.on {gc g3 n c : Nat} {A : Option Addr} {xa Z : Int} {p t : Nat} {v : Value} {w w' : World} (h : UsV gc g3 n c A xa Z p t v w) (hb : Below w.heap.size w w') : UsV gc g3 n c A xa Z p t v w' := by
  unfold UsV at *
  split at h <;> first | exact h

def Us4 (w0 : World) (base gc g3 g4 B0 : Nat) (r : Option Nat) (m : Int) (n c : Nat) (A : Option Addr) (xa : Int) (xt : ByteArray) (xd : Bool) (l : List It) (p t : Nat) (v : Value) (w : World) : Prop :=
  match t with
  | 29 => v = .pointer (some ⟨gc, 0, none⟩)
  | 30 => v = .pointer (some ⟨gc, 0, none⟩)
  | 31 => v = .pointer (some ⟨gc, 0, none⟩)
  | 32 => v = .pointer (some ⟨gc, 1, none⟩)
  | 33 => v = .slice A n c
  | 34 => v = .agg #[.int .i64 xa, .string xt, .bool xd]
  | 35 => p = 0 → ∃ h, v = .slice (some ⟨h, 0, none⟩) 1 1 ∧ B0 ≤ h ∧ Box w h 27 #[.int .i64 xa, .string xt, .bool xd]
  | 36 => p = 1 → ∃ A' c', v = .slice A' (n + 1) c' ∧ UseSt w0 base gc g3 g4 r m ⟨xa, xt, xd⟩ (n + 1) (⟨xa, xt, xd⟩ :: l) w (.slice A n c) (.slice A' (n + 1) c')
  | 37 => v = .pointer (some ⟨gc, 0, none⟩)
  | 38 => v = .pointer (some ⟨gc, 1, none⟩)
  | _ => True
theorem Us4.on {w0 : World} {base gc g3 g4 B0 : Nat} {r : Option Nat} {m : Int} {n c : Nat} {A : Option Addr} {xa : Int} {xt : ByteArray} {xd : Bool} {l : List It} {p t : Nat} {v : Value} {w w' : World} (h : Us4 w0 base gc g3 g4 B0 r m n c A xa xt xd l p t v w) (hb : Below w.heap.size w w') : Us4 w0 base gc g3 g4 B0 r m n c A xa xt xd l p t v w' := by
  unfold Us4 at *
  split at h <;> first | exact h | exact fun e => (let ⟨q, e1, h0, h1⟩ := h e; ⟨q, e1, h0, h1.on hb⟩) | exact fun e => (let ⟨q, c', e1, h1⟩ := h e; ⟨q, c', e1, h1.on hb⟩)

set_option maxHeartbeats 4000000 in
set_option maxRecDepth 100000 in
theorem use_any (w : World) (base gc n : Nat) (v : Value) (m : Int) (l : List It) (x : It) (hln : l.length = n) (hbx : Box w gc 24 #[.int .i64 m, v]) (ho : w.ownsRow base 27 3 v n (l.flatMap It.cells)) (hbase : base ≤ w.heap.size) (hn : n ≤ 1000) :
    Calls Try.prog 25 #[.pointer (some ⟨gc, 0, none⟩), x.v] w fun e w' => e = .returned (.tuple #[((goneL m l x).getD zI).v, .bool (goneL m l x).isSome]) ∧ UseOut w base gc v.ownBlock m (useL m l x).length (useL m l x) w' := by
  obtain ⟨r, hr⟩ : ∃ r, r = v.ownBlock := ⟨_, rfl⟩
  obtain ⟨Y, hY⟩ : ∃ Y, Y = (goneL m l x).getD zI := ⟨_, rfl⟩
  obtain ⟨G, hG⟩ : ∃ G, G = (goneL m l x).isSome := ⟨_, rfl⟩
  rw [← hr, ← hY, ← hG]
  have HY := Lib.hid hY
  have HG := Lib.hid hG
  obtain ⟨xa, xt, xd⟩ := x
  unfold It.v
  simp only
  obtain ⟨w1, hw1⟩ : ∃ w1, w1 = w.alloc (.cells #[.int .i64 xa, .string xt, .bool xd] 27) := ⟨_, rfl⟩
  obtain ⟨wd, hwd⟩ : ∃ wd, wd = w1.alloc (.cells #[.int .i64 0, .string ⟨#[]⟩, .bool false] 27) := ⟨_, rfl⟩
  obtain ⟨g3, hg3⟩ : ∃ g3, g3 = w.heap.size := ⟨_, rfl⟩
  obtain ⟨g4, hg4⟩ : ∃ g4, g4 = w1.heap.size := ⟨_, rfl⟩
  have hg34 : g3 + 1 = g4 := by rw [hg4, hw1, hg3]; simp
  have hbd : Below w.heap.size w wd := by rw [hwd, hw1]; exact ((Below.refl _ _).alloc (Nat.le_refl _) _).alloc (by simp) _
  obtain ⟨A, c, rfl⟩ := own_shape ho
  have HU := Lib.hid (show UseSt w base gc g3 g4 r m ⟨xa, xt, xd⟩ n l wd (.slice A n c) (.slice A n c) from
    ⟨K2.of hbd, hbx.on hbd, own_on ho hbd, .inl hr.symm, by rw [hwd]; exact Box.push (by rw [hw1]; exact Box.at_ w _ _ hg3) _, by rw [hwd]; exact Box.at_ w1 _ _ hg4, ⟨hg3.symm, hg34⟩, fun q e => by rw [hr] at e; rw [hg3]; exact (own_lt ho e).2, by rw [hg3]; exact hbx.lt⟩)
  have HBS := Lib.hid (show base ≤ wd.heap.size from Nat.le_trans hbase hbd.size)
  have HLN := Lib.hid hln
  have HN := Lib.hid (show n ≤ 1000 from hn)
  obtain ⟨Z, hZ⟩ : ∃ Z, Z = idxL l xa := ⟨_, rfl⟩
  have HZ := Lib.hid hZ
  have HLM := Lib.hid (show l.length ≤ maxLen from by unfold maxLen; omega)
  have hfc := fun (wx : World) (hS : Below wd.heap.size wd wx) => find_any xa wx (IV.own (HU.out.on hS).own HLN.out.symm) HLM.out
  rw [← hZ] at hfc
  clear hZ hln hbx ho hbase hr hbd hY hG
  go_enter Try.func25, Try.ntmps25
  go_upto_region 1 with fail
  rw [← hg3, hg34, ← hw1, ← hwd]
  clear hg3 hg4 hg34 hw1 hwd
  refine wp_region_phase 14 [9, 10, 11, 12, 13, 14, 15, 6] (by kernel_rfl) [] [] (fun _ _ => True) 0 rfl (by kernel_rfl) (SP (fun wx => Below wd.heap.size wd wx) (fun _ => True) (fun _ => True)) (fun wa wb => Below wa.heap.size wa wb) (UsV gc g3 n c A xa Z) (by kernel_rfl) (SP.on below_grow (fun _ _ _ _ => trivial) (fun _ _ _ _ => trivial)) (fun _ t v wa wb h1 h2 => h2.on h1) (fun _ _ _ _ _ _ _ => trivial) (Below.refl _ _).drew trivial (phase0 ?_) ?_
  · refine Steps1.cons (fun _ ax wx hS _ hG => ?_) (Steps1.cons (fun _ ax wx hS _ hG => ?_) (Steps1.cons (fun _ ax wx hS _ hG => ?_) (Steps1.cons (fun _ ax wx hS _ hG => ?_) (Steps1.cons (fun _ ax wx hS _ hG => ?_) (Steps1.cons (fun _ ax wx hS _ hG => ?_) (Steps1.cons (fun _ ax wx hS _ hG => ?_) (Steps1.cons (fun _ ax wx hS _ hG => ?_) Steps1.nil)))))))
    · have q0 := hG.old 0 (by kernel_rfl) (by kernel_rfl)
      refine step_slot rfl rfl rfl (step_value (v := .pointer (some ⟨gc, 0, none⟩)) (w' := wx) rfl rfl ?_ (Below.refl _ _) (fun d hd => by cases hd; exact rfl))
      go_simp
    · obtain ⟨_, q9, rfl⟩ := hG.new 9 (by kernel_rfl) (by kernel_rfl)
      refine step_slot rfl rfl rfl (step_value (v := .pointer (some ⟨gc, 0, none⟩)) (w' := wx) rfl rfl ?_ (Below.refl _ _) (fun d hd => by cases hd; exact rfl))
      go_simp
    · obtain ⟨_, q10, rfl⟩ := hG.new 10 (by kernel_rfl) (by kernel_rfl)
      refine step_slot rfl rfl rfl (step_value (v := .pointer (some ⟨gc, 1, none⟩)) (w' := wx) rfl rfl ?_ (Below.refl _ _) (fun d hd => by cases hd; exact rfl))
      go_simp
    · obtain ⟨_, q11, rfl⟩ := hG.new 11 (by kernel_rfl) (by kernel_rfl)
      obtain ⟨z0, z1, z2⟩ := (HU.out.on hS).see
      refine step_slot rfl rfl rfl (step_value (v := .slice A n c) (w' := wx) rfl rfl ?_ (Below.refl _ _) (fun d hd => by cases hd; exact rfl))
      go_simp
    · have q3 := hG.old 3 (by kernel_rfl) (by kernel_rfl)
      refine step_slot rfl rfl rfl (step_value (v := .pointer (some ⟨g3, 0, none⟩)) (w' := wx) rfl rfl ?_ (Below.refl _ _) (fun d hd => by cases hd; exact rfl))
      go_simp
    · obtain ⟨_, q13, rfl⟩ := hG.new 13 (by kernel_rfl) (by kernel_rfl)
      obtain ⟨z0, z1, z2⟩ := (HU.out.on hS).seex
      refine step_slot rfl rfl rfl (step_value (v := .int .i64 xa) (w' := wx) rfl rfl ?_ (Below.refl _ _) (fun d hd => by cases hd; exact rfl))
      go_simp
    · obtain ⟨_, q12, rfl⟩ := hG.new 12 (by kernel_rfl) (by kernel_rfl)
      obtain ⟨_, q14, rfl⟩ := hG.new 14 (by kernel_rfl) (by kernel_rfl)
      refine step_slot rfl rfl rfl (step_call (w1 := wx) (f := 24) (args := #[.slice A n c, .int .i64 xa]) rfl rfl ?_ ((hfc wx hS).mono ?_))
      · skip
        go_simp
      · rintro e w' ⟨rfl, hq⟩
        exact ⟨_, rfl, hq, fun d hd => by cases hd; exact rfl⟩
    · obtain ⟨_, q15, rfl⟩ := hG.new 15 (by kernel_rfl) (by kernel_rfl)
      refine step_slot rfl rfl rfl (step_value (v := .int .i64 Z) (w' := wx) rfl rfl ?_ (Below.refl _ _) (fun d hd => by cases hd; exact rfl))
      go_simp
  intro fv w8 hS8 _ hV8
  have e6 : fv 6 = .int .i64 Z := hV8 6 (by decide)
  simp only [puts, Act.put, List.setIfInBounds_toArray, List.set_cons_succ, List.set_cons_zero]
  clear hV8
  rw [e6]
  have HU1 := Lib.hid (HU.out.on (show Below _ _ _ from hS8))
  have HBS1 := Lib.hid (Nat.le_trans HBS.out (show Below _ _ _ from hS8).size)
  clear hS8 hfc HU HBS
  obtain ⟨Lw, hLw⟩ : ∃ Lw, Lw = without l xa := ⟨_, rfl⟩
  obtain ⟨b, hb⟩ : ∃ b, b = decide (0 ≤ Z) := ⟨_, rfl⟩
  have HB := Lib.hid hb
  have HLW := Lib.hid hLw
  clear hb hLw
  go_upto_if 17 with fail
  go_cut [6] (fun v6 wx => v6 = .int .i64 Z ∧ ∃ A' n' c', Hid (Lw.length = n') ∧ Hid (base ≤ wx.heap.size) ∧ n' ≤ 1000 ∧ Hid (UseSt w base gc g3 g4 r m ⟨xa, xt, xd⟩ n' Lw wx (.slice A' n' c') (.slice A' n' c')))
  case first =>
    obtain ⟨z0, z1, z2⟩ := HU1.out.see
    by_cases hz : 0 ≤ Z
    · obtain ⟨i, rfl⟩ := Int.eq_ofNat_of_zero_le hz
      have hi : i < n ∧ without l xa = l.eraseIdx i := by
        have h1 := HZ.out
        unfold idxL at h1
        split at h1
        · rename_i h2
          have h3 : i = atL l xa := by omega
          rw [HLN.out] at h2
          exact ⟨by omega, by rw [h3]; rfl⟩
        · omega
      have hbt : b = true := by rw [HB.out]; exact decide_eq_true hz
      have hw1 : IntKind.i64.wrap ((i : Int) + 1) = (i : Int) + 1 := by have := HN.out; rw [IntKind.wrap_i64]; omega
      have hd := del_v w8 base i n _ l HU1.out.own HLN.out hi.1 (i + 1) rfl
      rw [show ((i + 1 : Nat) : Int) = (i : Int) + 1 from by omega] at hd
      have HD := Lib.hid hd
      have HI := Lib.hid hi
      clear hd hi
      go_wp2_with fail
      refine HD.out.mono ?_
      rintro e w9 ⟨A', c', rfl, ho, hg, ha⟩
      have HU2 := Lib.hid (HU1.out.row ho hg (.inl ha))
      have HS2 := Lib.hid hg.size
      obtain ⟨y0, y1, y2⟩ := HU2.out.see
      clear ho hg ha z0 z1 z2
      go_wp2
      go_meet
      case rel =>
        refine ⟨by first | rfl | trivial, A', n - 1, c', ?_, ?_, by have := HN.out; omega, ?_⟩
        · show Lw.length = n - 1
          rw [HLW.out, HI.out.2, List.length_eraseIdx, HLN.out, if_pos HI.out.1]
        · have := HBS1.out; have := HS2.out
          show base ≤ (w9.setCell _ _).heap.size
          simp only [World.setCell, Array.size_modify]
          omega
        · have h1 := HU2.out.put
          rw [← HI.out.2, ← HLW.out] at h1
          exact h1
    · have hbt : b = false := by rw [HB.out]; exact decide_eq_false hz
      have hzd : decide (0 ≤ Z) = false := decide_eq_false hz
      have HWO := Lib.hid (show Lw = l from by
        rw [HLW.out]
        refine without_none fun h => hz ?_
        rw [HZ.out]
        exact idxL_ge.2 h)
      go_wp2
      go_meet
      case rel =>
        refine ⟨by first | rfl | trivial, A, n, c, ?_, HBS1.out, HN.out, ?_⟩
        · show Lw.length = n
          rw [HWO.out, HLN.out]
        · have h1 := HU1.out
          rw [← HWO.out] at h1
          exact h1
  case rest =>
    clear HU1 HBS1 HN HLN HLM
    obtain ⟨rfl, A, n, c, HLN, HBS, hn', HU⟩ := hcut
    have HN := Lib.hid (show n ≤ 100000 from by omega)
    go_upto_region 4 with fail
    refine wp_region_phase 14 [29, 30, 31, 32, 33, 34, 35, 36, 37, 38] (by kernel_rfl) [7, 10] [] (fun _ _ => True) 2 rfl (by kernel_rfl) (SP (fun wx => Below wc.heap.size wc wx) (fun _ => True) (fun wx => ∃ A' c', UseSt w base gc g3 g4 r m ⟨xa, xt, xd⟩ (n + 1) (⟨xa, xt, xd⟩ :: Lw) wx (.slice A' (n + 1) c') (.slice A' (n + 1) c'))) (fun wa wb => Below wa.heap.size wa wb) (Us4 w base gc g3 g4 wc.heap.size r m n c A xa xt xd Lw) (by kernel_rfl) (SP.on below_grow (fun _ _ _ _ => trivial) (fun _ _ h ⟨A', c', hu⟩ => ⟨A', c', hu.on h⟩)) (fun _ t v wa wb h1 h2 => h2.on h1) (fun _ _ _ _ _ _ _ => trivial) (Below.refl _ _).drew trivial (phase2 ?_ ?_ ?_) ?_
    · refine Steps1.cons (fun _ ax wx hS _ hG => ?_) (Steps1.cons (fun _ ax wx hS _ hG => ?_) (Steps1.cons (fun _ ax wx hS _ hG => ?_) (Steps1.cons (fun _ ax wx hS _ hG => ?_) (Steps1.cons (fun _ ax wx hS _ hG => ?_) (Steps1.cons (fun _ ax wx hS _ hG => ?_) (Steps1.cons (fun _ ax wx hS _ hG => ?_) (Steps1.cons (fun _ ax wx hS _ hG => ?_) (Steps1.cons (fun _ ax wx hS _ hG => ?_) (Steps1.cons (fun _ ax wx hS _ hG => ?_) (Steps1.cons (fun hin _ _ _ _ _ => out (by kernel_rfl) hin) Steps1.nil))))))))))
      · have q0 := hG.old 0 (by kernel_rfl) (by kernel_rfl)
        refine step_slot rfl rfl rfl (step_value (v := .pointer (some ⟨gc, 0, none⟩)) (w' := wx) rfl rfl ?_ (Below.refl _ _) (fun d hd => by cases hd; exact rfl))
        go_simp
      · have q0 := hG.old 0 (by kernel_rfl) (by kernel_rfl)
        refine step_slot rfl rfl rfl (step_value (v := .pointer (some ⟨gc, 0, none⟩)) (w' := wx) rfl rfl ?_ (Below.refl _ _) (fun d hd => by cases hd; exact rfl))
        go_simp
      · obtain ⟨_, q30, rfl⟩ := hG.new 30 (by kernel_rfl) (by kernel_rfl)
        refine step_slot rfl rfl rfl (step_value (v := .pointer (some ⟨gc, 0, none⟩)) (w' := wx) rfl rfl ?_ (Below.refl _ _) (fun d hd => by cases hd; exact rfl))
        go_simp
      · obtain ⟨_, q31, rfl⟩ := hG.new 31 (by kernel_rfl) (by kernel_rfl)
        refine step_slot rfl rfl rfl (step_value (v := .pointer (some ⟨gc, 1, none⟩)) (w' := wx) rfl rfl ?_ (Below.refl _ _) (fun d hd => by cases hd; exact rfl))
        go_simp
      · obtain ⟨_, q32, rfl⟩ := hG.new 32 (by kernel_rfl) (by kernel_rfl)
        obtain ⟨z0, z1, z2⟩ := (HU.out.on hS).see
        refine step_slot rfl rfl rfl (step_value (v := .slice A n c) (w' := wx) rfl rfl ?_ (Below.refl _ _) (fun d hd => by cases hd; exact rfl))
        go_simp
      · have q3 := hG.old 3 (by kernel_rfl) (by kernel_rfl)
        obtain ⟨z0, z1, z2⟩ := (HU.out.on hS).seex
        refine step_slot rfl rfl rfl (step_value (v := .agg #[.int .i64 xa, .string xt, .bool xd]) (w' := wx) rfl rfl ?_ (Below.refl _ _) (fun d hd => by cases hd; exact rfl))
        go_simp
      · obtain ⟨_, q34, rfl⟩ := hG.new 34 (by kernel_rfl) (by kernel_rfl)
        refine step_slot rfl rfl rfl (step_value (v := .slice (some ⟨wx.heap.size, 0, none⟩) 1 1) (w' := wx.alloc (.cells #[.int .i64 xa, .string xt, .bool xd] 27)) rfl rfl ?_ ((Below.refl _ _).alloc (Nat.le_refl _) _) (fun d hd => by cases hd; exact fun _ => ⟨_, rfl, (show Below _ _ _ from hS).size, Box.fresh _ _ _⟩))
        go_simp
      · obtain ⟨_, q33, rfl⟩ := hG.new 33 (by kernel_rfl) (by kernel_rfl)
        obtain ⟨v35, q35, h35⟩ := hG.new 35 (by kernel_rfl) (by kernel_rfl)
        have p35 : 0 = 0 → ∃ h, v35 = .slice (some ⟨h, 0, none⟩) 1 1 ∧ wc.heap.size ≤ h ∧ Box wx h 27 #[.int .i64 xa, .string xt, .bool xd] := h35
        obtain ⟨h, rfl, hlo, hbx⟩ := p35 rfl
        have hu := HU.out.on (show Below _ _ _ from hS)
        have hap : (Value.slice A n c).ownBlock ≠ some h := fun e => by have h1 := (own_lt HU.out.own e).2; omega
        refine step_marked_call (w1 := wx) (f := 32) (args := #[.slice A n c, .int .i64 0, .slice (some ⟨h, 0, none⟩) 1 1]) rfl rfl rfl rfl ?_ ((ins_v wx base n h _ Lw ⟨xa, xt, xd⟩ hu.own HLN.out hbx hap (Nat.le_trans HBS.out (show Below _ _ _ from hS).size) HN.out).mono ?_)
        · clear p35 h35 hu hap hbx hlo
          go_simp
        · rintro e w' ⟨A', c', rfl, ho, hg, ha⟩
          exact ⟨_, rfl, trivial, trivial, fun _ => ⟨A', c', rfl, hu.row ho hg ha⟩, fun t u _ ht hu hV => by
            unfold Us4 at *
            split at hV <;> first | exact hV | exact fun h => absurd h (by decide) | exact absurd rfl ht⟩
      · obtain ⟨_, q29, rfl⟩ := hG.new 29 (by kernel_rfl) (by kernel_rfl)
        refine step_slot rfl rfl rfl (step_value (v := .pointer (some ⟨gc, 0, none⟩)) (w' := wx) rfl rfl ?_ (Below.refl _ _) (fun d hd => by cases hd; exact rfl))
        go_simp
      · obtain ⟨_, q37, rfl⟩ := hG.new 37 (by kernel_rfl) (by kernel_rfl)
        refine step_slot rfl rfl rfl (step_value (v := .pointer (some ⟨gc, 1, none⟩)) (w' := wx) rfl rfl ?_ (Below.refl _ _) (fun d hd => by cases hd; exact rfl))
        go_simp
    · refine Steps1.cons (fun _ ax wx hS _ hG => ?_) (Steps1.cons (fun hin _ _ _ _ _ => out (by kernel_rfl) hin) (Steps1.cons (fun hin _ _ _ _ _ => out (by kernel_rfl) hin) (Steps1.cons (fun hin _ _ _ _ _ => out (by kernel_rfl) hin) (Steps1.cons (fun hin _ _ _ _ _ => out (by kernel_rfl) hin) (Steps1.cons (fun hin _ _ _ _ _ => out (by kernel_rfl) hin) (Steps1.cons (fun hin _ _ _ _ _ => out (by kernel_rfl) hin) (Steps1.cons (fun hin _ _ _ _ _ => out (by kernel_rfl) hin) (Steps1.cons (fun _ ax wx hS _ hG => ?_) (Steps1.cons (fun _ ax wx hS _ hG => ?_) (Steps1.cons (fun _ ax wx hS _ hG => ?_) Steps1.nil))))))))))
      · have q0 := hG.old 0 (by kernel_rfl) (by kernel_rfl)
        refine step_slot rfl rfl rfl (step_value (v := .pointer (some ⟨gc, 0, none⟩)) (w' := wx) rfl rfl ?_ (Below.refl _ _) (fun d hd => by cases hd; exact rfl))
        go_simp
      · obtain ⟨_, q29, rfl⟩ := hG.new 29 (by kernel_rfl) (by kernel_rfl)
        refine step_slot rfl rfl rfl (step_value (v := .pointer (some ⟨gc, 0, none⟩)) (w' := wx) rfl rfl ?_ (Below.refl _ _) (fun d hd => by cases hd; exact rfl))
        go_simp
      · obtain ⟨_, q37, rfl⟩ := hG.new 37 (by kernel_rfl) (by kernel_rfl)
        refine step_slot rfl rfl rfl (step_value (v := .pointer (some ⟨gc, 1, none⟩)) (w' := wx) rfl rfl ?_ (Below.refl _ _) (fun d hd => by cases hd; exact rfl))
        go_simp
      · obtain ⟨_, q38, rfl⟩ := hG.new 38 (by kernel_rfl) (by kernel_rfl)
        obtain ⟨v36, q36, h36⟩ := hG.new 36 (by kernel_rfl) (by kernel_rfl)
        have p36 : 1 = 1 → ∃ A' c', v36 = .slice A' (n + 1) c' ∧ UseSt w base gc g3 g4 r m ⟨xa, xt, xd⟩ (n + 1) (⟨xa, xt, xd⟩ :: Lw) wx (.slice A n c) (.slice A' (n + 1) c') := h36
        obtain ⟨A', c', rfl, hu⟩ := p36 rfl
        obtain ⟨z0, z1, f1⟩ := hu.see
        refine step_store (w' := wx.setCell ⟨gc, 1, none⟩ (.slice A' (n + 1) c')) rfl rfl rfl rfl ?_ ⟨A', c', hu.put⟩ trivial ?_
        · clear hu p36 h36
          go_simp
        · intro t u _ hu hV
          unfold Us4 at *
          split at hV <;> first | exact hV | exact fun h => absurd h (by decide)
    · refine Steps1.cons (fun hin _ _ _ _ _ => out (by kernel_rfl) hin) (Steps1.cons (fun hin _ _ _ _ _ => out (by kernel_rfl) hin) (Steps1.cons (fun hin _ _ _ _ _ => out (by kernel_rfl) hin) (Steps1.cons (fun hin _ _ _ _ _ => out (by kernel_rfl) hin) (Steps1.cons (fun hin _ _ _ _ _ => out (by kernel_rfl) hin) (Steps1.cons (fun hin _ _ _ _ _ => out (by kernel_rfl) hin) (Steps1.cons (fun hin _ _ _ _ _ => out (by kernel_rfl) hin) (Steps1.cons (fun hin _ _ _ _ _ => out (by kernel_rfl) hin) (Steps1.cons (fun hin _ _ _ _ _ => out (by kernel_rfl) hin) (Steps1.cons (fun hin _ _ _ _ _ => out (by kernel_rfl) hin) (Steps1.cons (fun hin _ _ _ _ _ => out (by kernel_rfl) hin) Steps1.nil))))))))))
    intro fv w8 hS8 _ hV8
    simp only [puts, Act.put, List.setIfInBounds_toArray, List.set_cons_succ, List.set_cons_zero]
    clear hV8
    obtain ⟨A4, c4, hu4⟩ := (show ∃ A' c', UseSt w base gc g3 g4 r m ⟨xa, xt, xd⟩ (n + 1) (⟨xa, xt, xd⟩ :: Lw) w8 (.slice A' (n + 1) c') (.slice A' (n + 1) c') from hS8)
    clear hS8 HU HBS
    have hu4 := Lib.hid hu4
    obtain ⟨L1, hL1⟩ : ∃ L1, L1 = (⟨xa, xt, xd⟩ : It) :: Lw := ⟨_, rfl⟩
    rw [← hL1] at hu4
    have HF := Lib.hid (show front l ⟨xa, xt, xd⟩ = L1 from by rw [hL1, HLW.out]; rfl)
    have HL1 := Lib.hid (show L1.length = n + 1 from by rw [hL1, List.length_cons, HLN.out])
    clear hL1
    obtain ⟨z0, z1, z2⟩ := hu4.out.see
    have hwn : IntKind.i64.wrap ((n : Int) + 1 - 1) = (n : Int) := by rw [IntKind.wrap_i64]; omega
    by_cases hm : (n : Int) < m
    · have HE := Lib.hid (show Y = zI ∧ G = false ∧ useL m l ⟨xa, xt, xd⟩ = L1 from by
        rw [HY.out, HG.out]
        unfold goneL gone useL cutL
        rw [HF.out, HL1.out, if_pos (by omega), if_pos (by omega)]
        exact ⟨rfl, rfl, rfl⟩)
      have HO := Lib.hid (hu4.out.out (.int .i64 0) (.string ⟨#[]⟩) (.bool false))
      have HA := Lib.hid (ans_three (.int .i64 0) (.string ⟨#[]⟩) (.bool false) hu4.out.b4 rfl)
      obtain ⟨⟨k0, k1, k2⟩, f0, f1, f2⟩ := hu4.out.seez
      clear hu4
      go_wp2
      obtain ⟨p0, p1, p2⟩ := HA.out
      rw [HE.out.1, HE.out.2.1, HE.out.2.2]
      exact bodyPost_ret (v := .tuple #[.agg #[.int .i64 0, .string ⟨#[]⟩, .bool false], .bool false]) (by simp [results, Try.results25, go_sem, p0, p1, p2]) rfl ⟨rfl, by rw [HL1.out]; exact HO.out⟩
    · rcases own_open hu4.out.own with ⟨e, h0, _⟩ | ⟨r4, c5, C, e, hC⟩
      · omega
      injection e with e1 e2 e3
      subst e1 e3
      have hnl : n < L1.length := by rw [HL1.out]; omega
      obtain ⟨y, hy⟩ : ∃ y, y = L1[n]'hnl := ⟨_, rfl⟩
      have hcell : ∀ j u, y.cells[j]? = some u → w8.cell? ⟨r4, n * 3 + j, none⟩ = some u := fun j u hu => by
        have hj : j < 3 := by rw [← It.cells3 y]; exact (List.getElem?_eq_some_iff.1 hu).1
        refine hC.cell ?_
        rw [flat_get It.cells3 L1 n hnl j hj, ← hy]
        exact hu
      have x0 := hcell 0 _ rfl
      have x1 := hcell 1 _ rfl
      have x2 := hcell 2 _ rfl
      have HE := Lib.hid (show Y = y ∧ G = true ∧ useL m l ⟨xa, xt, xd⟩ = L1.eraseIdx n from by
        rw [HY.out, HG.out]
        unfold goneL gone useL cutL
        rw [HF.out, HL1.out, if_neg (by omega), if_neg (by omega), List.getLast?_eq_getElem?, HL1.out, show n + 1 - 1 = n from rfl, List.getElem?_eq_getElem hnl, ← hy]
        refine ⟨rfl, rfl, ?_⟩
        rw [List.eraseIdx_eq_take_drop_succ, List.drop_of_length_le (by rw [HL1.out]; omega), List.append_nil, List.dropLast_eq_take, HL1.out]
        rfl)
      clear hcell hC hy
      obtain ⟨ya, yt, yd⟩ := y
      simp only [Nat.add_zero] at x0 x1 x2
      go_upto_region 9 with fail
      obtain ⟨g8, hg8⟩ : ∃ g8, g8 = w8.heap.size := ⟨_, rfl⟩
      rw [← hg8]
      obtain ⟨w9, hw9⟩ : ∃ w9, w9 = w8.alloc (.cells #[.int .i64 ya, .string yt, .bool yd] 27) := ⟨_, rfl⟩
      rw [← hw9]
      have hb9 : Below w8.heap.size w8 w9 := by rw [hw9]; exact (Below.refl _ _).alloc (Nat.le_refl _) _
      have HU9 := Lib.hid (hu4.out.on hb9)
      have BY := Lib.hid (show Box w9 g8 27 #[.int .i64 ya, .string yt, .bool yd] from by rw [hw9]; exact Box.at_ w8 _ _ hg8)
      have HG8 := Lib.hid (show r4 ≠ g8 ∧ gc ≠ g8 from by
        have h1 := (own_lt hu4.out.own (show (Value.slice (some ⟨r4, 0, none⟩) (n + 1) c4).ownBlock = some r4 from rfl)).2
        have h2 := hu4.out.bx.lt
        exact ⟨by omega, by omega⟩)
      obtain ⟨v0, v1, v2⟩ := HU9.out.see
      have hw1 : IntKind.i64.wrap ((n : Int) + 1) = (n : Int) + 1 := by rw [IntKind.wrap_i64]; omega
      have hd := del_v w9 base n (n + 1) _ L1 HU9.out.own HL1.out (by omega) (n + 1) rfl
      rw [show ((n + 1 : Nat) : Int) = (n : Int) + 1 from by omega, show n + 1 - 1 = n from rfl] at hd
      have HD := Lib.hid hd
      clear hd hg8 hw9 hb9 hu4 x0 x1 x2 z0 z1 z2 hnl
      go_wp2_with fail
      refine HD.out.mono ?_
      rintro e w10 ⟨A', c', rfl, ho, hg, ha⟩
      have HU10 := Lib.hid (HU9.out.row ho hg (.inl ha))
      have BY10 := Lib.hid (show Box w10 g8 _ _ from BY.out.grown hg (by simp [Value.ownBlock]; exact fun e => HG8.out.1 e.symm))
      obtain ⟨z0, z1, z2⟩ := HU10.out.see
      clear ho hg ha v0 v1 v2 HU9 BY HD
      go_upto_region 10 with fail
      obtain ⟨w11, hw11⟩ : ∃ w11, w11 = w10.setCell ⟨gc, 1, none⟩ (.slice A' n c') := ⟨_, rfl⟩
      rw [← hw11]
      have HU11 := Lib.hid (show UseSt w base gc g3 g4 r m ⟨xa, xt, xd⟩ n (L1.eraseIdx n) w11 (.slice A' n c') (.slice A' n c') from by rw [hw11]; exact HU10.out.put)
      have BY11 := (show Box w11 g8 _ _ from by rw [hw11]; exact (Ex.set (g := gc) (i := 1) w10 (.slice A' n c')).box BY10.out HG8.out.2.symm)
      have y0 := Box.cell BY11 0 rfl
      have y1 := Box.cell BY11 1 rfl
      have y2 := Box.cell BY11 2 rfl
      have HO := Lib.hid (HU11.out.out (.int .i64 ya) (.string yt) (.bool yd))
      have HA := Lib.hid (ans_three (.int .i64 ya) (.string yt) (.bool yd) HU11.out.b4 rfl)
      obtain ⟨⟨k0, k1, k2⟩, f0, f1, f2⟩ := HU11.out.seez
      clear HU10 HU11 BY10 BY11 z0 z1 z2 hw11
      go_wp2
      obtain ⟨p0, p1, p2⟩ := HA.out
      rw [HE.out.1, HE.out.2.1, HE.out.2.2]
      exact bodyPost_ret (v := .tuple #[.agg #[.int .i64 ya, .string yt, .bool yd], .bool true]) (by simp [results, Try.results25, go_sem, p0, p1, p2]) rfl ⟨rfl, by rw [List.length_eraseIdx, HL1.out, if_pos (by omega)]; exact HO.out⟩

end Go.Proofs.Ythoffknkpogfhaa
