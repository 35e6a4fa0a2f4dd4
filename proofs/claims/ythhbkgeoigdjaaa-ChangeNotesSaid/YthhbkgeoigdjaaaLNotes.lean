/- The walk of ChangeNotes: changes made of notes do what the notes do; the last two as one. -/
import Derived.Test.YthhbkgeoigdjaaaAwk
import Derived.Test.YthhbkgeoigdjaaaSf
import Derived.Test.YthhbkgeoigdjaaaNf
import Derived.Test.YthhbkgeoigdjaaaAp
set_option linter.unusedVariables false
set_option linter.unusedSimpArgs false
namespace Go.Proofs.Ythhbkgeoigdjaaa
open Go.RowKit Go.Sort

/-- A row of the call's own that holds these changes. -/
structure RowC (B : Nat) (w : World) (v : Value) (C : List Ch) : Prop where
  own : w.ownsRow B 27 6 v C.length (C.flatMap Ch.cells)
theorem RowC.on {B : Nat} {w w' : World} {v : Value} {C : List Ch} (h : RowC B w v C) (hb : Below w.heap.size w w') : RowC B w' v C := ⟨own_on h.own hb⟩
theorem RowC.cv {B : Nat} {w : World} {v : Value} {C : List Ch} (h : RowC B w v C) : CV w v C := CV.own h.own rfl
theorem CV.take {w : World} {A : Option Addr} {n c i : Nat} {C : List Ch} (h : CV w (.slice A n c) C) (hi : i ≤ C.length) : CV w (.slice A i c) (C.take i) := by
  obtain ⟨A', c', e, h1, h2, h3⟩ := h
  injection e with e1 e2 e3
  subst e1 e3
  have hl : (C.take i).length = i := by rw [List.length_take]; omega
  refine ⟨A, c, by rw [hl], ?_, by omega, h3⟩
  intro h0
  obtain ⟨ad, e4, h4, h5⟩ := h1 (by omega)
  refine ⟨ad, e4, h4, fun j hj k u hu => ?_⟩
  have hj2 : j < C.length := by omega
  refine h5 j hj2 k u ?_
  rw [← hu, List.getElem_take]
theorem append_change (w : World) {ops : Array Oper} {rest : List Oper} {o : Oper} {a : Act} {Q : Exit → Act → World → Prop} (hgd : o.guard = none) (s x : Operand)
    (ho : o.op = .call { callee := .builtin .append, args := #[s, x], argTypes := #[39, 39] })
    (base : Nat) (v : Value) (n : Nat) (xs : List Value) (hs : a.eval s = v) (hown : w.ownsRow base 27 6 v n xs)
    (B g : Nat) (y : Ch) (hx : a.eval x = .slice (some ⟨g, 0, none⟩) 1 1) (hr : Chs w B (some ⟨g, 0, none⟩) [y]) (hn : n ≤ 100000) (hbase : base ≤ w.heap.size)
    (h : ∀ v' w', w'.ownsRow base 27 6 v' (n + 1) (xs ++ y.cells) → w.grownBy w' v.ownBlock → (v'.ownBlock = v.ownBlock ∨ v'.ownBlock = some w.heap.size) → wpList Try.prog ops Q rest (a.put o.dst v') w') : wpList Try.prog ops Q (o :: rest) a w := by
  obtain ⟨i0, hi0, hz0, hz1, hz2⟩ := info_parts change_info
  exact wpList_append_own_at w hgd s x 39 ho base 27 i0 (.agg #[.int .i64 0, .string ⟨#[]⟩, .bool false, .string ⟨#[]⟩, .bool false, .string ⟨#[]⟩]) 6 72 Try.underlying39 hi0 hz0 hz1 hz2 rfl (by decide) v n xs hs hown ⟨g, 0, none⟩ 1 1 y.cells hx rfl
    (fun j u hu => chs_cells hr j u (by simpa using hu)) (fun u hu => chs_plain [y] u (by simpa using hu)) (by unfold maxLen; omega) (by omega) hbase (fun v' w' h1 h2 _ h4 => h v' w' h1 h2 h4)

theorem two_last {C : List Ch} (h : 2 ≤ C.length) : ∃ D x y, C = D ++ [x, y] := by
  rcases List.eq_nil_or_concat C with rfl | ⟨D, y, rfl⟩
  · simp at h
  · rcases List.eq_nil_or_concat D with rfl | ⟨E, x, rfl⟩
    · simp at h
    · exact ⟨E, x, y, by simp⟩
theorem own_zero {w : World} {base g h : Nat} {T U : TypeId} {xs : List Value} {C : Array Value} (ho : w.ownsRow base T 6 (.slice (some ⟨g, 0, none⟩) 0 0) 0 xs) (hb : Box w h U C) (hC : 0 < C.size) : some h ≠ (Value.slice (some ⟨g, 0, none⟩) 0 0).ownBlock := by
  rcases ho.2 with ⟨e, _⟩ | ⟨q, cap, cur, e, _, h1, _, _, h2, _⟩
  · cases e
  · injection e with e1 e2 e3
    subst e3
    intro e4
    simp only [Value.ownBlock, Option.some.injEq] at e4
    injection e1 with e1
    injection e1 with e1 _ _
    subst e1 e4
    rw [show w.heap[h]? = some (.cells C U (0, 0)) from hb] at h1
    injection h1 with h1
    injection h1 with h1 _ _
    rw [h1] at hC
    omega
theorem cv_box {w : World} {h : Nat} {x : Ch} {C : Array Value} (hb : Box w h 27 C) (hC : C.toList = x.cells) : CV w (.slice (some ⟨h, 0, none⟩) 1 1) [x] := by
  refine ⟨some ⟨h, 0, none⟩, 1, rfl, ?_, Nat.le_refl _, fun e => by cases e⟩
  intro _
  refine ⟨⟨h, 0, none⟩, rfl, hb.lt, fun i hi j u hu => ?_⟩
  have hi0 : i = 0 := by simpa using hi
  subst hi0
  have hu : x.cells[j]? = some u := hu
  rw [← hC, Array.getElem?_toList] at hu
  have := Box.cell hb j hu
  by_cases hj : j = 0
  · subst hj; simpa [Addr.add] using this
  · simpa [Addr.add, hj] using this
theorem run_app_cv (w : World) (base : Nat) (v : Value) (n : Nat) (xs : List Value) (hown : w.ownsRow base 27 6 v n xs) {u : Value} {l : List Ch} (hv : CV w u l) (hn : n + l.length ≤ 100000) (hbase : base ≤ w.heap.size) :
    ∃ v' w', (∀ ty, (Builtin.append_ #[39, 39] ty #[v, u]).run Try.prog w = .ok v' w') ∧ w'.ownsRow base 27 6 v' (n + l.length) (xs ++ l.flatMap Ch.cells) ∧ w.grownBy w' v.ownBlock ∧ (v'.ownBlock = v.ownBlock ∨ v'.ownBlock = some w.heap.size) := by
  obtain ⟨i0, hi0, hz0, hz1, hz2⟩ := info_parts change_info
  obtain ⟨A, c, rfl, hA, hc, h0⟩ := hv
  cases A with
  | none =>
    have hl : l = [] := by
      cases l with
      | nil => rfl
      | cons x l => obtain ⟨ad, e, _⟩ := hA (by simp); cases e
    subst hl
    have : c = 0 := h0 rfl
    subst this
    exact ⟨v, w, fun ty => run_append_owned_none w base 39 ty 27 i0 6 Try.underlying39 hi0 v n xs hown, by simpa using hown, ⟨rfl, rfl, rfl, Nat.le_refl _, fun _ _ _ => rfl⟩, .inl rfl⟩
  | some ad =>
    obtain ⟨v', w', h1, h2, h3, _, h5⟩ := run_append_own_at (P := Try.prog) w base 39 0 27 i0 (.agg #[.int .i64 0, .string ⟨#[]⟩, .bool false, .string ⟨#[]⟩, .bool false, .string ⟨#[]⟩]) 6 72 Try.underlying39 hi0 hz0 hz1 hz2 rfl (by decide) v n xs hown ad l.length c (l.flatMap Ch.cells) (chs_len l)
      (chs_cells hA) (chs_plain l) (by unfold maxLen; omega) (by omega) hbase
    exact ⟨v', w', fun ty => h1, h2, h3, h5⟩

def NtsS (n8 : Nat) (p t : Nat) (v : Value) (w : World) : Prop :=
  match t with
  | 143 => v = .int .i64 n8
  | 144 => v = .bool false
  | 145 => v = .bool false
  | 146 => v = undef
  | 147 => v = undef
  | 148 => v = undef
  | 149 => v = undef
  | 150 => v = undef
  | 151 => v = undef
  | 152 => v = undef
  | 153 => v = undef
  | 154 => v = undef
  | 155 => v = undef
  | 156 => v = undef
  | 157 => v = undef
  | 158 => v = undef
  | 159 => v = .bool false
  | _ => True
theorem NtsS.on {n8 : Nat} {p t : Nat} {v : Value} {w w' : World} (h : NtsS n8 p t v w) (hb : Below w.heap.size w w') : NtsS n8 p t v w' := by
  unfold NtsS at *
  split at h <;> first | exact h

def NtsB (ad : Addr) (n8 c8 i1 i2 : Nat) (k1 k2 : ByteArray) (KB : Bool) (p t : Nat) (v : Value) (w : World) : Prop :=
  match t with
  | 143 => v = .int .i64 n8
  | 144 => v = .bool true
  | 145 => v = .bool true
  | 146 => v = .slice (some ad) n8 c8
  | 147 => v = .int .i64 n8
  | 148 => v = .int .i64 (i1 : Int)
  | 149 => v = .pointer (some (ad.add (i1 * 6)))
  | 150 => v = .pointer (some ⟨(ad.add (i1 * 6)).block, (ad.add (i1 * 6)).off + 1, none⟩)
  | 151 => v = .string k1
  | 152 => v = .slice (some ad) n8 c8
  | 153 => v = .int .i64 n8
  | 154 => v = .int .i64 (i2 : Int)
  | 155 => v = .pointer (some (ad.add (i2 * 6)))
  | 156 => v = .pointer (some ⟨(ad.add (i2 * 6)).block, (ad.add (i2 * 6)).off + 1, none⟩)
  | 157 => v = .string k2
  | 158 => v = .bool KB
  | 159 => v = .bool KB
  | _ => True
theorem NtsB.on {ad : Addr} {n8 c8 i1 i2 : Nat} {k1 k2 : ByteArray} {KB : Bool} {p t : Nat} {v : Value} {w w' : World} (h : NtsB ad n8 c8 i1 i2 k1 k2 KB p t v w) (hb : Below w.heap.size w w') : NtsB ad n8 c8 i1 i2 k1 k2 KB p t v w' := by
  unfold NtsB at *
  split at h <;> first | exact h

def NtsJ (ad : Addr) (n8 c8 i1 i2 : Nat) (s1 : Int) (k1 : ByteArray) (m1 : Bool) (b1 : ByteArray) (n1 : Bool) (a1 : ByteArray) (s2 : Int) (k2 : ByteArray) (m2 : Bool) (b2 : ByteArray) (n2 : Bool) (a2 : ByteArray) (sj : Int) (kj : ByteArray) (mj : Bool) (bj : ByteArray) (nj : Bool) (aj : ByteArray) (E3 : Int) (B0 : Nat) (p t : Nat) (v : Value) (w : World) : Prop :=
  match t with
  | 161 => v = .slice (some ad) n8 c8
  | 162 => v = .int .i64 n8
  | 163 => v = .int .i64 (i1 : Int)
  | 164 => v = .pointer (some (ad.add (i1 * 6)))
  | 165 => v = .agg #[.int .i64 s1, .string k1, .bool m1, .string b1, .bool n1, .string a1]
  | 166 => v = .slice (some ad) n8 c8
  | 167 => v = .int .i64 n8
  | 168 => v = .int .i64 (i2 : Int)
  | 169 => v = .pointer (some (ad.add (i2 * 6)))
  | 170 => v = .agg #[.int .i64 s2, .string k2, .bool m2, .string b2, .bool n2, .string a2]
  | 171 => v = .tuple #[.agg #[.int .i64 sj, .string kj, .bool mj, .string bj, .bool nj, .string aj], .int .i64 E3]
  | 160 => v = .tuple #[.agg #[.int .i64 sj, .string kj, .bool mj, .string bj, .bool nj, .string aj], .int .i64 E3]
  | 172 => v = .agg #[.int .i64 sj, .string kj, .bool mj, .string bj, .bool nj, .string aj]
  | 173 => v = .int .i64 E3
  | 20 => NewB B0 27 #[.int .i64 0, .string ⟨#[]⟩, .bool false, .string ⟨#[]⟩, .bool false, .string ⟨#[]⟩] #[.int .i64 sj, .string kj, .bool mj, .string bj, .bool nj, .string aj] p v w
  | 21 => v = .int .i64 E3
  | _ => True
theorem NtsJ.on {ad : Addr} {n8 c8 i1 i2 : Nat} {s1 : Int} {k1 : ByteArray} {m1 : Bool} {b1 : ByteArray} {n1 : Bool} {a1 : ByteArray} {s2 : Int} {k2 : ByteArray} {m2 : Bool} {b2 : ByteArray} {n2 : Bool} {a2 : ByteArray} {sj : Int} {kj : ByteArray} {mj : Bool} {bj : ByteArray} {nj : Bool} {aj : ByteArray} {E3 : Int} {B0 : Nat} {p t : Nat} {v : Value} {w w' : World} (h : NtsJ ad n8 c8 i1 i2 s1 k1 m1 b1 n1 a1 s2 k2 m2 b2 n2 a2 sj kj mj bj nj aj E3 B0 p t v w) (hb : Below w.heap.size w w') : NtsJ ad n8 c8 i1 i2 s1 k1 m1 b1 n1 a1 s2 k2 m2 b2 n2 a2 sj kj mj bj nj aj E3 B0 p t v w' := by
  unfold NtsJ at *
  split at h <;> first | exact h | exact NewB.on h hb

def NtsE (A : Option Addr) (nl c : Nat) (ad : Addr) (n8 c8 i1 bs : Nat) (sj : Int) (kj : ByteArray) (mj : Bool) (bj : ByteArray) (nj : Bool) (aj : ByteArray) (D : List Ch) (J : Ch) (P : List Pr) (p t : Nat) (v : Value) (w : World) : Prop :=
  match t with
  | 192 => v = .slice A nl c
  | 193 => p = 0 → ∃ g, v = .slice (some ⟨g, 0, none⟩) 0 0 ∧ World.ownsRow w bs 27 6 v 0 []
  | 194 => v = .slice (some ad) n8 c8
  | 195 => v = .int .i64 n8
  | 196 => v = .int .i64 (i1 : Int)
  | 197 => v = .slice (some ad) i1 c8
  | 198 => p = 1 → World.ownsRow w bs 27 6 v i1 (D.flatMap Ch.cells)
  | 199 => v = .agg #[.int .i64 sj, .string kj, .bool mj, .string bj, .bool nj, .string aj]
  | 200 => p ≤ 1 → ∃ h, v = .slice (some ⟨h, 0, none⟩) 1 1 ∧ Box w h 27 J.cells.toArray
  | 201 => p = 2 → CV w v (D ++ [J])
  | 202 => 2 ≤ p ∧ ∃ u, v = .tuple #[u, .int .i64 0] ∧ PV w u P
  | 191 => 2 ≤ p ∧ ∃ u, v = .tuple #[u, .int .i64 0] ∧ PV w u P
  | 203 => 2 ≤ p ∧ PV w v P
  | 204 => v = .int .i64 0
  | 24 => 2 ≤ p ∧ PV w v P
  | 25 => v = .int .i64 0
  | _ => True
theorem NtsE.on {A : Option Addr} {nl c : Nat} {ad : Addr} {n8 c8 i1 bs : Nat} {sj : Int} {kj : ByteArray} {mj : Bool} {bj : ByteArray} {nj : Bool} {aj : ByteArray} {D : List Ch} {J : Ch} {P : List Pr} {p t : Nat} {v : Value} {w w' : World} (h : NtsE A nl c ad n8 c8 i1 bs sj kj mj bj nj aj D J P p t v w) (hb : Below w.heap.size w w') : NtsE A nl c ad n8 c8 i1 bs sj kj mj bj nj aj D J P p t v w' := by
  unfold NtsE at *
  split at h <;> first | exact h | exact fun hp => (let ⟨g, e, h1⟩ := h hp; ⟨g, e, own_on h1 hb⟩) | exact fun hp => own_on (h hp) hb | exact fun hp => (let ⟨g, e, h1⟩ := h hp; ⟨g, e, h1.on hb⟩) | exact fun hp => (h hp).on hb | exact (let ⟨h0, u, e, h1⟩ := h; ⟨h0, u, e, h1.on hb⟩) | exact ⟨h.1, h.2.on hb⟩

set_option maxRecDepth 100000 in
set_option maxHeartbeats 8000000 in
theorem notes_walk (v u : Value) (l : List Pr) (N : List Nt) (w : World) (hv : PV w v l) (hu : NV w u N) (hn : l.length ≤ maxLen) (hm : N.length ≤ maxLen) :
    Calls Try.prog 6 #[v, u] w fun e w' => e = .returned (.bool true) ∧ Below w.heap.size w w' := by
  obtain ⟨A, nl, c, rfl, hnl⟩ : ∃ A n c, v = .slice A n c ∧ l.length = n := by obtain ⟨A, c, e, _⟩ := hv; exact ⟨A, _, c, e, rfl⟩
  obtain ⟨B, m, d, rfl, hnm⟩ : ∃ A n c, u = .slice A n c ∧ N.length = n := by obtain ⟨A, c, e, _⟩ := hu; exact ⟨A, _, c, e, rfl⟩
  have HLN := Lib.hid hnl
  have HMN := Lib.hid hnm
  have HV0 := Lib.hid hv
  have HU0 := Lib.hid hu
  have VP := Lib.hid hv
  have HB := Lib.hid (Below.refl w.heap.size w)
  clear hv hu hn hm hnl hnm
  go_enter Try.func6, Try.ntmps6
  go_wp2_with fail
  refine (small_v VP.out).mono ?_
  rintro e w1 ⟨R1, rfl, h1, hb⟩
  have HB1 := Lib.hid (HB.out.trans (hb.mono HB.out.size))
  have VP1 := Lib.hid (VP.out.on hb)
  clear hb HB VP 
  have H1 := Lib.hid h1
  clear h1
  cases R1 with
  | false =>
    go_wp2_with fail
    refine (awake_true _).mono ?_
    rintro e w2 ⟨rfl, hb⟩
    have HB2 := Lib.hid (HB1.out.trans (hb.mono HB1.out.size))
    clear hb HB1 
    go_wp2
    go_ret
    exact ⟨rfl, HB2.out⟩
  | true =>
    have HL := Lib.hid (H1.out (by simp))
    clear H1
    by_cases h30 : m ≤ 30
    case neg =>
      have hd : decide (30 < (m : Int)) = true := by simp; omega
      have hd' : decide (30 < m) = true := by simp; omega
      clear h30
      go_wp2_with fail
      refine (awake_true _).mono ?_
      rintro e w3 ⟨rfl, hb⟩
      have HB3 := Lib.hid (HB1.out.trans (hb.mono HB1.out.size))
      clear hb HB1 
      go_wp2
      go_ret
      exact ⟨rfl, HB3.out⟩
    have hd : decide (30 < (m : Int)) = false := by simp; omega
    have hd' : decide (30 < m) = false := by simp; omega
    obtain ⟨R2, hR2⟩ : ∃ R, wellL l = R := ⟨_, rfl⟩
    have hrw := right_v VP1.out (by have := HL.out; unfold maxLen; omega)
    rw [hR2] at hrw
    have HRW := Lib.hid hrw
    have HR2 := Lib.hid hR2
    clear hrw hR2
    go_wp2_with fail
    refine (HRW.out).mono ?_
    rintro e w4 ⟨rfl, hb⟩
    have HB4 := Lib.hid (HB1.out.trans (hb.mono HB1.out.size))
    have VP4 := Lib.hid (VP1.out.on hb)
    clear hb HB1 VP1 HRW
    cases R2 with
    | false =>
      go_wp2_with fail
      refine (awake_true _).mono ?_
      rintro e w5 ⟨rfl, hb⟩
      have HB5 := Lib.hid (HB4.out.trans (hb.mono HB4.out.size))
      clear hb HB4 
      go_wp2
      go_ret
      exact ⟨rfl, HB5.out⟩
    | true =>
      clear hd hd'
      clear VP4
      go_wp2
      go_loopw [42] (fun i wr => ∃ (k : Nat), i = .int .i64 k ∧ k ≤ m ∧ Below w.heap.size w wr) (fun i _ => (m - intOf i).toNat)
      case atStart => exact ⟨0, rfl, by omega, HB4.out⟩
      case round =>
        obtain ⟨k, rfl, hk, hbr⟩ := hrel
        by_cases hlt : k < m
        · skip
          obtain ⟨ad, rfl, hab, hca⟩ : ∃ ad, B = some ad ∧ ad.block < wr.heap.size ∧ ∀ (i : Nat) (h : i < N.length), _ := by
            obtain ⟨A0, c0, e0, hp0, _⟩ := HU0.out.on hbr
            injection e0 with e1 e2 e3
            subst e1
            exact hp0.seeN (by rw [HMN.out]; omega)
          obtain ⟨c0, c1, c2, c3⟩ := hca k (by rw [HMN.out]; omega)
          obtain ⟨x, hx⟩ : ∃ x, x = N[k]'(by rw [HMN.out]; omega) := ⟨_, rfl⟩
          rw [← hx] at c0 c1 c2 c3
          clear hx hca
          obtain ⟨nk, nkey, nval, nn⟩ := x
          obtain ⟨xn, hxn⟩ : ∃ xn : Int, ((nn.toNat : Nat) : Int) = xn := ⟨_, rfl⟩
          simp only [hxn] at c0 c1 c2 c3
          have hbrs := hbr.size
          by_cases h1 : nkey.size ≤ 300
          case neg =>
            have hd_nkey : decide (300 < (nkey.size : Int)) = true := by simp; omega
            have HBr := Lib.hid (hbr.alloc hbrs (.cells #[.int .i64 nk, .string nkey, .string nval, .int .u64 xn] 25))
            clear hbr
            go_wp2_with fail
            refine (awake_true _).mono ?_
            rintro e w9 ⟨rfl, hb⟩
            have HB9 := Lib.hid (HBr.out.trans (hb.mono HBr.out.size))
            clear hb HBr
            go_wp2
            go_ret
            exact ⟨rfl, HB9.out⟩
          have hd_nkey : decide (300 < (nkey.size : Int)) = false := by simp; omega
          by_cases h2 : nval.size ≤ 300
          case neg =>
            have hd_nval : decide (300 < (nval.size : Int)) = true := by simp; omega
            have HBr := Lib.hid (hbr.alloc hbrs (.cells #[.int .i64 nk, .string nkey, .string nval, .int .u64 xn] 25))
            clear hbr
            go_wp2_with fail
            refine (awake_true _).mono ?_
            rintro e w9 ⟨rfl, hb⟩
            have HB9 := Lib.hid (HBr.out.trans (hb.mono HBr.out.size))
            clear hb HBr
            go_wp2
            go_ret
            exact ⟨rfl, HB9.out⟩
          have hd_nval : decide (300 < (nval.size : Int)) = false := by simp; omega
          go_wp2
          go_roundw
          case rel => exact ⟨k + 1, by go_num, by omega, hbr.alloc hbrs _⟩
          case measure => simp [intOf]; omega
        · obtain rfl : k = m := by omega
          go_wp2
          go_loopw [7, 8, 61] (fun v7 v8 vi wr => ∃ (j : Nat) (P : List Pr) (C : List Ch), vi = .int .i64 j ∧ j ≤ k ∧ Hid (PX w.heap.size wr v7 P) ∧ Hid (RowC w.heap.size wr v8 C) ∧ Hid (doL l C = some P) ∧ Hid (SeqUp j C) ∧ Hid (C.length ≤ j) ∧ Below w.heap.size w wr) (fun _ _ i _ => (k - intOf i).toNat)
          case atStart => exact ⟨0, l, [], rfl, by omega, (PX.of HV0.out).on hbr, ⟨World.ownsRow_nil _ _ _ _⟩, rfl, SeqUp.nil _, Nat.le_refl _, hbr⟩
          case round =>
            obtain ⟨j, P, C, rfl, hj, HP, HO, HD, HS, HCL, hbs⟩ := hrel
            by_cases hjt : j < k
            · skip
              obtain ⟨ad, rfl, hab, hca⟩ : ∃ ad, B = some ad ∧ ad.block < wr.heap.size ∧ ∀ (i : Nat) (h : i < N.length), _ := by
                obtain ⟨A0, c0, e0, hp0, _⟩ := HU0.out.on hbs
                injection e0 with e1 e2 e3
                subst e1
                exact hp0.seeN (by rw [HMN.out]; omega)
              obtain ⟨c0, c1, c2, c3⟩ := hca j (by rw [HMN.out]; omega)
              obtain ⟨x, hx⟩ : ∃ x, x = N[j]'(by rw [HMN.out]; omega) := ⟨_, rfl⟩
              rw [← hx] at c0 c1 c2 c3
              clear hx hca
              obtain ⟨nk, nkey, nval, nn⟩ := x
              obtain ⟨xn, hxn⟩ : ∃ xn : Int, ((nn.toNat : Nat) : Int) = xn := ⟨_, rfl⟩
              simp only [hxn] at c0 c1 c2 c3
              have HXN := Lib.hid hxn
              have HBr := Lib.hid hbs
              have VQr := Lib.hid HP.out
              have ROr := Lib.hid HO.out
              have HPW := Lib.hid (doL_well HR2.out HD.out)
              have HPN := Lib.hid (show P.length ≤ 90 from by have := doL_len HD.out; have := HCL.out; have := HL.out; omega)
              obtain ⟨vp, hvp⟩ : ∃ q, q = u7 := ⟨_, rfl⟩
              rw [← hvp] at VQr ⊢
              obtain ⟨vo, hvo⟩ : ∃ q, q = u8 := ⟨_, rfl⟩
              rw [← hvo] at ROr ⊢
              clear hvp hvo hbs HP HO hxn
              have hof := fun w h => of_v (v := vp) (l := P) ((j : Int) + 1) ⟨nk, nkey, nval, nn⟩ w h (by have := HPN.out; omega)
              have hap := fun w' u' (h1 : PV w' vp P) (h2 : NV w' u' [⟨nk, nkey, nval, nn⟩]) => apply_o h1 h2 (by have := HPN.out; simp; omega)
              obtain ⟨F, hF⟩ : ∃ E, ofE P ((j : Int) + 1) ⟨nk, nkey, nval, nn⟩ = E := ⟨_, rfl⟩
              obtain ⟨Y, hY⟩ : ∃ X, ofA P ((j : Int) + 1) ⟨nk, nkey, nval, nn⟩ = X := ⟨_, rfl⟩
              obtain ⟨E2, hE2⟩ : ∃ E, applyE P [⟨nk, nkey, nval, nn⟩] = E := ⟨_, rfl⟩
              obtain ⟨Q, hQ⟩ : ∃ E, applyL P [⟨nk, nkey, nval, nn⟩] = E := ⟨_, rfl⟩
              have HF0 := Lib.hid (show F = 0 ∨ F = 1 ∨ F = 3 from by rw [← hF]; exact of_three _ _ _)
              have HF1 := Lib.hid (show F = 1 → E2 = 1 from fun h => by rw [← hE2]; exact of_arg (s := (j : Int) + 1) HPW.out (by omega) (by omega) (by rw [hF]; exact h))
              have HF3 := Lib.hid (show F = 3 → E2 = 0 ∧ Q = P from fun h => by rw [← hE2, ← hQ]; exact of_none (s := (j : Int) + 1) (by rw [hF]; exact h))
              have HFC := Lib.hid (show F = 0 → E2 = 0 ∧ walkE P [Y] = 0 ∧ walkA P [Y] = Q ∧ doL l (C ++ [Y]) = some Q ∧ SeqUp (j + 1) (C ++ [Y]) ∧ Y.key.size ≤ maxLen from fun h => by
                have h0 : ofE P ((j : Int) + 1) ⟨nk, nkey, nval, nn⟩ = 0 := by rw [hF]; exact h
                obtain ⟨f1, f2⟩ := of_do HPW.out h0
                obtain ⟨g1, _, _, g4, g5⟩ := of_change h0
                have f3 := of_snoc HD.out h0
                rw [hY] at f1 f2 f3 g4 g5
                rw [hQ] at f2 f3
                exact ⟨by rw [← hE2]; exact g1, f1, f2, f3, HS.out.push g4 g5, g5⟩)
              rw [hF, hY] at hof
              rw [hE2, hQ] at hap
              clear hF hY hE2 hQ
              simp only [Nt.cells, HXN.out] at hof
              obtain ⟨sv, kv, mv, bv, nv, av⟩ := Y
              unfold Ch.v chV at hof
              have HOF := Lib.hid hof
              have HAP := Lib.hid hap
              clear hof hap hab
              go_upto_region 14 with fail
              obtain ⟨gn, hgn⟩ : ∃ gn, gn = wr.heap.size := ⟨_, rfl⟩
              obtain ⟨w6, hz0⟩ : ∃ wz, wz = wr.alloc (.cells #[.int .i64 nk, .string nkey, .string nval, .int .u64 xn] 25) := ⟨_, rfl⟩
              rw [← hgn, ← hz0]
              have hb : Below wr.heap.size wr w6 := by rw [hz0]; exact ((Below.refl _ _).alloc (Nat.le_refl _) _)
              have BN6 := Lib.hid (show Box w6 gn 25 #[.int .i64 nk, .string nkey, .string nval, .int .u64 xn] from (by rw [hz0]; exact Box.at_ wr _ _ hgn))
              have HGgn := Lib.hid (show w.heap.size ≤ gn from by rw [hgn]; exact HBr.out.size)
              clear c0 c1 c2 c3
              have HB6 := Lib.hid (HBr.out.trans (hb.mono HBr.out.size))
              have VQ6 := Lib.hid (VQr.out.on hb)
              have RO6 := Lib.hid (ROr.out.on hb)
              clear hb HBr VQr ROr hgn  hz0
              have kBN0 := Box.cell BN6.out 0 rfl
              have kBN1 := Box.cell BN6.out 1 rfl
              have kBN2 := Box.cell BN6.out 2 rfl
              have kBN3 := Box.cell BN6.out 3 rfl
              go_wp2_with fail
              refine (HOF.out _ VQ6.out.pv).mono ?_
              rintro e w7 ⟨rfl, hb⟩
              have HB7 := Lib.hid (HB6.out.trans (hb.mono HB6.out.size))
              have VQ7 := Lib.hid (VQ6.out.on hb)
              have RO7 := Lib.hid (RO6.out.on hb)
              have BN7 := Lib.hid (BN6.out.on hb)
              clear hb HB6 VQ6 RO6 BN6 kBN0 kBN1 kBN2 kBN3 HOF
              go_upto_region 15 with fail
              obtain ⟨gx, hgx⟩ : ∃ gx, gx = w7.heap.size := ⟨_, rfl⟩
              obtain ⟨w8, hz0⟩ : ∃ wz, wz = w7.alloc (.cells #[.int .i64 sv, .string kv, .bool mv, .string bv, .bool nv, .string av] 27) := ⟨_, rfl⟩
              rw [← hgx, ← hz0]
              have hb : Below w7.heap.size w7 w8 := by rw [hz0]; exact ((Below.refl _ _).alloc (Nat.le_refl _) _)
              have BX8 := Lib.hid (show Box w8 gx 27 #[.int .i64 sv, .string kv, .bool mv, .string bv, .bool nv, .string av] from (by rw [hz0]; exact Box.at_ w7 _ _ hgx))
              have HGgx := Lib.hid (show w.heap.size ≤ gx from by rw [hgx]; exact HB7.out.size)
              have HN_gx_gn := Lib.hid (show gx ≠ gn from by have := BN7.out.lt; omega)
              have HB8 := Lib.hid (HB7.out.trans (hb.mono HB7.out.size))
              have VQ8 := Lib.hid (VQ7.out.on hb)
              have RO8 := Lib.hid (RO7.out.on hb)
              have BN8 := Lib.hid (BN7.out.on hb)
              clear hb HB7 VQ7 RO7 BN7 hgx  hz0
              have kBN0 := Box.cell BN8.out 0 rfl
              have kBN1 := Box.cell BN8.out 1 rfl
              have kBN2 := Box.cell BN8.out 2 rfl
              have kBN3 := Box.cell BN8.out 3 rfl
              go_wp2_with fail
              refine (HAP.out _ _ (VQ8.out.pv.push _) (NV.lit rfl (by simp [Nt.cells, HXN.out]) rfl)).mono ?_
              rintro e w9 ⟨vq, rfl, hp, hb⟩
              have hpx : PX w.heap.size w9 vq Q := PX.row (by have h1 := hb.size; have h2 := HB8.out.size; simp at h1; omega) hp
              replace hb := ((Below.refl _ w8).alloc (Nat.le_refl _) _).trans (hb.mono (by simp))
              have VR9 := Lib.hid hpx
              clear hp hpx
              have HB9 := Lib.hid (HB8.out.trans (hb.mono HB8.out.size))
              have VQ9 := Lib.hid (VQ8.out.on hb)
              have RO9 := Lib.hid (RO8.out.on hb)
              have BN9 := Lib.hid (BN8.out.on hb)
              have BX9 := Lib.hid (BX8.out.on hb)
              clear hb HB8 VQ8 RO8 BN8 BX8 kBN0 kBN1 kBN2 kBN3 HAP
              rcases HF0.out with rfl | rfl | rfl
              · skip
                obtain ⟨rfl, f1, f2, f3, f4, f5⟩ := HFC.out rfl
                have hdo := fun w' u' (h1 : PV w' vp P) (h2 : CV w' u' [⟨sv, kv, mv, bv, nv, av⟩]) => do_v h1 h2 (by have := HPN.out; omega) (by simp) (by intro c hc; rw [List.mem_singleton.1 hc]; exact f5)
                rw [f1, f2] at hdo
                have HDO := Lib.hid hdo
                have HD2 := Lib.hid f3
                have HS2 := Lib.hid f4
                clear hdo f1 f2 f3 f4 f5 HF0 HF1 HF3 HFC HD HS
                have kBX0 := Box.cell BX9.out 0 rfl
                have kBX1 := Box.cell BX9.out 1 rfl
                have kBX2 := Box.cell BX9.out 2 rfl
                have kBX3 := Box.cell BX9.out 3 rfl
                have kBX4 := Box.cell BX9.out 4 rfl
                have kBX5 := Box.cell BX9.out 5 rfl
                go_wp2_with fail
                refine (HDO.out _ _ (VQ9.out.pv.push _) (CV.lit rfl (by simp [Ch.cells]) rfl)).mono ?_
                rintro e w10 ⟨vd, rfl, hp, hb⟩
                replace hb := ((Below.refl _ w9).alloc (Nat.le_refl _) _).trans (hb.mono (by simp))
                have VD10 := Lib.hid hp
                clear hp
                have HB10 := Lib.hid (HB9.out.trans (hb.mono HB9.out.size))
                have VQ10 := Lib.hid (VQ9.out.on hb)
                have RO10 := Lib.hid (RO9.out.on hb)
                have BN10 := Lib.hid (BN9.out.on hb)
                have BX10 := Lib.hid (BX9.out.on hb)
                have VR10 := Lib.hid (VR9.out.on hb)
                clear hb HB9 VQ9 RO9 BN9 BX9 VR9 HDO kBX0 kBX1 kBX2 kBX3 kBX4 kBX5
                have hsm := same_v VD10.out VR10.out.pv (by have := doL_len HD2.out; have := HCL.out; have := HL.out; simp at *; unfold maxLen; omega)
                rw [decide_eq_true rfl] at hsm
                go_wp2_with fail
                refine (hsm).mono ?_
                rintro e w11 ⟨rfl, hb⟩
                have HB11 := Lib.hid (HB10.out.trans (hb.mono HB10.out.size))
                have VQ11 := Lib.hid (VQ10.out.on hb)
                have RO11 := Lib.hid (RO10.out.on hb)
                have BN11 := Lib.hid (BN10.out.on hb)
                have BX11 := Lib.hid (BX10.out.on hb)
                have VR11 := Lib.hid (VR10.out.on hb)
                have VD11 := Lib.hid (VD10.out.on hb)
                clear hb HB10 VQ10 RO10 BN10 BX10 VR10 VD10 hsm
                have kBX0 := Box.cell BX11.out 0 rfl
                have kBX1 := Box.cell BX11.out 1 rfl
                have kBX2 := Box.cell BX11.out 2 rfl
                have kBX3 := Box.cell BX11.out 3 rfl
                have kBX4 := Box.cell BX11.out 4 rfl
                have kBX5 := Box.cell BX11.out 5 rfl
                have own := RO11.out.own
                have hbz := HB11.out
                have hbz2 := hbz.size
                go_wp2_with (at_builtin; refine append_change _ rfl _ _ rfl w.heap.size _ C.length (C.flatMap Ch.cells) rfl (own_on own ((Below.refl _ _).alloc (Nat.le_refl _) _)) (w11.heap.size + 1) w11.heap.size ⟨sv, kv, mv, bv, nv, av⟩ rfl ?a1 ?a2 ?a3 ?_)
                case a1 => exact Lies.lit Ch.cells6 rfl
                case a2 => have := HCL.out; omega
                case a3 => simp; omega
                intro v' w5 hown5 hg5 hat
                have hk5 : ∀ k, Value.ownBlock _ = some k → w.heap.size ≤ k := fun k hk => (own_lt own hk).1
                have hb5 : Below w.heap.size w w5 := (hbz.alloc hbz2 _).grown hg5 (by simp; omega) hk5
                have VR5 := Lib.hid ((VR11.out.on ((Below.refl _ _).alloc (Nat.le_refl _) (.cells #[.int .i64 sv, .string kv, .bool mv, .string bv, .bool nv, .string av] 27))).grown (own_on own ((Below.refl _ _).alloc (Nat.le_refl _) _)) hg5)
                have RO5 := Lib.hid (show RowC w.heap.size w5 v' (C ++ [⟨sv, kv, mv, bv, nv, av⟩]) from ⟨by rw [List.flatMap_append, List.length_append]; simpa using hown5⟩)
                clear own hbz hbz2 hown5 hat hk5 hg5 kBX0 kBX1 kBX2 kBX3 kBX4 kBX5
                go_wp2
                go_roundw
                case rel => exact ⟨j + 1, Q, C ++ [(⟨sv, kv, mv, bv, nv, av⟩ : Ch)], by go_num, by omega, VR5.out, RO5.out, HD2.out, HS2.out, by show List.length _ ≤ _; rw [List.length_append]; have := HCL.out; simp; omega, hb5⟩
                case measure => simp [intOf]; omega
              · skip
                obtain rfl := HF1.out rfl
                go_wp2_with fail
                refine (awake_true _).mono ?_
                rintro e w12 ⟨rfl, hb⟩
                have HB12 := Lib.hid (HB9.out.trans (hb.mono HB9.out.size))
                clear hb HB9 
                go_wp2
                go_ret
                exact ⟨rfl, HB12.out⟩
              · skip
                obtain ⟨rfl, rfl⟩ := HF3.out rfl
                have HS2 := Lib.hid HS.out.up
                clear HF0 HF1 HF3 HFC HS
                have hsm := same_v VQ9.out.pv VR9.out.pv (by have := HPN.out; unfold maxLen; omega)
                rw [decide_eq_true rfl] at hsm
                go_wp2_with fail
                refine (hsm).mono ?_
                rintro e w13 ⟨rfl, hb⟩
                have HB13 := Lib.hid (HB9.out.trans (hb.mono HB9.out.size))
                have VQ13 := Lib.hid (VQ9.out.on hb)
                have RO13 := Lib.hid (RO9.out.on hb)
                have BN13 := Lib.hid (BN9.out.on hb)
                have BX13 := Lib.hid (BX9.out.on hb)
                have VR13 := Lib.hid (VR9.out.on hb)
                clear hb HB9 VQ9 RO9 BN9 BX9 VR9 hsm
                go_wp2
                go_roundw
                case rel => exact ⟨j + 1, _, C, by go_num, by omega, VQ13.out, RO13.out, HD.out, HS2.out, by show List.length _ ≤ _; have := HCL.out; omega, HB13.out⟩
                case measure => simp [intOf]; omega
            · obtain rfl : j = k := by omega
              have HBr := Lib.hid hbs
              have VPr := Lib.hid (HV0.out.on hbs)
              have VQr := Lib.hid HP.out.pv
              have VCr := Lib.hid HO.out.cv
              obtain ⟨vp, hvp⟩ : ∃ q, q = u7 := ⟨_, rfl⟩
              rw [← hvp] at VQr ⊢
              obtain ⟨vo, hvo⟩ : ∃ q, q = u8 := ⟨_, rfl⟩
              rw [← hvo] at VCr ⊢
              clear hvp hvo hbs HP HO
              obtain ⟨CA, n8, c8, rfl, hn8⟩ : ∃ A n c, vo = .slice A n c ∧ C.length = n := by obtain ⟨A, c, e, _⟩ := VCr.out; exact ⟨A, _, c, e, rfl⟩
              have hc8 : n8 ≤ c8 := by
                obtain ⟨A0, c0, e0, _, h0, _⟩ := VCr.out
                injection e0 with e1 e2 e3
                omega
              have HN8 := Lib.hid hn8
              have HC8 := Lib.hid hc8
              have hn30 : n8 ≤ 30 := by have := HCL.out; omega
              have HN30 := Lib.hid hn30
              have HPN := Lib.hid (show P.length ≤ 90 from by have := doL_len HD.out; have := HCL.out; have := HL.out; omega)
              obtain ⟨e1, e2⟩ := walk_yes HR2.out HD.out
              have hdo := do_v VPr.out VCr.out (by have := HL.out; omega) (by omega) (fun c hc => (HS.out.1 c hc).2)
              rw [e1, e2] at hdo
              have HDO := Lib.hid hdo
              clear hdo e1 e2 hn8 hc8
              go_wp2_with fail
              refine (HDO.out).mono ?_
              rintro e w14 ⟨vd, rfl, hp, hb⟩
              have VD14 := Lib.hid hp
              clear hp
              have HB14 := Lib.hid (HBr.out.trans (hb.mono HBr.out.size))
              have VP14 := Lib.hid (VPr.out.on hb)
              have VQ14 := Lib.hid (VQr.out.on hb)
              have VC14 := Lib.hid (VCr.out.on hb)
              clear hb HBr VPr VQr VCr HDO
              have hsm := same_v VD14.out VQ14.out (by have := HPN.out; unfold maxLen; omega)
              rw [decide_eq_true rfl] at hsm
              go_wp2_with fail
              refine (hsm).mono ?_
              rintro e w15 ⟨rfl, hb⟩
              have HB15 := Lib.hid (HB14.out.trans (hb.mono HB14.out.size))
              have VP15 := Lib.hid (VP14.out.on hb)
              have VQ15 := Lib.hid (VQ14.out.on hb)
              have VC15 := Lib.hid (VC14.out.on hb)
              have VD15 := Lib.hid (VD14.out.on hb)
              clear hb HB14 VP14 VQ14 VC14 VD14 hsm
              clear VD15
              by_cases h2 : 2 ≤ n8
              case neg =>
                have hd : decide (1 < (n8 : Int)) = false := by simp; omega
                have hd' : decide (1 < n8) = false := by simp; omega
                clear VP15 VQ15 VC15
                go_upto_region 30 with fail
                refine wp_region_phase 30 [143, 144, 145, 146, 147, 148, 149, 150, 151, 152, 153, 154, 155, 156, 157, 158, 159] (by kernel_rfl) [] [] (fun _ _ => True) 0 rfl (by kernel_rfl) ((fun _ wx => Below w15.heap.size w15 wx)) (fun wa wb => Below wa.heap.size wa wb) (NtsS n8) (by kernel_rfl) (fun _ => below_grow) (fun _ t v wa wb h1 h2 => h2.on h1) (fun _ _ _ _ _ _ _ => trivial) (Below.refl _ _).drew trivial (phase0 ?_) ?_
                · refine Steps1.cons (fun _ ax wx hS _ hG => ?_) (Steps1.cons (fun _ ax wx hS _ hG => ?_) (Steps1.cons (fun _ ax wx hS _ hG => ?_) (Steps1.cons (fun _ ax wx hS _ hG => ?_) (Steps1.cons (fun _ ax wx hS _ hG => ?_) (Steps1.cons (fun _ ax wx hS _ hG => ?_) (Steps1.cons (fun _ ax wx hS _ hG => ?_) (Steps1.cons (fun _ ax wx hS _ hG => ?_) (Steps1.cons (fun _ ax wx hS _ hG => ?_) (Steps1.cons (fun _ ax wx hS _ hG => ?_) (Steps1.cons (fun _ ax wx hS _ hG => ?_) (Steps1.cons (fun _ ax wx hS _ hG => ?_) (Steps1.cons (fun _ ax wx hS _ hG => ?_) (Steps1.cons (fun _ ax wx hS _ hG => ?_) (Steps1.cons (fun _ ax wx hS _ hG => ?_) (Steps1.cons (fun _ ax wx hS _ hG => ?_) (Steps1.cons (fun _ ax wx hS _ hG => ?_) Steps1.nil))))))))))))))))
                  · have q19 := hG.old 19 (by kernel_rfl) (by kernel_rfl)
                    refine step_slot rfl rfl rfl (step_value (v := .int .i64 n8) (w' := wx) rfl rfl ?_ (Below.refl _ _) (fun d hd => by cases hd; exact rfl))
                    go_simp
                  · obtain ⟨_, q143, rfl⟩ := hG.new 143 (by kernel_rfl) (by kernel_rfl)
                    refine step_slot rfl rfl rfl (step_value (v := .bool false) (w' := wx) rfl rfl ?_ (Below.refl _ _) (fun d hd => by cases hd; exact rfl))
                    go_simp
                  · obtain ⟨_, q144, rfl⟩ := hG.new 144 (by kernel_rfl) (by kernel_rfl)
                    refine step_slot rfl rfl rfl (step_value (v := .bool false) (w' := wx) rfl rfl ?_ (Below.refl _ _) (fun d hd => by cases hd; exact rfl))
                    go_simp
                  · obtain ⟨_, q145, rfl⟩ := hG.new 145 (by kernel_rfl) (by kernel_rfl)
                    refine step_slot rfl rfl rfl (step_past rfl (by simp [Region.wanted, yielded, q145, undef]) (Below.refl _ _) (fun d hd => by cases hd; exact rfl))
                  · obtain ⟨_, q145, rfl⟩ := hG.new 145 (by kernel_rfl) (by kernel_rfl)
                    refine step_slot rfl rfl rfl (step_past rfl (by simp [Region.wanted, yielded, q145, undef]) (Below.refl _ _) (fun d hd => by cases hd; exact rfl))
                  · obtain ⟨_, q145, rfl⟩ := hG.new 145 (by kernel_rfl) (by kernel_rfl)
                    refine step_slot rfl rfl rfl (step_past rfl (by simp [Region.wanted, yielded, q145, undef]) (Below.refl _ _) (fun d hd => by cases hd; exact rfl))
                  · obtain ⟨_, q145, rfl⟩ := hG.new 145 (by kernel_rfl) (by kernel_rfl)
                    refine step_slot rfl rfl rfl (step_past rfl (by simp [Region.wanted, yielded, q145, undef]) (Below.refl _ _) (fun d hd => by cases hd; exact rfl))
                  · obtain ⟨_, q145, rfl⟩ := hG.new 145 (by kernel_rfl) (by kernel_rfl)
                    refine step_slot rfl rfl rfl (step_past rfl (by simp [Region.wanted, yielded, q145, undef]) (Below.refl _ _) (fun d hd => by cases hd; exact rfl))
                  · obtain ⟨_, q145, rfl⟩ := hG.new 145 (by kernel_rfl) (by kernel_rfl)
                    refine step_slot rfl rfl rfl (step_past rfl (by simp [Region.wanted, yielded, q145, undef]) (Below.refl _ _) (fun d hd => by cases hd; exact rfl))
                  · obtain ⟨_, q145, rfl⟩ := hG.new 145 (by kernel_rfl) (by kernel_rfl)
                    refine step_slot rfl rfl rfl (step_past rfl (by simp [Region.wanted, yielded, q145, undef]) (Below.refl _ _) (fun d hd => by cases hd; exact rfl))
                  · obtain ⟨_, q145, rfl⟩ := hG.new 145 (by kernel_rfl) (by kernel_rfl)
                    refine step_slot rfl rfl rfl (step_past rfl (by simp [Region.wanted, yielded, q145, undef]) (Below.refl _ _) (fun d hd => by cases hd; exact rfl))
                  · obtain ⟨_, q145, rfl⟩ := hG.new 145 (by kernel_rfl) (by kernel_rfl)
                    refine step_slot rfl rfl rfl (step_past rfl (by simp [Region.wanted, yielded, q145, undef]) (Below.refl _ _) (fun d hd => by cases hd; exact rfl))
                  · obtain ⟨_, q145, rfl⟩ := hG.new 145 (by kernel_rfl) (by kernel_rfl)
                    refine step_slot rfl rfl rfl (step_past rfl (by simp [Region.wanted, yielded, q145, undef]) (Below.refl _ _) (fun d hd => by cases hd; exact rfl))
                  · obtain ⟨_, q145, rfl⟩ := hG.new 145 (by kernel_rfl) (by kernel_rfl)
                    refine step_slot rfl rfl rfl (step_past rfl (by simp [Region.wanted, yielded, q145, undef]) (Below.refl _ _) (fun d hd => by cases hd; exact rfl))
                  · obtain ⟨_, q145, rfl⟩ := hG.new 145 (by kernel_rfl) (by kernel_rfl)
                    refine step_slot rfl rfl rfl (step_past rfl (by simp [Region.wanted, yielded, q145, undef]) (Below.refl _ _) (fun d hd => by cases hd; exact rfl))
                  · obtain ⟨_, q145, rfl⟩ := hG.new 145 (by kernel_rfl) (by kernel_rfl)
                    refine step_slot rfl rfl rfl (step_past rfl (by simp [Region.wanted, yielded, q145, undef]) (Below.refl _ _) (fun d hd => by cases hd; exact rfl))
                  · obtain ⟨_, q145, rfl⟩ := hG.new 145 (by kernel_rfl) (by kernel_rfl)
                    obtain ⟨_, q158, rfl⟩ := hG.new 158 (by kernel_rfl) (by kernel_rfl)
                    refine step_slot rfl rfl rfl (step_value (v := .bool false) (w' := wx) rfl rfl ?_ (Below.refl _ _) (fun d hd => by cases hd; exact rfl))
                    go_simp
                intro fv w16 hb _ hV8
                have e159 : fv 159 = .bool false := hV8 159 (by decide)
                simp only [puts, Act.put, List.setIfInBounds_toArray, List.set_cons_succ, List.set_cons_zero]
                clear hV8
                rw [e159]
                replace hb : Below w15.heap.size w15 w16 := hb
                have HB16 := Lib.hid (HB15.out.trans (hb.mono HB15.out.size))
                clear hb HB15 
                go_wp2_with fail
                refine (awake_true _).mono ?_
                rintro e w17 ⟨rfl, hb⟩
                have HB17 := Lib.hid (HB16.out.trans (hb.mono HB16.out.size))
                clear hb HB16 
                go_wp2
                go_ret
                exact ⟨rfl, HB17.out⟩
              have hd : decide (1 < (n8 : Int)) = true := by simp; omega
              have hd' : decide (1 < n8) = true := by simp; omega
              obtain ⟨D, x, y, hC⟩ := two_last (C := C) (by rw [HN8.out]; exact h2)
              subst hC
              obtain ⟨i1, hi1⟩ : ∃ q, D.length = q := ⟨_, rfl⟩
              obtain ⟨i2, hi2⟩ : ∃ q, q = i1 + 1 := ⟨_, rfl⟩
              have hn2 : n8 = i1 + 2 := by rw [← HN8.out, List.length_append, hi1]; rfl
              have hw1 : IntKind.i64.wrap ((n8 : Int) - 2) = (i1 : Int) := by rw [IntKind.wrap_i64]; omega
              have hw2 : IntKind.i64.wrap ((n8 : Int) - 1) = (i2 : Int) := by rw [IntKind.wrap_i64]; omega
              have HW1 := Lib.hid hw1
              have HW2 := Lib.hid hw2
              have HIN := Lib.hid (show i1 < n8 ∧ i2 < n8 ∧ n8 ≤ 30 ∧ i1 ≤ c8 from ⟨by omega, by omega, HN30.out, by have := HC8.out; omega⟩)
              have HI1 := Lib.hid hi1
              obtain ⟨ad, rfl, hab, hca⟩ : ∃ ad, CA = some ad ∧ ad.block < w15.heap.size ∧ ∀ (i : Nat) (h : i < (D ++ [x, y]).length), _ := by
                obtain ⟨A0, c0, e0, hp0, _⟩ := VC15.out
                injection e0 with e1 e2 e3
                subst e1
                exact hp0.seeC (by rw [HN8.out]; omega)
              have hx := hca i1 (by rw [HN8.out]; omega)
              have hy := hca i2 (by rw [HN8.out]; omega)
              rw [show (D ++ [x, y])[i1]'(by rw [HN8.out]; omega) = x from by subst hi1; simp] at hx
              rw [show (D ++ [x, y])[i2]'(by rw [HN8.out]; omega) = y from by subst hi2 hi1; simp] at hy
              obtain ⟨c1, c2, c3, c4, c5, c6⟩ := hx
              obtain ⟨d1, d2, d3, d4, d5, d6⟩ := hy
              clear hca hab hn30 HC8
              have hlt := HS.out.last
              have hjn := fun w => join_any x y w
              obtain ⟨E3, hE3⟩ : ∃ E, joinE x y = E := ⟨_, rfl⟩
              obtain ⟨J, hJ⟩ : ∃ X, joinA x y = X := ⟨_, rfl⟩
              have HTWO := Lib.hid (fun (hk : x.key = y.key) => last_two HR2.out HD.out hk hlt)
              have hk3 : joinE x y = 0 → (joinA x y).key.size ≤ maxLen := fun h => by rw [(join_ok h).1]; exact (HS.out.1 x (by simp)).2
              rw [hE3, hJ] at HTWO hjn hk3
              have HK3 := Lib.hid hk3
              clear hE3 hJ hlt hk3
              obtain ⟨s1, k1, m1, b1, n1, a1⟩ := x
              obtain ⟨s2, k2, m2, b2, n2, a2⟩ := y
              obtain ⟨sj, kj, mj, bj, nj, aj⟩ := J
              simp only at c1 c2 c3 c4 c5 c6 d1 d2 d3 d4 d5 d6
              unfold Ch.v chV at hjn
              have HJN := Lib.hid hjn
              have HXC := Lib.hid (show ∀ wx, Below w15.heap.size w15 wx → _ ∧ _ ∧ _ ∧ _ ∧ _ ∧ _ from fun wx hb => ⟨(hb.cell (lt_of_cell c1)).trans c1, (hb.cell (lt_of_cell c2)).trans c2, (hb.cell (lt_of_cell c3)).trans c3, (hb.cell (lt_of_cell c4)).trans c4, (hb.cell (lt_of_cell c5)).trans c5, (hb.cell (lt_of_cell c6)).trans c6⟩)
              have HYC := Lib.hid (show ∀ wx, Below w15.heap.size w15 wx → _ ∧ _ ∧ _ ∧ _ ∧ _ ∧ _ from fun wx hb => ⟨(hb.cell (lt_of_cell d1)).trans d1, (hb.cell (lt_of_cell d2)).trans d2, (hb.cell (lt_of_cell d3)).trans d3, (hb.cell (lt_of_cell d4)).trans d4, (hb.cell (lt_of_cell d5)).trans d5, (hb.cell (lt_of_cell d6)).trans d6⟩)
              obtain ⟨KB, hKB⟩ : ∃ K, (k1.toList == k2.toList) = K := ⟨_, rfl⟩
              have HKB := Lib.hid hKB
              clear hjn c1 c2 c3 c4 c5 c6 d1 d2 d3 d4 d5 d6 hKB hi1 hi2 hn2 hw1 hw2 h2
              go_upto_region 30 with fail
              refine wp_region_phase 40 [143, 144, 145, 146, 147, 148, 149, 150, 151, 152, 153, 154, 155, 156, 157, 158, 159] (by kernel_rfl) [] [] (fun _ _ => True) 0 rfl (by kernel_rfl) ((fun _ wx => Below w15.heap.size w15 wx)) (fun wa wb => Below wa.heap.size wa wb) (NtsB ad n8 c8 i1 i2 k1 k2 KB) (by kernel_rfl) (fun _ => below_grow) (fun _ t v wa wb h1 h2 => h2.on h1) (fun _ _ _ _ _ _ _ => trivial) (Below.refl _ _).drew trivial (phase0 ?_) ?_
              · refine Steps1.cons (fun _ ax wx hS _ hG => ?_) (Steps1.cons (fun _ ax wx hS _ hG => ?_) (Steps1.cons (fun _ ax wx hS _ hG => ?_) (Steps1.cons (fun _ ax wx hS _ hG => ?_) (Steps1.cons (fun _ ax wx hS _ hG => ?_) (Steps1.cons (fun _ ax wx hS _ hG => ?_) (Steps1.cons (fun _ ax wx hS _ hG => ?_) (Steps1.cons (fun _ ax wx hS _ hG => ?_) (Steps1.cons (fun _ ax wx hS _ hG => ?_) (Steps1.cons (fun _ ax wx hS _ hG => ?_) (Steps1.cons (fun _ ax wx hS _ hG => ?_) (Steps1.cons (fun _ ax wx hS _ hG => ?_) (Steps1.cons (fun _ ax wx hS _ hG => ?_) (Steps1.cons (fun _ ax wx hS _ hG => ?_) (Steps1.cons (fun _ ax wx hS _ hG => ?_) (Steps1.cons (fun _ ax wx hS _ hG => ?_) (Steps1.cons (fun _ ax wx hS _ hG => ?_) Steps1.nil))))))))))))))))
                · have q19 := hG.old 19 (by kernel_rfl) (by kernel_rfl)
                  refine step_slot rfl rfl rfl (step_value (v := .int .i64 n8) (w' := wx) rfl rfl ?_ (Below.refl _ _) (fun d hd => by cases hd; exact rfl))
                  go_simp
                · obtain ⟨_, q143, rfl⟩ := hG.new 143 (by kernel_rfl) (by kernel_rfl)
                  refine step_slot rfl rfl rfl (step_value (v := .bool true) (w' := wx) rfl rfl ?_ (Below.refl _ _) (fun d hd => by cases hd; exact rfl))
                  go_simp
                · obtain ⟨_, q144, rfl⟩ := hG.new 144 (by kernel_rfl) (by kernel_rfl)
                  refine step_slot rfl rfl rfl (step_value (v := .bool true) (w' := wx) rfl rfl ?_ (Below.refl _ _) (fun d hd => by cases hd; exact rfl))
                  go_simp
                · obtain ⟨_, q145, rfl⟩ := hG.new 145 (by kernel_rfl) (by kernel_rfl)
                  have q8 := hG.old 8 (by kernel_rfl) (by kernel_rfl)
                  refine step_slot rfl rfl rfl (step_value (v := .slice (some ad) n8 c8) (w' := wx) rfl (by simp [Region.wanted, yielded, q145, undef]) ?_ (Below.refl _ _) (fun d hd => by cases hd; exact rfl))
                  go_simp
                · obtain ⟨_, q145, rfl⟩ := hG.new 145 (by kernel_rfl) (by kernel_rfl)
                  have q19 := hG.old 19 (by kernel_rfl) (by kernel_rfl)
                  refine step_slot rfl rfl rfl (step_value (v := .int .i64 n8) (w' := wx) rfl (by simp [Region.wanted, yielded, q145, undef]) ?_ (Below.refl _ _) (fun d hd => by cases hd; exact rfl))
                  go_simp
                · obtain ⟨_, q145, rfl⟩ := hG.new 145 (by kernel_rfl) (by kernel_rfl)
                  obtain ⟨_, q147, rfl⟩ := hG.new 147 (by kernel_rfl) (by kernel_rfl)
                  have hw := HW1.out
                  refine step_slot rfl rfl rfl (step_value (v := .int .i64 (i1 : Int)) (w' := wx) rfl (by simp [Region.wanted, yielded, q145, undef]) ?_ (Below.refl _ _) (fun d hd => by cases hd; exact rfl))
                  go_simp
                · obtain ⟨_, q145, rfl⟩ := hG.new 145 (by kernel_rfl) (by kernel_rfl)
                  obtain ⟨_, q146, rfl⟩ := hG.new 146 (by kernel_rfl) (by kernel_rfl)
                  obtain ⟨_, q148, rfl⟩ := hG.new 148 (by kernel_rfl) (by kernel_rfl)
                  have hin := HIN.out
                  obtain ⟨hin1, hin2, hin3, hin4⟩ := hin
                  refine step_slot rfl rfl rfl (step_value (v := .pointer (some (ad.add (i1 * 6)))) (w' := wx) rfl (by simp [Region.wanted, yielded, q145, undef]) ?_ (Below.refl _ _) (fun d hd => by cases hd; exact rfl))
                  go_simp
                · obtain ⟨_, q145, rfl⟩ := hG.new 145 (by kernel_rfl) (by kernel_rfl)
                  obtain ⟨_, q149, rfl⟩ := hG.new 149 (by kernel_rfl) (by kernel_rfl)
                  refine step_slot rfl rfl rfl (step_value (v := .pointer (some ⟨(ad.add (i1 * 6)).block, (ad.add (i1 * 6)).off + 1, none⟩)) (w' := wx) rfl (by simp [Region.wanted, yielded, q145, undef]) ?_ (Below.refl _ _) (fun d hd => by cases hd; exact rfl))
                  go_simp
                · obtain ⟨_, q145, rfl⟩ := hG.new 145 (by kernel_rfl) (by kernel_rfl)
                  obtain ⟨_, q150, rfl⟩ := hG.new 150 (by kernel_rfl) (by kernel_rfl)
                  obtain ⟨z0, z1, z2, z3, z4, z5⟩ := HXC.out wx hS
                  refine step_slot rfl rfl rfl (step_value (v := .string k1) (w' := wx) rfl (by simp [Region.wanted, yielded, q145, undef]) ?_ (Below.refl _ _) (fun d hd => by cases hd; exact rfl))
                  go_simp
                · obtain ⟨_, q145, rfl⟩ := hG.new 145 (by kernel_rfl) (by kernel_rfl)
                  have q8 := hG.old 8 (by kernel_rfl) (by kernel_rfl)
                  refine step_slot rfl rfl rfl (step_value (v := .slice (some ad) n8 c8) (w' := wx) rfl (by simp [Region.wanted, yielded, q145, undef]) ?_ (Below.refl _ _) (fun d hd => by cases hd; exact rfl))
                  go_simp
                · obtain ⟨_, q145, rfl⟩ := hG.new 145 (by kernel_rfl) (by kernel_rfl)
                  have q19 := hG.old 19 (by kernel_rfl) (by kernel_rfl)
                  refine step_slot rfl rfl rfl (step_value (v := .int .i64 n8) (w' := wx) rfl (by simp [Region.wanted, yielded, q145, undef]) ?_ (Below.refl _ _) (fun d hd => by cases hd; exact rfl))
                  go_simp
                · obtain ⟨_, q145, rfl⟩ := hG.new 145 (by kernel_rfl) (by kernel_rfl)
                  obtain ⟨_, q153, rfl⟩ := hG.new 153 (by kernel_rfl) (by kernel_rfl)
                  have hw := HW2.out
                  refine step_slot rfl rfl rfl (step_value (v := .int .i64 (i2 : Int)) (w' := wx) rfl (by simp [Region.wanted, yielded, q145, undef]) ?_ (Below.refl _ _) (fun d hd => by cases hd; exact rfl))
                  go_simp
                · obtain ⟨_, q145, rfl⟩ := hG.new 145 (by kernel_rfl) (by kernel_rfl)
                  obtain ⟨_, q152, rfl⟩ := hG.new 152 (by kernel_rfl) (by kernel_rfl)
                  obtain ⟨_, q154, rfl⟩ := hG.new 154 (by kernel_rfl) (by kernel_rfl)
                  have hin := HIN.out
                  obtain ⟨hin1, hin2, hin3, hin4⟩ := hin
                  refine step_slot rfl rfl rfl (step_value (v := .pointer (some (ad.add (i2 * 6)))) (w' := wx) rfl (by simp [Region.wanted, yielded, q145, undef]) ?_ (Below.refl _ _) (fun d hd => by cases hd; exact rfl))
                  go_simp
                · obtain ⟨_, q145, rfl⟩ := hG.new 145 (by kernel_rfl) (by kernel_rfl)
                  obtain ⟨_, q155, rfl⟩ := hG.new 155 (by kernel_rfl) (by kernel_rfl)
                  refine step_slot rfl rfl rfl (step_value (v := .pointer (some ⟨(ad.add (i2 * 6)).block, (ad.add (i2 * 6)).off + 1, none⟩)) (w' := wx) rfl (by simp [Region.wanted, yielded, q145, undef]) ?_ (Below.refl _ _) (fun d hd => by cases hd; exact rfl))
                  go_simp
                · obtain ⟨_, q145, rfl⟩ := hG.new 145 (by kernel_rfl) (by kernel_rfl)
                  obtain ⟨_, q156, rfl⟩ := hG.new 156 (by kernel_rfl) (by kernel_rfl)
                  obtain ⟨z0, z1, z2, z3, z4, z5⟩ := HYC.out wx hS
                  refine step_slot rfl rfl rfl (step_value (v := .string k2) (w' := wx) rfl (by simp [Region.wanted, yielded, q145, undef]) ?_ (Below.refl _ _) (fun d hd => by cases hd; exact rfl))
                  go_simp
                · obtain ⟨_, q145, rfl⟩ := hG.new 145 (by kernel_rfl) (by kernel_rfl)
                  obtain ⟨_, q151, rfl⟩ := hG.new 151 (by kernel_rfl) (by kernel_rfl)
                  obtain ⟨_, q157, rfl⟩ := hG.new 157 (by kernel_rfl) (by kernel_rfl)
                  have hkb := HKB.out
                  refine step_slot rfl rfl rfl (step_value (v := .bool KB) (w' := wx) rfl (by simp [Region.wanted, yielded, q145, undef]) ?_ (Below.refl _ _) (fun d hd => by cases hd; exact rfl))
                  (go_simp; first | done | exact hkb | simp [hkb])
                · obtain ⟨_, q145, rfl⟩ := hG.new 145 (by kernel_rfl) (by kernel_rfl)
                  obtain ⟨_, q158, rfl⟩ := hG.new 158 (by kernel_rfl) (by kernel_rfl)
                  refine step_slot rfl rfl rfl (step_value (v := .bool KB) (w' := wx) rfl rfl ?_ (Below.refl _ _) (fun d hd => by cases hd; exact rfl))
                  go_simp
              intro fv w18 hb _ hV8
              have e159 : fv 159 = .bool KB := hV8 159 (by decide)
              simp only [puts, Act.put, List.setIfInBounds_toArray, List.set_cons_succ, List.set_cons_zero]
              clear hV8
              rw [e159]
              have HXC2 := Lib.hid (fun wx (h : Below w18.heap.size w18 wx) => HXC.out wx ((show Below w15.heap.size w15 w18 from hb).trans (h.mono hb.size)))
              have HYC2 := Lib.hid (fun wx (h : Below w18.heap.size w18 wx) => HYC.out wx ((show Below w15.heap.size w15 w18 from hb).trans (h.mono hb.size)))
              clear HXC HYC hd hd'
              replace hb : Below w15.heap.size w15 w18 := hb
              have HB18 := Lib.hid (HB15.out.trans (hb.mono HB15.out.size))
              have VP18 := Lib.hid (VP15.out.on hb)
              have VQ18 := Lib.hid (VQ15.out.on hb)
              have VC18 := Lib.hid (VC15.out.on hb)
              clear hb HB15 VP15 VQ15 VC15 
              cases KB with
              | false =>
                clear VP18 VQ18 VC18
                go_wp2_with fail
                refine (awake_true _).mono ?_
                rintro e w19 ⟨rfl, hb⟩
                have HB19 := Lib.hid (HB18.out.trans (hb.mono HB18.out.size))
                clear hb HB18 
                go_wp2
                go_ret
                exact ⟨rfl, HB19.out⟩
              | true =>
                have hkk : k1 = k2 := tl_inj (beq_iff_eq.1 HKB.out)
                have HLT := Lib.hid (HTWO.out hkk)
                clear HKB HTWO hkk
                go_upto_region 31 with fail
                refine wp_region_phase 40 [161, 162, 163, 164, 165, 166, 167, 168, 169, 170, 171, 160, 172, 173, 20, 21] (by kernel_rfl) [15] [] (fun _ _ => True) 1 rfl (by kernel_rfl) (fun _ wx => Below w18.heap.size w18 wx) (fun wa wb => Below wa.heap.size wa wb) (NtsJ ad n8 c8 i1 i2 s1 k1 m1 b1 n1 a1 s2 k2 m2 b2 n2 a2 sj kj mj bj nj aj E3 w18.heap.size) (by kernel_rfl) (fun _ wa wb h1 h2 => h2.trans (h1.mono h2.size)) (fun _ t v wa wb h1 h2 => h2.on h1) (fun _ _ _ _ _ _ _ => trivial) (Below.refl _ _).drew trivial (phase1 ?_ ?_) ?_
                · refine Steps1.cons (fun _ ax wx hS _ hG => ?_) (Steps1.cons (fun _ ax wx hS _ hG => ?_) (Steps1.cons (fun _ ax wx hS _ hG => ?_) (Steps1.cons (fun _ ax wx hS _ hG => ?_) (Steps1.cons (fun _ ax wx hS _ hG => ?_) (Steps1.cons (fun _ ax wx hS _ hG => ?_) (Steps1.cons (fun _ ax wx hS _ hG => ?_) (Steps1.cons (fun _ ax wx hS _ hG => ?_) (Steps1.cons (fun _ ax wx hS _ hG => ?_) (Steps1.cons (fun _ ax wx hS _ hG => ?_) (Steps1.cons (fun _ ax wx hS _ hG => ?_) (Steps1.cons (fun _ ax wx hS _ hG => ?_) (Steps1.cons (fun _ ax wx hS _ hG => ?_) (Steps1.cons (fun _ ax wx hS _ hG => ?_) (Steps1.cons (fun _ ax wx hS _ hG => ?_) (Steps1.cons (fun _ ax wx hS _ hG => ?_) (Steps1.cons (fun _ ax wx hS _ hG => ?_) Steps1.nil))))))))))))))))
                  · have q8 := hG.old 8 (by kernel_rfl) (by kernel_rfl)
                    refine step_slot rfl rfl rfl (step_value (v := .slice (some ad) n8 c8) (w' := wx) rfl rfl ?_ (Below.refl _ _) (fun d hd => by cases hd; exact rfl))
                    go_simp
                  · have q19 := hG.old 19 (by kernel_rfl) (by kernel_rfl)
                    refine step_slot rfl rfl rfl (step_value (v := .int .i64 n8) (w' := wx) rfl rfl ?_ (Below.refl _ _) (fun d hd => by cases hd; exact rfl))
                    go_simp
                  · obtain ⟨_, q162, rfl⟩ := hG.new 162 (by kernel_rfl) (by kernel_rfl)
                    refine step_slot rfl rfl rfl (step_value (v := .int .i64 (i1 : Int)) (w' := wx) rfl rfl ?_ (Below.refl _ _) (fun d hd => by cases hd; exact rfl))
                    have hw := HW1.out
                    go_simp
                  · obtain ⟨_, q161, rfl⟩ := hG.new 161 (by kernel_rfl) (by kernel_rfl)
                    obtain ⟨_, q163, rfl⟩ := hG.new 163 (by kernel_rfl) (by kernel_rfl)
                    refine step_slot rfl rfl rfl (step_value (v := .pointer (some (ad.add (i1 * 6)))) (w' := wx) rfl rfl ?_ (Below.refl _ _) (fun d hd => by cases hd; exact rfl))
                    have hin := HIN.out
                    obtain ⟨hin1, hin2, hin3, hin4⟩ := hin
                    go_simp
                  · obtain ⟨_, q164, rfl⟩ := hG.new 164 (by kernel_rfl) (by kernel_rfl)
                    obtain ⟨z0, z1, z2, z3, z4, z5⟩ := HXC2.out wx hS
                    refine step_slot rfl rfl rfl (step_value (v := .agg #[.int .i64 s1, .string k1, .bool m1, .string b1, .bool n1, .string a1]) (w' := wx) rfl rfl ?_ (Below.refl _ _) (fun d hd => by cases hd; exact rfl))
                    go_simp
                  · have q8 := hG.old 8 (by kernel_rfl) (by kernel_rfl)
                    refine step_slot rfl rfl rfl (step_value (v := .slice (some ad) n8 c8) (w' := wx) rfl rfl ?_ (Below.refl _ _) (fun d hd => by cases hd; exact rfl))
                    go_simp
                  · have q19 := hG.old 19 (by kernel_rfl) (by kernel_rfl)
                    refine step_slot rfl rfl rfl (step_value (v := .int .i64 n8) (w' := wx) rfl rfl ?_ (Below.refl _ _) (fun d hd => by cases hd; exact rfl))
                    go_simp
                  · obtain ⟨_, q167, rfl⟩ := hG.new 167 (by kernel_rfl) (by kernel_rfl)
                    refine step_slot rfl rfl rfl (step_value (v := .int .i64 (i2 : Int)) (w' := wx) rfl rfl ?_ (Below.refl _ _) (fun d hd => by cases hd; exact rfl))
                    have hw := HW2.out
                    go_simp
                  · obtain ⟨_, q166, rfl⟩ := hG.new 166 (by kernel_rfl) (by kernel_rfl)
                    obtain ⟨_, q168, rfl⟩ := hG.new 168 (by kernel_rfl) (by kernel_rfl)
                    refine step_slot rfl rfl rfl (step_value (v := .pointer (some (ad.add (i2 * 6)))) (w' := wx) rfl rfl ?_ (Below.refl _ _) (fun d hd => by cases hd; exact rfl))
                    have hin := HIN.out
                    obtain ⟨hin1, hin2, hin3, hin4⟩ := hin
                    go_simp
                  · obtain ⟨_, q169, rfl⟩ := hG.new 169 (by kernel_rfl) (by kernel_rfl)
                    obtain ⟨z0, z1, z2, z3, z4, z5⟩ := HYC2.out wx hS
                    refine step_slot rfl rfl rfl (step_value (v := .agg #[.int .i64 s2, .string k2, .bool m2, .string b2, .bool n2, .string a2]) (w' := wx) rfl rfl ?_ (Below.refl _ _) (fun d hd => by cases hd; exact rfl))
                    go_simp
                  · obtain ⟨_, q165, rfl⟩ := hG.new 165 (by kernel_rfl) (by kernel_rfl)
                    obtain ⟨_, q170, rfl⟩ := hG.new 170 (by kernel_rfl) (by kernel_rfl)
                    refine step_slot rfl rfl rfl (step_call (w1 := wx) (f := 14) (args := #[.agg #[.int .i64 s1, .string k1, .bool m1, .string b1, .bool n1, .string a1], .agg #[.int .i64 s2, .string k2, .bool m2, .string b2, .bool n2, .string a2]]) rfl rfl ?_ ((HJN.out wx).mono ?_))
                    · skip
                      go_simp
                    · rintro e w' ⟨rfl, hq⟩
                      exact ⟨_, rfl, hq, fun d hd => by cases hd; exact rfl⟩
                  · obtain ⟨_, q171, rfl⟩ := hG.new 171 (by kernel_rfl) (by kernel_rfl)
                    refine step_slot rfl rfl rfl (step_value (v := .tuple #[.agg #[.int .i64 sj, .string kj, .bool mj, .string bj, .bool nj, .string aj], .int .i64 E3]) (w' := wx) rfl rfl ?_ (Below.refl _ _) (fun d hd => by cases hd; exact rfl))
                    go_simp
                  · obtain ⟨_, q160, rfl⟩ := hG.new 160 (by kernel_rfl) (by kernel_rfl)
                    refine step_slot rfl rfl rfl (step_value (v := .agg #[.int .i64 sj, .string kj, .bool mj, .string bj, .bool nj, .string aj]) (w' := wx) rfl rfl ?_ (Below.refl _ _) (fun d hd => by cases hd; exact rfl))
                    go_simp
                  · obtain ⟨_, q160, rfl⟩ := hG.new 160 (by kernel_rfl) (by kernel_rfl)
                    refine step_slot rfl rfl rfl (step_value (v := .int .i64 E3) (w' := wx) rfl rfl ?_ (Below.refl _ _) (fun d hd => by cases hd; exact rfl))
                    go_simp
                  · refine step_slot rfl rfl rfl (step_value (v := .pointer (some ⟨wx.heap.size, 0, none⟩)) (w' := wx.alloc (.cells #[.int .i64 0, .string ⟨#[]⟩, .bool false, .string ⟨#[]⟩, .bool false, .string ⟨#[]⟩] 27)) rfl rfl ?_ ((Below.refl _ _).alloc (Nat.le_refl _) _) (fun d hd => by cases hd; exact ⟨_, rfl, hS.size, fun _ => Box.fresh _ _ _, fun h => absurd h (by decide)⟩))
                    go_simp
                  · obtain ⟨v20, q20, h20⟩ := hG.new 20 (by kernel_rfl) (by kernel_rfl)
                    have p20 : NewB _ _ _ _ _ v20 wx := h20
                    obtain ⟨g20, rfl, b20, z20, y20⟩ := p20
                    obtain ⟨_, q172, rfl⟩ := hG.new 172 (by kernel_rfl) (by kernel_rfl)
                    have hbq := z20 rfl
                    have f0 := Box.free hbq 0
                    have m0 := Box.cell hbq 0 rfl
                    have f1 := Box.free hbq 1
                    have m1 := Box.cell hbq 1 rfl
                    have f2 := Box.free hbq 2
                    have m2 := Box.cell hbq 2 rfl
                    have f3 := Box.free hbq 3
                    have m3 := Box.cell hbq 3 rfl
                    have f4 := Box.free hbq 4
                    have m4 := Box.cell hbq 4 rfl
                    have f5 := Box.free hbq 5
                    have m5 := Box.cell hbq 5 rfl
                    have hbz := (Box.set (Box.set (Box.set (Box.set (Box.set (Box.set hbq 0 (.int .i64 sj)) 1 (.string kj)) 2 (.bool mj)) 3 (.string bj)) 4 (.bool nj)) 5 (.string aj))
                    refine step_store (w' := ((((((wx.setCell ⟨g20, 0, none⟩ (.int .i64 sj)).setCell ⟨g20, 1, none⟩ (.string kj)).setCell ⟨g20, 2, none⟩ (.bool mj)).setCell ⟨g20, 3, none⟩ (.string bj)).setCell ⟨g20, 4, none⟩ (.bool nj)).setCell ⟨g20, 5, none⟩ (.string aj))) rfl rfl rfl rfl ?_ ((Below.setCell (Below.setCell (Below.setCell (Below.setCell (Below.setCell (Below.setCell hS (p := ⟨g20, 0, none⟩) b20 (.int .i64 sj)) (p := ⟨g20, 1, none⟩) b20 (.string kj)) (p := ⟨g20, 2, none⟩) b20 (.bool mj)) (p := ⟨g20, 3, none⟩) b20 (.string bj)) (p := ⟨g20, 4, none⟩) b20 (.bool nj)) (p := ⟨g20, 5, none⟩) b20 (.string aj))) trivial ?_
                    · clear hbq hS hbz h20
                      go_simp
                    · intro t u _ hu hV
                      by_cases ht : t = 20
                      · subst ht
                        rw [q20] at hu
                        injection hu with hu
                        subst hu
                        exact ⟨g20, rfl, b20, fun h => absurd h (by decide), fun _ => hbz⟩
                      · unfold NtsJ at *
                        split at hV <;> first | exact hV | exact absurd rfl ht
                  · obtain ⟨_, q173, rfl⟩ := hG.new 173 (by kernel_rfl) (by kernel_rfl)
                    refine step_slot rfl rfl rfl (step_value (v := .int .i64 E3) (w' := wx) rfl rfl ?_ (Below.refl _ _) (fun d hd => by cases hd; exact rfl))
                    go_simp
                · refine Steps1.cons (fun hin _ _ _ _ _ => out (by kernel_rfl) hin) (Steps1.cons (fun hin _ _ _ _ _ => out (by kernel_rfl) hin) (Steps1.cons (fun hin _ _ _ _ _ => out (by kernel_rfl) hin) (Steps1.cons (fun hin _ _ _ _ _ => out (by kernel_rfl) hin) (Steps1.cons (fun hin _ _ _ _ _ => out (by kernel_rfl) hin) (Steps1.cons (fun hin _ _ _ _ _ => out (by kernel_rfl) hin) (Steps1.cons (fun hin _ _ _ _ _ => out (by kernel_rfl) hin) (Steps1.cons (fun hin _ _ _ _ _ => out (by kernel_rfl) hin) (Steps1.cons (fun hin _ _ _ _ _ => out (by kernel_rfl) hin) (Steps1.cons (fun hin _ _ _ _ _ => out (by kernel_rfl) hin) (Steps1.cons (fun hin _ _ _ _ _ => out (by kernel_rfl) hin) (Steps1.cons (fun hin _ _ _ _ _ => out (by kernel_rfl) hin) (Steps1.cons (fun hin _ _ _ _ _ => out (by kernel_rfl) hin) (Steps1.cons (fun _ ax wx hS _ hG => ?_) (Steps1.cons (fun hin _ _ _ _ _ => out (by kernel_rfl) hin) (Steps1.cons (fun hin _ _ _ _ _ => out (by kernel_rfl) hin) (Steps1.cons (fun _ ax wx hS _ hG => ?_) Steps1.nil))))))))))))))))
                  · obtain ⟨_, q160, rfl⟩ := hG.new 160 (by kernel_rfl) (by kernel_rfl)
                    refine step_slot rfl rfl rfl (step_value (v := .int .i64 E3) (w' := wx) rfl rfl ?_ (Below.refl _ _) (fun d hd => by cases hd; exact rfl))
                    go_simp
                  · obtain ⟨_, q173, rfl⟩ := hG.new 173 (by kernel_rfl) (by kernel_rfl)
                    refine step_slot rfl rfl rfl (step_value (v := .int .i64 E3) (w' := wx) rfl rfl ?_ (Below.refl _ _) (fun d hd => by cases hd; exact rfl))
                    go_simp
                intro fv w20 hb _ hV8
                have e20 : NewB _ 27 #[.int .i64 0, .string ⟨#[]⟩, .bool false, .string ⟨#[]⟩, .bool false, .string ⟨#[]⟩] #[.int .i64 sj, .string kj, .bool mj, .string bj, .bool nj, .string aj] 1 (fv 20) w20 := hV8 20 (by decide)
                have e21 : fv 21 = .int .i64 E3 := hV8 21 (by decide)
                simp only [puts, Act.put, List.setIfInBounds_toArray, List.set_cons_succ, List.set_cons_zero]
                clear hV8
                rw [e21]
                obtain ⟨gj, e20, _, _, hbj⟩ := e20
                have BJ20 := Lib.hid (hbj rfl)
                rw [e20]
                clear e20 hbj HXC2 HYC2 HJN
                replace hb : Below w18.heap.size w18 w20 := hb
                have HB20 := Lib.hid (HB18.out.trans (hb.mono HB18.out.size))
                have VP20 := Lib.hid (VP18.out.on hb)
                have VQ20 := Lib.hid (VQ18.out.on hb)
                have VC20 := Lib.hid (VC18.out.on hb)
                clear hb HB18 VP18 VQ18 VC18 
                rcases HLT.out with ⟨rfl, hA⟩ | ⟨rfl, hE, hA⟩
                · skip
                  clear BJ20
                  have hdo := do_v VP20.out (VC20.out.take (i := i1) (by rw [HN8.out]; have := HIN.out; omega)) (by have := HL.out; omega) (by simp; have := HIN.out; omega) (fun c hc => (HS.out.1 c (List.mem_of_mem_take hc)).2)
                  rw [show (D ++ [(⟨s1, k1, m1, b1, n1, a1⟩ : Ch), ⟨s2, k2, m2, b2, n2, a2⟩]).take i1 = D from by rw [← HI1.out]; simp, hA] at hdo
                  have HDO := Lib.hid hdo
                  have hw1 := HW1.out
                  obtain ⟨hin1, hin2, hin3, hin4⟩ := HIN.out
                  clear hdo hA HLT
                  go_wp2_with fail
                  refine (HDO.out).mono ?_
                  rintro e w21 ⟨vx, rfl, hp, hb⟩
                  have VX21 := Lib.hid hp
                  clear hp
                  have HB21 := Lib.hid (HB20.out.trans (hb.mono HB20.out.size))
                  have VP21 := Lib.hid (VP20.out.on hb)
                  have VQ21 := Lib.hid (VQ20.out.on hb)
                  have VC21 := Lib.hid (VC20.out.on hb)
                  clear hb HB20 VP20 VQ20 VC20 HDO
                  have hsm := same_v VX21.out VQ21.out (by have := HPN.out; unfold maxLen; omega)
                  rw [decide_eq_true rfl] at hsm
                  go_wp2_with fail
                  refine (hsm).mono ?_
                  rintro e w22 ⟨rfl, hb⟩
                  have HB22 := Lib.hid (HB21.out.trans (hb.mono HB21.out.size))
                  have VP22 := Lib.hid (VP21.out.on hb)
                  have VQ22 := Lib.hid (VQ21.out.on hb)
                  have VC22 := Lib.hid (VC21.out.on hb)
                  have VX22 := Lib.hid (VX21.out.on hb)
                  clear hb HB21 VP21 VQ21 VC21 VX21 hsm
                  go_wp2_with fail
                  refine (awake_true _).mono ?_
                  rintro e w23 ⟨rfl, hb⟩
                  have HB23 := Lib.hid (HB22.out.trans (hb.mono HB22.out.size))
                  clear hb HB22 
                  go_wp2
                  go_ret
                  exact ⟨rfl, HB23.out⟩
                · skip
                  have HE := Lib.hid hE
                  have HA := Lib.hid hA
                  clear hE hA HLT
                  have VDv := VC20
                  go_upto_region 35 with fail
                  obtain ⟨bs, hbs⟩ : ∃ bs, bs = w20.heap.size := ⟨_, rfl⟩
                  have Hbs := Lib.hid hbs
                  clear hbs
                  have HCT := Lib.hid (fun wx (hS : Below w20.heap.size w20 wx) => show CV wx (.slice (some ad) i1 c8) D from by
                    have h := (VC20.out.on hS).take (i := i1) (by rw [HN8.out]; have := HIN.out; omega)
                    rwa [show (D ++ [(⟨s1, k1, m1, b1, n1, a1⟩ : Ch), ⟨s2, k2, m2, b2, n2, a2⟩]).take i1 = D from by rw [← HI1.out]; simp] at h)
                  have HKEY := Lib.hid (show ∀ c ∈ D ++ [(⟨sj, kj, mj, bj, nj, aj⟩ : Ch)], c.key.size ≤ maxLen from fun c hc => by
                    rcases List.mem_append.1 hc with hc | hc
                    · exact (HS.out.1 c (List.mem_append_left _ hc)).2
                    · rw [List.mem_singleton.1 hc]
                      exact HK3.out rfl)
                  have hdw := fun wx (hS : Below w20.heap.size w20 wx) u (hu : CV wx u (D ++ [(⟨sj, kj, mj, bj, nj, aj⟩ : Ch)])) => do_v (VP20.out.on hS) hu (by have := HL.out; omega) (by rw [List.length_append, HI1.out]; have := HIN.out; simp; omega) (fun c hc => HKEY.out c hc)
                  rw [HE.out, HA.out] at hdw
                  have HDW := Lib.hid hdw
                  clear hdw
                  refine wp_region_phase 40 [192, 193, 194, 195, 196, 197, 198, 199, 200, 201, 202, 191, 203, 204, 24, 25] (by kernel_rfl) [6, 9] [] (fun _ _ => True) 2 rfl (by kernel_rfl) ((fun _ wx => Below w20.heap.size w20 wx)) (fun wa wb => Below wa.heap.size wa wb) (NtsE A nl c ad n8 c8 i1 bs sj kj mj bj nj aj D ⟨sj, kj, mj, bj, nj, aj⟩ P) (by kernel_rfl) (fun _ => below_grow) (fun _ t v wa wb h1 h2 => h2.on h1) (fun _ _ _ _ _ _ _ => trivial) (Below.refl _ _).drew trivial (phase2 ?_ ?_ ?_) ?_
                  · refine Steps1.cons (fun _ ax wx hS _ hG => ?_) (Steps1.cons (fun _ ax wx hS _ hG => ?_) (Steps1.cons (fun _ ax wx hS _ hG => ?_) (Steps1.cons (fun _ ax wx hS _ hG => ?_) (Steps1.cons (fun _ ax wx hS _ hG => ?_) (Steps1.cons (fun _ ax wx hS _ hG => ?_) (Steps1.cons (fun _ ax wx hS _ hG => ?_) (Steps1.cons (fun _ ax wx hS _ hG => ?_) (Steps1.cons (fun _ ax wx hS _ hG => ?_) (Steps1.cons (fun hin _ _ _ _ _ => out (by kernel_rfl) hin) (Steps1.cons (fun hin _ _ _ _ _ => out (by kernel_rfl) hin) (Steps1.cons (fun hin _ _ _ _ _ => out (by kernel_rfl) hin) (Steps1.cons (fun hin _ _ _ _ _ => out (by kernel_rfl) hin) (Steps1.cons (fun hin _ _ _ _ _ => out (by kernel_rfl) hin) (Steps1.cons (fun hin _ _ _ _ _ => out (by kernel_rfl) hin) (Steps1.cons (fun hin _ _ _ _ _ => out (by kernel_rfl) hin) Steps1.nil)))))))))))))))
                    · have q0 := hG.old 0 (by kernel_rfl) (by kernel_rfl)
                      refine step_slot rfl rfl rfl (step_value (v := .slice A nl c) (w' := wx) rfl rfl ?_ (Below.refl _ _) (fun d hd => by cases hd; exact rfl))
                      go_simp
                    · refine step_slot rfl rfl rfl (step_value (v := .slice (some ⟨wx.heap.size, 0, none⟩) 0 0) (w' := wx.alloc (.cells #[] 27)) rfl rfl ?_ ((Below.refl _ _).alloc (Nat.le_refl _) _) (fun d hd => by cases hd; exact fun _ => ⟨_, rfl, World.ownsRow_made wx #[] 0 (by rw [Hbs.out]; exact hS.size) (Nat.zero_le _) rfl⟩))
                      go_simp
                    · have q8 := hG.old 8 (by kernel_rfl) (by kernel_rfl)
                      refine step_slot rfl rfl rfl (step_value (v := .slice (some ad) n8 c8) (w' := wx) rfl rfl ?_ (Below.refl _ _) (fun d hd => by cases hd; exact rfl))
                      go_simp
                    · have q19 := hG.old 19 (by kernel_rfl) (by kernel_rfl)
                      refine step_slot rfl rfl rfl (step_value (v := .int .i64 n8) (w' := wx) rfl rfl ?_ (Below.refl _ _) (fun d hd => by cases hd; exact rfl))
                      go_simp
                    · obtain ⟨_, q195, rfl⟩ := hG.new 195 (by kernel_rfl) (by kernel_rfl)
                      have hw := HW1.out
                      refine step_slot rfl rfl rfl (step_value (v := .int .i64 (i1 : Int)) (w' := wx) rfl rfl ?_ (Below.refl _ _) (fun d hd => by cases hd; exact rfl))
                      go_simp
                    · obtain ⟨_, q194, rfl⟩ := hG.new 194 (by kernel_rfl) (by kernel_rfl)
                      obtain ⟨_, q196, rfl⟩ := hG.new 196 (by kernel_rfl) (by kernel_rfl)
                      have hin := HIN.out
                      obtain ⟨hin1, hin2, hin3, hin4⟩ := hin
                      refine step_slot rfl rfl rfl (step_value (v := .slice (some ad) i1 c8) (w' := wx) rfl rfl ?_ (Below.refl _ _) (fun d hd => by cases hd; exact rfl))
                      go_simp
                    · obtain ⟨v193, q193, h193⟩ := hG.new 193 (by kernel_rfl) (by kernel_rfl)
                      have p193 : 0 = 0 → ∃ g, v193 = .slice (some ⟨g, 0, none⟩) 0 0 ∧ World.ownsRow wx bs 27 6 v193 0 [] := h193
                      obtain ⟨_, q197, rfl⟩ := hG.new 197 (by kernel_rfl) (by kernel_rfl)
                      obtain ⟨g9, rfl, hown⟩ := p193 rfl
                      have hcv := HCT.out wx hS
                      obtain ⟨v2, w2, hr, hown2, hg, _⟩ := run_app_cv wx bs _ 0 [] hown hcv (by rw [HI1.out]; have := HIN.out; omega) (by rw [Hbs.out]; exact hS.size)
                      have hS2 : Below _ _ w2 := hS.grown hg hS.size (fun k hk => by have h1 := (own_lt hown hk).1; rw [Hbs.out] at h1; exact h1)
                      refine step_marked (v := v2) (w' := w2) rfl rfl rfl rfl ?_ hS2 trivial ?_ ?_
                      · have e1 : ax.eval (.tmp 193) = .slice (some ⟨g9, 0, none⟩) 0 0 := by simp [Act.eval, q193]
                        have e2 : ax.eval (.tmp 197) = .slice (some ad) i1 c8 := by simp [Act.eval, q197]
                        unfold execOp
                        simp only [resolve, invoke, builtin, Sem.run_bind, Sem.run_pure, Result.andThen_ok, List.map_toArray, List.map_cons, List.map_nil, e1, e2, hr]
                      · exact fun _ => (by have h := hown2; rw [Nat.zero_add, List.nil_append, HI1.out] at h; exact h)
                      · intro t u _ ht hu hV
                        unfold NtsE at hV ⊢
                        split at hV <;> first | exact absurd rfl ht | trivial | exact fun h => absurd h (by decide) | exact hV | exact absurd hV.1 (by decide) | exact fun _ => (let ⟨h, e, hb⟩ := hV (by decide); ⟨h, e, hb.grown hg (own_zero hown hb (by simp [Ch.cells]))⟩)
                    · have q20 := hG.old 20 (by kernel_rfl) (by kernel_rfl)
                      obtain ⟨z0, z1, z2, z3, z4, z5⟩ := (⟨Box.cell (BJ20.out.on hS) 0 rfl, Box.cell (BJ20.out.on hS) 1 rfl, Box.cell (BJ20.out.on hS) 2 rfl, Box.cell (BJ20.out.on hS) 3 rfl, Box.cell (BJ20.out.on hS) 4 rfl, Box.cell (BJ20.out.on hS) 5 rfl⟩ : _ ∧ _ ∧ _ ∧ _ ∧ _ ∧ _)
                      refine step_slot rfl rfl rfl (step_value (v := .agg #[.int .i64 sj, .string kj, .bool mj, .string bj, .bool nj, .string aj]) (w' := wx) rfl rfl ?_ (Below.refl _ _) (fun d hd => by cases hd; exact rfl))
                      go_simp
                    · obtain ⟨_, q199, rfl⟩ := hG.new 199 (by kernel_rfl) (by kernel_rfl)
                      refine step_slot rfl rfl rfl (step_value (v := .slice (some ⟨wx.heap.size, 0, none⟩) 1 1) (w' := wx.alloc (.cells #[.int .i64 sj, .string kj, .bool mj, .string bj, .bool nj, .string aj] 27)) rfl rfl ?_ ((Below.refl _ _).alloc (Nat.le_refl _) _) (fun d hd => by cases hd; exact fun _ => ⟨_, rfl, Box.fresh _ _ _⟩))
                      go_simp
                  · refine Steps1.cons (fun _ ax wx hS _ hG => ?_) (Steps1.cons (fun hin _ _ _ _ _ => out (by kernel_rfl) hin) (Steps1.cons (fun hin _ _ _ _ _ => out (by kernel_rfl) hin) (Steps1.cons (fun hin _ _ _ _ _ => out (by kernel_rfl) hin) (Steps1.cons (fun hin _ _ _ _ _ => out (by kernel_rfl) hin) (Steps1.cons (fun hin _ _ _ _ _ => out (by kernel_rfl) hin) (Steps1.cons (fun hin _ _ _ _ _ => out (by kernel_rfl) hin) (Steps1.cons (fun _ ax wx hS _ hG => ?_) (Steps1.cons (fun _ ax wx hS _ hG => ?_) (Steps1.cons (fun _ ax wx hS _ hG => ?_) (Steps1.cons (fun hin _ _ _ _ _ => out (by kernel_rfl) hin) (Steps1.cons (fun hin _ _ _ _ _ => out (by kernel_rfl) hin) (Steps1.cons (fun hin _ _ _ _ _ => out (by kernel_rfl) hin) (Steps1.cons (fun hin _ _ _ _ _ => out (by kernel_rfl) hin) (Steps1.cons (fun hin _ _ _ _ _ => out (by kernel_rfl) hin) (Steps1.cons (fun hin _ _ _ _ _ => out (by kernel_rfl) hin) Steps1.nil)))))))))))))))
                    · have q0 := hG.old 0 (by kernel_rfl) (by kernel_rfl)
                      refine step_slot rfl rfl rfl (step_value (v := .slice A nl c) (w' := wx) rfl rfl ?_ (Below.refl _ _) (fun d hd => by cases hd; exact rfl))
                      go_simp
                    · have q20 := hG.old 20 (by kernel_rfl) (by kernel_rfl)
                      obtain ⟨z0, z1, z2, z3, z4, z5⟩ := (⟨Box.cell (BJ20.out.on hS) 0 rfl, Box.cell (BJ20.out.on hS) 1 rfl, Box.cell (BJ20.out.on hS) 2 rfl, Box.cell (BJ20.out.on hS) 3 rfl, Box.cell (BJ20.out.on hS) 4 rfl, Box.cell (BJ20.out.on hS) 5 rfl⟩ : _ ∧ _ ∧ _ ∧ _ ∧ _ ∧ _)
                      refine step_slot rfl rfl rfl (step_value (v := .agg #[.int .i64 sj, .string kj, .bool mj, .string bj, .bool nj, .string aj]) (w' := wx) rfl rfl ?_ (Below.refl _ _) (fun d hd => by cases hd; exact rfl))
                      go_simp
                    · obtain ⟨_, q199, rfl⟩ := hG.new 199 (by kernel_rfl) (by kernel_rfl)
                      refine step_slot rfl rfl rfl (step_value (v := .slice (some ⟨wx.heap.size, 0, none⟩) 1 1) (w' := wx.alloc (.cells #[.int .i64 sj, .string kj, .bool mj, .string bj, .bool nj, .string aj] 27)) rfl rfl ?_ ((Below.refl _ _).alloc (Nat.le_refl _) _) (fun d hd => by cases hd; exact fun _ => ⟨_, rfl, Box.fresh _ _ _⟩))
                      go_simp
                    · obtain ⟨v198, q198, h198⟩ := hG.new 198 (by kernel_rfl) (by kernel_rfl)
                      have p198 : 1 = 1 → World.ownsRow wx bs 27 6 v198 i1 (D.flatMap Ch.cells) := h198
                      obtain ⟨v200, q200, h200⟩ := hG.new 200 (by kernel_rfl) (by kernel_rfl)
                      have p200 : 1 ≤ 1 → ∃ h, v200 = .slice (some ⟨h, 0, none⟩) 1 1 ∧ Box wx h 27 (⟨sj, kj, mj, bj, nj, aj⟩ : Ch).cells.toArray := h200
                      obtain ⟨h9, rfl, hbx⟩ := p200 (Nat.le_refl _)
                      have hown := p198 rfl
                      have hcv : CV wx _ [(⟨sj, kj, mj, bj, nj, aj⟩ : Ch)] := cv_box hbx rfl
                      obtain ⟨v2, w2, hr, hown2, hg, _⟩ := run_app_cv wx bs _ i1 _ hown hcv (by have := HIN.out; simp; omega) (by rw [Hbs.out]; exact hS.size)
                      have hS2 : Below _ _ w2 := hS.grown hg hS.size (fun k hk => by have h1 := (own_lt hown hk).1; rw [Hbs.out] at h1; exact h1)
                      refine step_marked (v := v2) (w' := w2) rfl rfl rfl rfl ?_ hS2 trivial ?_ ?_
                      · have e1 : ax.eval (.tmp 198) = v198 := by simp [Act.eval, q198]
                        have e2 : ax.eval (.tmp 200) = .slice (some ⟨h9, 0, none⟩) 1 1 := by simp [Act.eval, q200]
                        unfold execOp
                        simp only [resolve, invoke, builtin, Sem.run_bind, Sem.run_pure, Result.andThen_ok, List.map_toArray, List.map_cons, List.map_nil, e1, e2, hr]
                      · exact fun _ => CV.own (n := i1 + 1) (by rw [List.flatMap_append]; exact hown2) (by rw [List.length_append, HI1.out]; rfl)
                      · intro t u _ ht hu hV
                        unfold NtsE at hV ⊢
                        split at hV <;> first | exact absurd rfl ht | trivial | exact fun h => absurd h (by decide) | exact hV | exact absurd hV.1 (by decide) | exact fun h => absurd h (by decide)
                  · refine Steps1.cons (fun _ ax wx hS _ hG => ?_) (Steps1.cons (fun hin _ _ _ _ _ => out (by kernel_rfl) hin) (Steps1.cons (fun hin _ _ _ _ _ => out (by kernel_rfl) hin) (Steps1.cons (fun hin _ _ _ _ _ => out (by kernel_rfl) hin) (Steps1.cons (fun hin _ _ _ _ _ => out (by kernel_rfl) hin) (Steps1.cons (fun hin _ _ _ _ _ => out (by kernel_rfl) hin) (Steps1.cons (fun hin _ _ _ _ _ => out (by kernel_rfl) hin) (Steps1.cons (fun hin _ _ _ _ _ => out (by kernel_rfl) hin) (Steps1.cons (fun hin _ _ _ _ _ => out (by kernel_rfl) hin) (Steps1.cons (fun hin _ _ _ _ _ => out (by kernel_rfl) hin) (Steps1.cons (fun _ ax wx hS _ hG => ?_) (Steps1.cons (fun _ ax wx hS _ hG => ?_) (Steps1.cons (fun _ ax wx hS _ hG => ?_) (Steps1.cons (fun _ ax wx hS _ hG => ?_) (Steps1.cons (fun _ ax wx hS _ hG => ?_) (Steps1.cons (fun _ ax wx hS _ hG => ?_) Steps1.nil)))))))))))))))
                    · have q0 := hG.old 0 (by kernel_rfl) (by kernel_rfl)
                      refine step_slot rfl rfl rfl (step_value (v := .slice A nl c) (w' := wx) rfl rfl ?_ (Below.refl _ _) (fun d hd => by cases hd; exact rfl))
                      go_simp
                    · obtain ⟨_, q192, rfl⟩ := hG.new 192 (by kernel_rfl) (by kernel_rfl)
                      obtain ⟨v201, q201, h201⟩ := hG.new 201 (by kernel_rfl) (by kernel_rfl)
                      have p201 : 2 = 2 → CV wx v201 (D ++ [(⟨sj, kj, mj, bj, nj, aj⟩ : Ch)]) := h201
                      refine step_slot rfl rfl rfl (step_call (w1 := wx) (f := 16) (args := #[.slice A nl c, v201]) rfl rfl ?_ ((HDW.out wx hS v201 (p201 rfl)).mono ?_))
                      · clear h201 p201
                        go_simp
                      · rintro e w' ⟨u7, rfl, h7, hq⟩
                        exact ⟨_, rfl, hq, fun d hd => by cases hd; exact ⟨by decide, u7, rfl, h7⟩⟩
                    · obtain ⟨v202, q202, h202⟩ := hG.new 202 (by kernel_rfl) (by kernel_rfl)
                      have p202 : 2 ≤ 2 ∧ ∃ u, v202 = .tuple #[u, .int .i64 0] ∧ PV wx u P := h202
                      obtain ⟨_, u7, rfl, p202⟩ := p202
                      refine step_slot rfl rfl rfl (step_value (v := .tuple #[u7, .int .i64 0]) (w' := wx) rfl rfl ?_ (Below.refl _ _) (fun d hd => by cases hd; exact ⟨by decide, _, rfl, p202⟩))
                      clear h202 p202
                      go_simp
                    · obtain ⟨v191, q191, h191⟩ := hG.new 191 (by kernel_rfl) (by kernel_rfl)
                      have p191 : 2 ≤ 2 ∧ ∃ u, v191 = .tuple #[u, .int .i64 0] ∧ PV wx u P := h191
                      obtain ⟨_, u7, rfl, p191⟩ := p191
                      refine step_slot rfl rfl rfl (step_value (v := u7) (w' := wx) rfl rfl ?_ (Below.refl _ _) (fun d hd => by cases hd; exact ⟨by decide, p191⟩))
                      clear h191 p191
                      go_simp
                    · obtain ⟨v191, q191, h191⟩ := hG.new 191 (by kernel_rfl) (by kernel_rfl)
                      have p191 : 2 ≤ 2 ∧ ∃ u, v191 = .tuple #[u, .int .i64 0] ∧ PV wx u P := h191
                      obtain ⟨_, u7, rfl, p191⟩ := p191
                      refine step_slot rfl rfl rfl (step_value (v := .int .i64 0) (w' := wx) rfl rfl ?_ (Below.refl _ _) (fun d hd => by cases hd; exact rfl))
                      clear h191 p191
                      go_simp
                    · obtain ⟨v203, q203, h203⟩ := hG.new 203 (by kernel_rfl) (by kernel_rfl)
                      have p203 : 2 ≤ 2 ∧ PV wx v203 P := h203
                      refine step_slot rfl rfl rfl (step_value (v := v203) (w' := wx) rfl rfl ?_ (Below.refl _ _) (fun d hd => by cases hd; exact p203))
                      clear h203 p203
                      go_simp
                    · obtain ⟨_, q204, rfl⟩ := hG.new 204 (by kernel_rfl) (by kernel_rfl)
                      refine step_slot rfl rfl rfl (step_value (v := .int .i64 0) (w' := wx) rfl rfl ?_ (Below.refl _ _) (fun d hd => by cases hd; exact rfl))
                      go_simp
                  intro fv w24 hb _ hV8
                  have e24 : 2 ≤ 2 ∧ PV w24 (fv 24) P := hV8 24 (by decide)
                  have e25 : fv 25 = .int .i64 0 := hV8 25 (by decide)
                  simp only [puts, Act.put, List.setIfInBounds_toArray, List.set_cons_succ, List.set_cons_zero]
                  clear hV8
                  rw [e25]
                  obtain ⟨_, h24⟩ := e24
                  have VX24 := Lib.hid h24
                  clear h24
                  replace hb : Below w20.heap.size w20 w24 := hb
                  clear BJ20 VP20 VC20
                  have HB24 := Lib.hid (HB20.out.trans (hb.mono HB20.out.size))
                  have VQ24 := Lib.hid (VQ20.out.on hb)
                  clear hb HB20 VQ20 
                  have hsm := same_v VX24.out VQ24.out (by have := HPN.out; unfold maxLen; omega)
                  rw [decide_eq_true rfl] at hsm
                  go_wp2_with fail
                  refine (hsm).mono ?_
                  rintro e w25 ⟨rfl, hb⟩
                  have HB25 := Lib.hid (HB24.out.trans (hb.mono HB24.out.size))
                  have VQ25 := Lib.hid (VQ24.out.on hb)
                  have VX25 := Lib.hid (VX24.out.on hb)
                  clear hb HB24 VQ24 VX24 hsm
                  go_wp2_with fail
                  refine (awake_true _).mono ?_
                  rintro e w26 ⟨rfl, hb⟩
                  have HB26 := Lib.hid (HB25.out.trans (hb.mono HB25.out.size))
                  clear hb HB25 
                  go_wp2
                  go_ret
                  exact ⟨rfl, HB26.out⟩

end Go.Proofs.Ythhbkgeoigdjaaa
