/- What the slots hold of the lines of DiskOnce that make disks in an order that is drawn: blocks that wait for a disk, blocks that have it. -/
import Derived.Test.YtacllmkedadbaaaAwake
import Derived.Test.YtacllmkedadbaaaPhase
namespace Go.Proofs.Ytacllmkedadbaaa
open Go.RowKit

def ptr (g : Nat) : Value := .pointer (some ⟨g, 0, none⟩)
theorem ptr_inj {g h : Nat} (e : ptr g = ptr h) : g = h := by unfold ptr at e; simpa using e

/-- A pointer to a block that waits for a disk; to one that has it. -/
def Zero (base : Nat) (w : World) (v : Value) : Prop := ∃ g, v = ptr g ∧ base ≤ g ∧ DBlk w g none 0 0 none 0 0
def Fill (base n m : Nat) (S : List ByteArray) (W : List Wr) (w : World) (v : Value) : Prop := ∃ g A c B d, v = ptr g ∧ base ≤ g ∧ DBlk w g A n c B m d ∧ DV w (.agg #[.slice A n c, .slice B m d]) S W
theorem Zero.on {base : Nat} {w w' : World} {v : Value} (h : Zero base w v) (hb : Below w.heap.size w w') : Zero base w' v := by
  obtain ⟨g, e, h1, h2⟩ := h
  exact ⟨g, e, h1, Box.on h2 hb⟩
theorem Fill.on {base n m : Nat} {S : List ByteArray} {W : List Wr} {w w' : World} {v : Value} (h : Fill base n m S W w v) (hb : Below w.heap.size w w') : Fill base n m S W w' v := by
  obtain ⟨g, A, c, B, d, e, h1, h2, h3⟩ := h
  exact ⟨g, A, c, B, d, e, h1, Box.on h2 hb, h3.on hb⟩
theorem Zero.fresh {base : Nat} (w : World) (h : base ≤ w.heap.size) : Zero base (w.alloc (.cells #[.slice none 0 0, .slice none 0 0] 25)) (ptr w.heap.size) := ⟨w.heap.size, rfl, h, Box.fresh _ _ _⟩

/-- The world when a disk was stored. -/
def laidD (w : World) (g : Nat) (A : Option Addr) (n c : Nat) (B : Option Addr) (m d : Nat) : World := (w.setCell ⟨g, 0, none⟩ (.slice A n c)).setCell ⟨g, 1, none⟩ (.slice B m d)
theorem laid_fill {base g n m c d : Nat} {A B : Option Addr} {S : List ByteArray} {W : List Wr} {w : World} (hg : base ≤ g) (hz : DBlk w g none 0 0 none 0 0) (hv : DV w (.agg #[.slice A n c, .slice B m d]) S W) : Fill base n m S W (laidD w g A n c B m d) (ptr g) :=
  ⟨g, A, c, B, d, rfl, hg, Box.set (Box.set hz 0 _) 1 _, hv.apart hz A n c B m d⟩
theorem laid_dv {g n m c d : Nat} {A B : Option Addr} {S : List ByteArray} {W : List Wr} {w : World} {v : Value} (hz : DBlk w g none 0 0 none 0 0) (hv : DV w v S W) : DV (laidD w g A n c B m d) v S W := hv.apart hz A n c B m d
theorem laid_zero {base g h n m c d : Nat} {A B : Option Addr} {w : World} (hh : base ≤ h) (hz : DBlk w h none 0 0 none 0 0) (hne : g ≠ h) : Zero base (laidD w g A n c B m d) (ptr h) :=
  ⟨h, rfl, hh, Box.away (Box.away hz (fun e => hne e.symm) _) (fun e => hne e.symm) _⟩
theorem laid_old {base g n m c d n2 m2 : Nat} {A B : Option Addr} {S : List ByteArray} {W : List Wr} {w : World} {v : Value} (hz : DBlk w g none 0 0 none 0 0) (hf : Fill base n2 m2 S W w v) (hne : ∀ h, v = ptr h → g ≠ h) : Fill base n2 m2 S W (laidD w g A n c B m d) v := by
  obtain ⟨h, A', c', B', d', e, h1, h2, h3⟩ := hf
  exact ⟨h, A', c', B', d', e, h1, Box.away (Box.away h2 (fun e' => hne h e e'.symm) _) (fun e' => hne h e e'.symm) _, laid_dv hz h3⟩
theorem laid_below {base g n m c d : Nat} {A B : Option Addr} {w0 w : World} (hb : Below base w0 w) (hg : base ≤ g) : Below base w0 (laidD w g A n c B m d) := (hb.setCell hg _).setCell hg _
theorem laid_size {g n m c d : Nat} {A B : Option Addr} {w : World} : (laidD w g A n c B m d).heap.size = w.heap.size := by unfold laidD; simp

/-- Two slots point to unlike blocks. -/
def Apart (s t : Nat) (a : Act) (w : World) : Prop :=
  (∀ g, a.tmps[s]? = some (ptr g) → g < w.heap.size) ∧ (∀ g, a.tmps[t]? = some (ptr g) → g < w.heap.size) ∧ ∀ g h, a.tmps[s]? = some (ptr g) → a.tmps[t]? = some (ptr h) → g ≠ h
theorem Apart.keep {s t : Nat} {a a' : Act} {w w' : World} (hs : a'.tmps[s]? = a.tmps[s]?) (ht : a'.tmps[t]? = a.tmps[t]?) (hz : w.heap.size ≤ w'.heap.size) (h : Apart s t a w) : Apart s t a' w' := by
  obtain ⟨h1, h2, h3⟩ := h
  exact ⟨fun g e => by rw [hs] at e; have := h1 g e; omega, fun g e => by rw [ht] at e; have := h2 g e; omega, fun g k e1 e2 => by rw [hs] at e1; rw [ht] at e2; exact h3 g k e1 e2⟩
theorem put_get_same {a : Act} {s g h : Nat} (e : (a.put (some s) (ptr h)).tmps[s]? = some (ptr g)) : g = h := by
  simp only [Act.put, Array.getElem?_setIfInBounds, if_true] at e
  split at e
  · injection e with e; exact (ptr_inj e).symm
  · cases e
theorem put_get_other {a : Act} {s t : Nat} {v : Value} (h : s ≠ t) : (a.put (some s) v).tmps[t]? = a.tmps[t]? := by simp [Act.put, Array.getElem?_setIfInBounds, h]
theorem Apart.left {s t : Nat} {a : Act} {w : World} (hst : s ≠ t) (h : Apart s t a w) (o : Obj) : Apart s t (a.put (some s) (ptr w.heap.size)) (w.alloc o) := by
  obtain ⟨h1, h2, h3⟩ := h
  refine ⟨fun g e => ?_, fun g e => ?_, fun g k e1 e2 => ?_⟩
  · have := put_get_same e; simp; omega
  · rw [put_get_other hst] at e; have := h2 g e; simp; omega
  · have := put_get_same e1
    rw [put_get_other hst] at e2
    have := h2 k e2
    omega
theorem Apart.right {s t : Nat} {a : Act} {w : World} (hst : s ≠ t) (h : Apart s t a w) (o : Obj) : Apart s t (a.put (some t) (ptr w.heap.size)) (w.alloc o) := by
  obtain ⟨h1, h2, h3⟩ := h
  refine ⟨fun g e => ?_, fun g e => ?_, fun g k e1 e2 => ?_⟩
  · rw [put_get_other (Ne.symm hst)] at e; have := h1 g e; simp; omega
  · have := put_get_same e; simp; omega
  · have := put_get_same e2
    rw [put_get_other (Ne.symm hst)] at e1
    have := h1 g e1
    omega

/-- append of strings onto a row of the call's own, as an equation. -/
theorem run_append_sv (w : World) (ty base : Nat) (v : Value) (n : Nat) (xs : List Value) (hown : w.ownsRow base 9 1 v n xs) (B : Nat) (A : Option Addr) (m c : Nat) (ss : List ByteArray) (hm : ss.length = m) (hr : Strs w B A ss) (hA : A = none → c = 0) (hn : n + m ≤ 1000000) (hbase : base ≤ w.heap.size) :
    ∃ v' w', (Builtin.append_ #[22, 22] ty #[v, .slice A m c]).run Try.prog w = .ok v' w' ∧ w'.ownsRow base 9 1 v' (n + m) (xs ++ ss.map Value.string) ∧ w.grownBy w' v.ownBlock := by
  obtain ⟨i0, hi0, hz0, hz1, hz2⟩ := info_parts str_info
  rcases A with _ | ad
  · obtain rfl := hA rfl
    obtain rfl := strs_none hr
    obtain rfl : m = 0 := hm.symm
    exact ⟨v, w, run_append_owned_none w base 22 ty 9 i0 1 Try.underlying22 hi0 v n xs hown, by simpa using hown, World.grownBy.refl w _⟩
  · obtain ⟨v', w', h1, h2, h3, _⟩ := run_append_own (P := Try.prog) w base 22 ty 9 i0 (.string ⟨#[]⟩) 1 16 Try.underlying22 hi0 hz0 hz1 hz2 rfl (by decide) v n xs hown ad m c (ss.map Value.string) (by simp [hm]) (strs_cells hr) (strs_plain ss) (by unfold maxLen; omega) (by omega) hbase
    exact ⟨v', w', h1, h2, h3⟩

/-- A block that waits for a disk is no row of strings. -/
theorem Zero.grown {base0 base n : Nat} {w w' : World} {u v : Value} {xs : List Value} (h : Zero base0 w u) (hown : w.ownsRow base 9 1 v n xs) (hg : w.grownBy w' v.ownBlock) : Zero base0 w' u := by
  obtain ⟨g, e, h1, h2⟩ := h
  refine ⟨g, e, h1, Box.grown h2 hg fun e2 => ?_⟩
  rcases hown.2 with ⟨hv, _⟩ | ⟨g', cap, cur, hv, _, hg', _⟩
  · rw [hv] at e2; simp [Value.ownBlock] at e2
  · rw [hv] at e2
    simp [Value.ownBlock] at e2
    subst e2
    have h3 : w.heap[g]? = some (.cells #[.slice none 0 0, .slice none 0 0] 25 (0, 0)) := h2
    rw [h3] at hg'
    simp at hg'

/-- Put, whatever comes of it. -/
def putsB (n : Nat) (a : Int) (l : List ByteArray) : Bool := fillB l && hasB n a l.length
def putW (n : Nat) (W : List Wr) (a : Int) (l : List ByteArray) : List Wr := if putsB n a l then W ++ putL a l else W
def putE (n : Nat) (a : Int) (l : List ByteArray) : Int := if putsB n a l then 0 else 1
theorem put_dv {v t : Value} {S : List ByteArray} {W : List Wr} {a : Int} {l : List ByteArray} {w : World} (h : DV w v S W) (ht : SV w t l) (hm : W.length ≤ 100000) (hl : l.length ≤ 100000) (hR : rightB S W = true) :
    Calls Try.prog 13 #[v, .int .i64 a, t] w fun e w' => ∃ v', e = .returned (.tuple #[v', .int .i64 (putE S.length a l)]) ∧ DV w' v' S (putW S.length W a l) ∧ Below w.heap.size w w' := by
  unfold putE putW putsB
  cases hok : (fillB l && hasB S.length a l.length) with
  | true =>
    rw [Bool.and_eq_true] at hok
    exact put_dv_ok h ht hm hl hR hok.1 hok.2
  | false =>
    rw [Bool.and_eq_false_iff] at hok
    refine (put_dv_bad h ht (by omega) (by omega) hR hok).mono ?_
    rintro e w' ⟨he, hb⟩
    exact ⟨v, he, h.on hb, hb⟩
theorem putW_right {S : List ByteArray} {W : List Wr} {a : Int} {l : List ByteArray} (hR : rightB S W = true) : rightB S (putW S.length W a l) = true := by
  unfold putW putsB
  split
  · rename_i h
    rw [Bool.and_eq_true] at h
    exact put_right hR h.1 h.2
  · exact hR
theorem putW_len (n : Nat) (W : List Wr) (a : Int) (l : List ByteArray) : (putW n W a l).length ≤ W.length + l.length := by
  unfold putW
  split
  · rw [List.length_append, put_len]; omega
  · omega

/-- Two parts, one behind the other, are put just if both are put at once. -/
theorem puts_two (n : Nat) (a : Int) (l k : List ByteArray) (h : putsB n a l = true) : putsB n a (l ++ k) = putsB n (a + l.length) k := by
  unfold putsB at *
  rw [Bool.and_eq_true] at h
  have e : fillB (l ++ k) = fillB k := by
    have h1 := h.1
    unfold fillB at *
    rw [List.all_append, h1, Bool.true_and]
  rw [e]
  congr 1
  have h2 := h.2
  unfold hasB at *
  simp only [decide_eq_true_eq] at h2
  rw [decide_eq_decide, List.length_append]
  omega
theorem putE_two (n : Nat) (a : Int) (l k : List ByteArray) (h : putsB n a l = true) : putE n a (l ++ k) = putE n (a + l.length) k := by
  unfold putE
  rw [puts_two n a l k h]
theorem putW_two (n : Nat) (W : List Wr) (a : Int) (l k : List ByteArray) (h : putsB n a l = true) (hk : putE n a (l ++ k) = 0) : putW n (putW n W a l) (a + l.length) k = putW n W a (l ++ k) := by
  have h2 : putsB n a (l ++ k) = true := by
    unfold putE at hk
    split at hk
    · assumption
    · cases hk
  have h3 := h2
  rw [puts_two n a l k h] at h3
  unfold putW
  rw [if_pos h, if_pos h2, if_pos h3, put_append, List.append_assoc]
theorem putE_cases (n : Nat) (a : Int) (l : List ByteArray) : putE n a l = 0 ∨ putE n a l = 1 := by unfold putE; split <;> simp

theorem sv_own {w : World} {base n : Nat} {v : Value} {la lb : List ByteArray} (h : lb.length = n) (hown : w.ownsRow base 9 1 v (la.length + n) (la.map Value.string ++ lb.map Value.string)) : SV w v (la ++ lb) := by
  obtain ⟨A, c, rfl⟩ := own_shape hown
  have e : (la ++ lb).length = la.length + n := by rw [List.length_append, h]
  refine ⟨A, c, by rw [e], Strs.own (n := la.length + n) (c := c) (base := base) (e := 9) ?_⟩
  rw [e, List.map_append]
  exact hown

/-- What each slot holds of the line that flushes and crashes. -/
def OnceV3 (base n : Nat) (D KV : Value) (F C : List ByteArray) (p t : Nat) (v : Value) (w : World) : Prop :=
  match t with
  | 50 => v = D
  | 51 => DV w v F []
  | 52 => v = D
  | 53 => v = KV
  | 54 => DV w v C []
  | 13 => (p = 0 → Zero base w v) ∧ (p ≠ 0 → Fill base n 0 F [] w v)
  | 14 => (p ≤ 1 → Zero base w v) ∧ (1 < p → Fill base n 0 C [] w v)
  | _ => True
theorem OnceV3.on {base n : Nat} {D KV : Value} {F C : List ByteArray} {p t : Nat} {v : Value} {w w' : World} (h : OnceV3 base n D KV F C p t v w) (hb : Below w.heap.size w w') : OnceV3 base n D KV F C p t v w' := by
  unfold OnceV3 at *
  split at h <;> first | exact h | exact DV.on h hb | exact ⟨fun e => (h.1 e).on hb, fun e => (h.2 e).on hb⟩

def Put2 (p : Nat) (e2 : Int) (S : List ByteArray) (Y : List Wr) (w : World) (v : Value) : Prop := 2 ≤ p ∧ ∃ u, v = .tuple #[u, .int .i64 e2] ∧ DV w u S Y
def Dv2 (p : Nat) (S : List ByteArray) (Y : List Wr) (w : World) (v : Value) : Prop := 2 ≤ p ∧ DV w v S Y
theorem Put2.on {p : Nat} {e2 : Int} {S : List ByteArray} {Y : List Wr} {w w' : World} {v : Value} (h : Put2 p e2 S Y w v) (hb : Below w.heap.size w w') : Put2 p e2 S Y w' v := by
  obtain ⟨h1, u, e, h2⟩ := h
  exact ⟨h1, u, e, h2.on hb⟩

/-- What each slot holds of the line that puts both parts at once. -/
def OnceV10 (base n my : Nat) (D : Value) (a : Int) (TA TB : Value) (la lb S : List ByteArray) (Y : List Wr) (e2 : Int) (p t : Nat) (v : Value) (w : World) : Prop :=
  match t with
  | 105 => v = D
  | 106 => v = .int .i64 a
  | 107 => p = 0 → w.ownsRow base 9 1 v 0 []
  | 108 => v = TA
  | 109 => p = 1 → w.ownsRow base 9 1 v la.length (la.map Value.string)
  | 110 => v = TB
  | 111 => p = 2 → SV w v (la ++ lb)
  | 112 => Put2 p e2 S Y w v
  | 104 => Put2 p e2 S Y w v
  | 113 => Dv2 p S Y w v
  | 114 => v = .int .i64 e2
  | 18 => (p ≤ 2 → Zero base w v) ∧ (2 < p → Fill base n my S Y w v)
  | 19 => v = .int .i64 e2
  | _ => True
theorem OnceV10.on {base n my : Nat} {D : Value} {a : Int} {TA TB : Value} {la lb S : List ByteArray} {Y : List Wr} {e2 : Int} {p t : Nat} {v : Value} {w w' : World} (h : OnceV10 base n my D a TA TB la lb S Y e2 p t v w) (hb : Below w.heap.size w w') : OnceV10 base n my D a TA TB la lb S Y e2 p t v w' := by
  unfold OnceV10 at *
  split at h <;> first | exact h | exact Put2.on h hb | exact ⟨h.1, h.2.on hb⟩ | exact ⟨fun e => (h.1 e).on hb, fun e => (h.2 e).on hb⟩ | exact fun e => own_below (h e) hb | exact fun e => SV.on (h e) hb

end Go.Proofs.Ytacllmkedadbaaa
