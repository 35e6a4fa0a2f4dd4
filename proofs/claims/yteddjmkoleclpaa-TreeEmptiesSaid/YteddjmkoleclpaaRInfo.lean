/- Values that are slices of what is told of nodes; the walks of the document's deepest and Few. -/
import Derived.Test.YteddjmkoleclpaaAS
import Derived.Test.YteddjmkoleclpaaRD
import Derived.Test.YteddjmkoleclpaaTT
set_option linter.unusedVariables false
set_option linter.unusedSimpArgs false
namespace Go.Proofs.Yteddjmkoleclpaa
open Go.RowKit

/-- What is told of a node, as it lies: its notes and its pairs are values. -/
structure Raw where
  depth : Int
  kids : Int
  low : ByteArray
  nv : Value
  pv : Value
def Raw.cells (r : Raw) : List Value := [.int .i64 r.depth, .int .i64 r.kids, .string r.low, r.nv, r.pv]
theorem Raw.cells5 (r : Raw) : r.cells.length = 5 := rfl
/-- What a value tells of a node. -/
def RawOf (w : World) (r : Raw) (x : In) : Prop := r.depth = x.depth ∧ r.kids = x.kids ∧ r.low = x.low ∧ NV w r.nv x.notes ∧ PV w r.pv x.pairs
theorem RawOf.on {w w' : World} {r : Raw} {x : In} (h : RawOf w r x) (hb : Below w.heap.size w w') : RawOf w' r x := ⟨h.1, h.2.1, h.2.2.1, h.2.2.2.1.on hb, h.2.2.2.2.on hb⟩
/-- A value that is a slice of what is told of these nodes. -/
def IV (w : World) (v : Value) (l : List In) : Prop := ∃ (A : Option Addr) (c : Nat) (rs : List Raw), v = .slice A l.length c ∧ rs.length = l.length ∧ Lies Raw.cells 5 w w.heap.size A rs ∧ ∀ i (h : i < l.length), ∃ r, rs[i]? = some r ∧ RawOf w r l[i]
theorem IV.on {w w' : World} {v : Value} {l : List In} (h : IV w v l) (hb : Below w.heap.size w w') : IV w' v l := by
  obtain ⟨A, c, rs, e, hl, hp, h2⟩ := h
  exact ⟨A, c, rs, e, hl, hp.on hb, fun i hi => let ⟨r, h3, h4⟩ := h2 i hi; ⟨r, h3, h4.on hb⟩⟩
theorem IV.shape {w : World} {v : Value} {l : List In} (h : IV w v l) : ∃ A c, v = .slice A l.length c := let ⟨A, c, _, e, _⟩ := h; ⟨A, c, e⟩
theorem IV.at_ {w : World} {A : Option Addr} {n c : Nat} {l : List In} (h : IV w (.slice A n c) l) {i : Nat} (hi : i < l.length) : ∃ (ad : Addr) (nv pv : Value), A = some ad ∧ ad.block < w.heap.size ∧
    w.cell? (ad.add (i * 5)) = some (.int .i64 l[i].depth) ∧ w.cell? ⟨(ad.add (i * 5)).block, (ad.add (i * 5)).off + 1, none⟩ = some (.int .i64 l[i].kids) ∧ w.cell? ⟨(ad.add (i * 5)).block, (ad.add (i * 5)).off + 2, none⟩ = some (.string l[i].low) ∧ w.cell? ⟨(ad.add (i * 5)).block, (ad.add (i * 5)).off + 3, none⟩ = some nv ∧ w.cell? ⟨(ad.add (i * 5)).block, (ad.add (i * 5)).off + 4, none⟩ = some pv ∧ NV w nv l[i].notes ∧ PV w pv l[i].pairs := by
  obtain ⟨A', c', rs, e, hl, hp, h2⟩ := h
  injection e with e1 e2 e3
  subst e1
  obtain ⟨r, h3, h4, h5, h6, h7, h8⟩ := h2 i hi
  obtain ⟨ad, e1, hB, hc⟩ := hp (by rw [hl]; omega)
  obtain ⟨hi2, h9⟩ := List.getElem?_eq_some_iff.1 h3
  have g0 := hc i hi2 0 (.int .i64 l[i].depth) (by rw [h9, ← h4]; rfl)
  have g1 := hc i hi2 1 (.int .i64 l[i].kids) (by rw [h9, ← h5]; rfl)
  have g2 := hc i hi2 2 (.string l[i].low) (by rw [h9, ← h6]; rfl)
  have g3 := hc i hi2 3 r.nv (by rw [h9]; rfl)
  have g4 := hc i hi2 4 r.pv (by rw [h9]; rfl)
  rw [Addr.add_zero'] at g0
  rw [Addr.add_succ'] at g1 g2 g3 g4
  exact ⟨ad, r.nv, r.pv, e1, hB, g0, g1, g2, g3, g4, h7, h8⟩

set_option maxHeartbeats 1000000 in
set_option maxRecDepth 100000 in
theorem deepest_any (A : Option Addr) (n c : Nat) (l : List In) (w : World) (hA : IV w (.slice A n c) l) (hn : n = l.length) (hm : n ≤ maxLen) :
    Calls Try.prog 49 #[.slice A n c] w fun e w' => e = .returned (.int .i64 (deepI l)) ∧ Below w.heap.size w w' := by
  unfold maxLen at hm
  have HD := Lib.hid (show deepI l = deepTo l n from by rw [hn]; rfl)
  obtain ⟨R, hR⟩ : ∃ R, R = deepI l := ⟨_, rfl⟩
  rw [← hR] at HD ⊢
  have HA := Lib.hid hA
  have HL := Lib.hid hn
  clear hR hA hn
  go_enter Try.func49, Try.ntmps49
  go_wp2
  go_loopw [3, 4] (fun d i wr => ∃ (k : Nat), d = .int .i64 (deepTo l k) ∧ i = .int .i64 k ∧ k ≤ n ∧ Below w.heap.size w wr) (fun _ i _ => (n - intOf i).toNat)
  case atStart => exact ⟨0, by rw [deep_zero], rfl, by omega, Below.refl _ _⟩
  case round =>
    obtain ⟨k, rfl, rfl, hk, hbr⟩ := hrel
    by_cases hlt : k < n
    · have hkl : k < l.length := by rw [← HL.out]; exact hlt
      obtain ⟨ad, nv, pv, rfl, hab, c0, _⟩ := (HA.out.on hbr).at_ hkl
      have hst := deep_succ hkl
      obtain ⟨x, hx⟩ : ∃ x, x = (l[k]'hkl).depth := ⟨_, rfl⟩
      obtain ⟨d, hd⟩ : ∃ d, d = deepTo l k := ⟨_, rfl⟩
      rw [← hx] at c0 hst
      rw [← hd] at hst ⊢
      clear hx hd
      by_cases hxd : d < x
      · have hz : decide (d < x) = true := decide_eq_true hxd
        rw [if_pos hxd] at hst
        have HST := Lib.hid hst
        clear hst hxd
        go_wp2
        go_roundw
        case rel => exact ⟨k + 1, by rw [HST.out], by go_num, by omega, hbr⟩
        case measure => simp [intOf]; omega
      · have hz : decide (d < x) = false := decide_eq_false hxd
        rw [if_neg hxd] at hst
        have HST := Lib.hid hst
        clear hst hxd
        go_wp2
        go_roundw
        case rel => exact ⟨k + 1, by rw [HST.out], by go_num, by omega, hbr⟩
        case measure => simp [intOf]; omega
    · have hkn : k = n := by omega
      have HE := Lib.hid (show deepTo l k = R by rw [hkn]; exact HD.out.symm)
      clear hkn
      go_wp2
      go_ret
      rw [HE.out]
      exact ⟨rfl, hbr⟩
theorem deepest_v {v : Value} {l : List In} {w : World} (h : IV w v l) (hm : l.length ≤ maxLen) :
    Calls Try.prog 49 #[v] w fun e w' => e = .returned (.int .i64 (deepI l)) ∧ Below w.heap.size w w' := by
  have h0 := h
  obtain ⟨A, c, rfl⟩ := h.shape
  exact deepest_any A l.length c l w h0 rfl hm

theorem del_right : rightN ⟨2, noB, noB, 0⟩ = true := by decide
set_option maxHeartbeats 1000000 in
set_option maxRecDepth 100000 in
theorem dfew_any (A : Option Addr) (c : Nat) (l : List Nt) (most : Nat) (w : World) (hA : Nts w w.heap.size A l) (hn : l.length ≤ maxLen) :
    Calls Try.prog 10 #[.slice A l.length c, .int .i64 most] w fun e w' => ∃ R, e = .returned (.bool R) ∧ (R = true → l.length ≤ most) ∧ Below w.heap.size w w' := by
  have hdel := fun wx => dright_any 2 noB noB 0 wx
  rw [del_right] at hdel
  have HDEL := Lib.hid (fun wx => show Calls Try.prog 21 #[.agg #[.int .i64 2, .string noB, .string noB, .int .u64 0]] wx fun e w' => e = .returned (.bool true) ∧ Below wx.heap.size wx w' from hdel wx)
  clear hdel
  unfold maxLen at hn
  obtain ⟨n, hl⟩ : ∃ n, l.length = n := ⟨_, rfl⟩
  rw [hl] at hn ⊢
  have HL := Lib.hid hl
  have HA := Lib.hid hA
  clear hl hA
  go_enter Try.func10, Try.ntmps10
  go_wp2
  go_loopw [5] (fun i wr => ∃ (k : Nat), i = .int .i64 k ∧ k ≤ n ∧ Below w.heap.size w wr) (fun i _ => (n - intOf i).toNat)
  case atStart => exact ⟨0, rfl, by omega, Below.refl _ _⟩
  case round =>
    obtain ⟨k, rfl, hk, hbr⟩ := hrel
    by_cases hlt : k < n
    · obtain ⟨ad, rfl, hab, hca⟩ := (HA.out.below hbr).seeN (by rw [HL.out]; omega)
      obtain ⟨c1, c2, c3, c4⟩ := hca k (by rw [HL.out]; omega)
      obtain ⟨x, hx⟩ : ∃ x, x = l[k]'(by rw [HL.out]; omega) := ⟨_, rfl⟩
      rw [← hx] at c1 c2 c3 c4
      clear hx hca
      obtain ⟨xk, xkey, xval, xn⟩ := x
      simp only at c1 c2 c3 c4
      by_cases h1 : xkey.size ≤ 300
      · have hd1 : decide (300 < (xkey.size : Int)) = false := by simp; omega
        by_cases h2 : xval.size ≤ 300
        · have hd2 : decide (300 < (xval.size : Int)) = false := by simp; omega
          go_wp2
          go_roundw
          case rel => exact ⟨k + 1, by go_num, by omega, hbr⟩
          case measure => simp [intOf]; omega
        · have hd2 : decide (300 < (xval.size : Int)) = true := by simp; omega
          go_wp2
          go_ret
          exact ⟨_, rfl, fun h => (by cases h), hbr⟩
      · have hd1 : decide (300 < (xkey.size : Int)) = true := by simp; omega
        go_wp2
        go_ret
        exact ⟨_, rfl, fun h => (by cases h), hbr⟩
    · obtain ⟨wq, hwq⟩ : ∃ wx, wx = wr := ⟨_, rfl⟩
      rw [← hwq] at hbr ⊢
      have HBR := Lib.hid hbr
      clear hbr hwq
      by_cases hmo : n ≤ most
      · have hd1 : decide ((n : Int) ≤ (most : Int)) = true := by simp; omega
        have hd2 : decide (n ≤ most) = true := by simp; omega
        have HMO := Lib.hid hmo
        clear hmo
        go_wp2_with fail
        refine (HDEL.out _).mono ?_
        rintro e w2 ⟨rfl, hb2⟩
        have HB2 := Lib.hid (HBR.out.trans (hb2.mono HBR.out.size))
        clear hb2
        go_wp2
        go_ret
        exact ⟨_, rfl, fun _ => HMO.out, HB2.out⟩
      · have hd1 : decide ((n : Int) ≤ (most : Int)) = false := by simp; omega
        have hd2 : decide (n ≤ most) = false := by simp; omega
        clear hmo
        go_wp2
        go_ret
        exact ⟨_, rfl, fun h => (by cases h), HBR.out⟩
theorem dfew_v {v : Value} {l : List Nt} {w : World} (h : NV w v l) (most : Nat) (hn : l.length ≤ maxLen) :
    Calls Try.prog 10 #[v, .int .i64 most] w fun e w' => ∃ R, e = .returned (.bool R) ∧ (R = true → l.length ≤ most) ∧ Below w.heap.size w w' := by
  obtain ⟨A, c, rfl, h1, h2, h3⟩ := h
  exact dfew_any A c l most w h1 hn

end Go.Proofs.Yteddjmkoleclpaa
