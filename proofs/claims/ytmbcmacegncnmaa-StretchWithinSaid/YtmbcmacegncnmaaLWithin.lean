/- The walk of the law StretchWithin. -/
import Derived.Test.YtmbcmacegncnmaaAwake
import Derived.Test.YtmbcmacegncnmaaInv
import Derived.Deep.DeepCutAuto
namespace Go.Proofs.Ytmbcmacegncnmaa
open Go.RowKit

/-- What each slot of the last line holds. -/
def WithinV11 (al ah bl bh ml mh hl key other : ByteArray) (ao bo mo gt : Bool) (t : Nat) (v : Value) (_w : World) : Prop :=
  match t with
  | 74 => v = (.agg #[.string ml, .string mh, .bool mo])
  | 75 => v = (.agg #[.string al, .string ah, .bool ao])
  | 76 => v = .bool true
  | 77 => v = .bool true
  | 78 => v = (.agg #[.string ml, .string mh, .bool mo])
  | 79 => v = (.agg #[.string bl, .string bh, .bool bo])
  | 80 => v = .bool true
  | 81 => v = .bool true
  | 82 => v = .bool true
  | 83 => v = (.agg #[.string hl, .string ah, .bool ao])
  | 84 => v = .string other
  | 85 => v = .bool (true && gt)
  | 86 => v = (.agg #[.string al, .string ah, .bool ao])
  | 87 => v = .string other
  | 88 => v = .bool true
  | 89 => v = .bool true
  | 90 => v = .string other
  | 91 => v = .string key
  | 92 => v = .bool gt
  | 93 => v = .bool gt
  | 94 => v = .bool true
  | 95 => v = .bool true
  | 96 => v = .bool true
  | 97 => v = (.agg #[.string al, .string ah, .bool ao])
  | 98 => v = .bool true
  | 99 => v = .bool false
  | 100 => v = .bool false
  | 101 => v = (.agg #[.string al, .string ah, .bool ao])
  | 102 => v = .string key
  | 103 => v = .bool false
  | 104 => v = .bool true
  | 105 => v = .bool true
  | 106 => v = .bool true
  | 107 => v = .bool true
  | 108 => v = .bool true
  | 109 => v = .bool true
  | 10 => v = .bool true
  | _ => True

/-- What each slot of the last line holds. -/
def WithinV10 (al ah bl bh ml mh hl key other : ByteArray) (ao bo mo gt : Bool) (t : Nat) (v : Value) (_w : World) : Prop :=
  match t with
  | 74 => v = (.agg #[.string ml, .string mh, .bool mo])
  | 75 => v = (.agg #[.string al, .string ah, .bool ao])
  | 76 => v = .bool true
  | 77 => v = .bool true
  | 78 => v = (.agg #[.string ml, .string mh, .bool mo])
  | 79 => v = (.agg #[.string bl, .string bh, .bool bo])
  | 80 => v = .bool true
  | 81 => v = .bool true
  | 82 => v = .bool true
  | 83 => v = (.agg #[.string hl, .string ah, .bool ao])
  | 84 => v = .string other
  | 85 => v = .bool (true && gt)
  | 86 => v = (.agg #[.string al, .string ah, .bool ao])
  | 87 => v = .string other
  | 88 => v = .bool true
  | 89 => v = .bool true
  | 90 => v = .string other
  | 91 => v = .string key
  | 92 => v = .bool gt
  | 93 => v = .bool gt
  | 94 => v = .bool true
  | 95 => v = .bool true
  | 96 => v = .bool true
  | 97 => v = (.agg #[.string al, .string ah, .bool ao])
  | 98 => v = .bool false
  | 99 => v = .bool true
  | 100 => v = .bool true
  | 101 => v = undef
  | 102 => v = undef
  | 103 => v = undef
  | 104 => v = undef
  | 105 => v = .bool true
  | 106 => v = .bool true
  | 107 => v = .bool true
  | 108 => v = .bool true
  | 109 => v = .bool true
  | 10 => v = .bool true
  | _ => True

/-- What each slot of the last line holds. -/
def WithinV01 (al ah bl bh ml mh hl key other : ByteArray) (ao bo mo gt : Bool) (t : Nat) (v : Value) (_w : World) : Prop :=
  match t with
  | 74 => v = (.agg #[.string ml, .string mh, .bool mo])
  | 75 => v = (.agg #[.string al, .string ah, .bool ao])
  | 76 => v = .bool true
  | 77 => v = .bool true
  | 78 => v = (.agg #[.string ml, .string mh, .bool mo])
  | 79 => v = (.agg #[.string bl, .string bh, .bool bo])
  | 80 => v = .bool true
  | 81 => v = .bool true
  | 82 => v = .bool true
  | 83 => v = (.agg #[.string hl, .string ah, .bool ao])
  | 84 => v = .string other
  | 85 => v = .bool (false && gt)
  | 86 => v = (.agg #[.string al, .string ah, .bool ao])
  | 87 => v = .string other
  | 88 => v = .bool false
  | 89 => v = .bool false
  | 90 => v = undef
  | 91 => v = undef
  | 92 => v = undef
  | 93 => v = .bool false
  | 94 => v = .bool true
  | 95 => v = .bool true
  | 96 => v = .bool true
  | 97 => v = (.agg #[.string al, .string ah, .bool ao])
  | 98 => v = .bool true
  | 99 => v = .bool false
  | 100 => v = .bool false
  | 101 => v = (.agg #[.string al, .string ah, .bool ao])
  | 102 => v = .string key
  | 103 => v = .bool false
  | 104 => v = .bool true
  | 105 => v = .bool true
  | 106 => v = .bool true
  | 107 => v = .bool true
  | 108 => v = .bool true
  | 109 => v = .bool true
  | 10 => v = .bool true
  | _ => True

/-- What each slot of the last line holds. -/
def WithinV00 (al ah bl bh ml mh hl key other : ByteArray) (ao bo mo gt : Bool) (t : Nat) (v : Value) (_w : World) : Prop :=
  match t with
  | 74 => v = (.agg #[.string ml, .string mh, .bool mo])
  | 75 => v = (.agg #[.string al, .string ah, .bool ao])
  | 76 => v = .bool true
  | 77 => v = .bool true
  | 78 => v = (.agg #[.string ml, .string mh, .bool mo])
  | 79 => v = (.agg #[.string bl, .string bh, .bool bo])
  | 80 => v = .bool true
  | 81 => v = .bool true
  | 82 => v = .bool true
  | 83 => v = (.agg #[.string hl, .string ah, .bool ao])
  | 84 => v = .string other
  | 85 => v = .bool (false && gt)
  | 86 => v = (.agg #[.string al, .string ah, .bool ao])
  | 87 => v = .string other
  | 88 => v = .bool false
  | 89 => v = .bool false
  | 90 => v = undef
  | 91 => v = undef
  | 92 => v = undef
  | 93 => v = .bool false
  | 94 => v = .bool true
  | 95 => v = .bool true
  | 96 => v = .bool true
  | 97 => v = (.agg #[.string al, .string ah, .bool ao])
  | 98 => v = .bool false
  | 99 => v = .bool true
  | 100 => v = .bool true
  | 101 => v = undef
  | 102 => v = undef
  | 103 => v = undef
  | 104 => v = undef
  | 105 => v = .bool true
  | 106 => v = .bool true
  | 107 => v = .bool true
  | 108 => v = .bool true
  | 109 => v = .bool true
  | 10 => v = .bool true
  | _ => True


/-- The three ranges lie where they were laid. -/
def ABC (w : World) (B : Nat) (a b c : Rng) : Prop := RBlk w B a ∧ RBlk w (B + 1) b ∧ RBlk w (B + 2) c
theorem ABC.on {w w' : World} {B : Nat} {a b c : Rng} (h : ABC w B a b c) (hb : Below w.heap.size w w') : ABC w' B a b c := ⟨cells_of h.1 hb, cells_of h.2.1 hb, cells_of h.2.2 hb⟩
theorem ABC.push {w : World} {B : Nat} {a b c : Rng} (h : ABC w B a b c) (o : Obj) : ABC (w.alloc o) B a b c := ⟨Box.push h.1 _, Box.push h.2.1 _, Box.push h.2.2 _⟩
theorem ABC.cells {w : World} {B : Nat} {a b c : Rng} (h : ABC w B a b c) :
    (w.cell? ⟨B, 0, none⟩ = some (.string a.lo) ∧ w.cell? ⟨B, 1, none⟩ = some (.string a.hi) ∧ w.cell? ⟨B, 2, none⟩ = some (.bool a.op)) ∧
    (w.cell? ⟨B + 1, 0, none⟩ = some (.string b.lo) ∧ w.cell? ⟨B + 1, 1, none⟩ = some (.string b.hi) ∧ w.cell? ⟨B + 1, 2, none⟩ = some (.bool b.op)) ∧
    (w.cell? ⟨B + 2, 0, none⟩ = some (.string c.lo) ∧ w.cell? ⟨B + 2, 1, none⟩ = some (.string c.hi) ∧ w.cell? ⟨B + 2, 2, none⟩ = some (.bool c.op)) :=
  ⟨RBlk.cells h.1, RBlk.cells h.2.1, RBlk.cells h.2.2⟩
theorem ABC.laid (w : World) (al ah bl bh cl ch : ByteArray) (ao bo co : Bool) : ABC (((w.alloc (rcells al ah ao)).alloc (rcells bl bh bo)).alloc (rcells cl ch co)) w.heap.size ⟨al, ah, ao⟩ ⟨bl, bh, bo⟩ ⟨cl, ch, co⟩ :=
  ⟨Box.push (Box.push (Box.fresh w _ _) _) _, Box.push (Box.at_ _ _ _ (by simp)) _, Box.at_ _ _ _ (by simp)⟩

set_option maxHeartbeats 4000000 in
set_option maxRecDepth 100000 in
theorem within_walk (al ah bl bh cl ch key other : ByteArray) (ao bo co : Bool) (w : World) (ha : al.size ≤ maxLen ∧ ah.size ≤ maxLen) (hb : bl.size ≤ maxLen ∧ bh.size ≤ maxLen) (hc : cl.size ≤ maxLen ∧ ch.size ≤ maxLen) (hk : key.size ≤ maxLen) (ho : other.size ≤ maxLen) :
    Calls Try.prog 4 #[.agg #[.string al, .string ah, .bool ao], .agg #[.string bl, .string bh, .bool bo], .agg #[.string cl, .string ch, .bool co], .string key, .string other] w fun e w' => e = .returned (.bool true) ∧ Below w.heap.size w w' := by
  unfold maxLen at hk ho
  have Za := Lib.hid ha
  have Zb := Lib.hid hb
  have Zc := Lib.hid hc
  clear ha hb hc
  go_enter Try.func4, Try.ntmps4
  go_wp2_with fail
  refine (small_any al ah ao _ Za.out.1 Za.out.2).mono ?_
  rintro e w1 ⟨rfl, hb1⟩
  have hbz : Below w.heap.size w w1 := ((((Below.refl _ w).alloc (Nat.le_refl _) _).alloc (by simp) _).alloc (by simp; omega) _).trans (hb1.mono (by simp; omega))
  have HX := Lib.hid ((ABC.laid w al ah bl bh cl ch ao bo co).on hb1)
  clear hb1
  obtain ⟨⟨a1, a2, a3⟩, ⟨b1, b2, b3⟩, ⟨c1, c2, c3⟩⟩ := HX.out.cells
  simp only at a1 a2 a3 b1 b2 b3 c1 c2 c3
  generalize smallB ⟨al, ah, ao⟩ = s1
  cases s1 with
  | false =>
    go_wp2_with fail
    refine (awake_true _).mono ?_
    rintro e w9 ⟨rfl, hb9⟩
    go_wp2
    go_ret
    exact ⟨rfl, hbz.trans (hb9.mono hbz.size)⟩
  | true =>
  go_wp2_with fail
  refine (small_any bl bh bo _ Zb.out.1 Zb.out.2).mono ?_
  rintro e w2 ⟨rfl, hb2⟩
  have hbz := hbz.trans (hb2.mono hbz.size)
  have HX := Lib.hid (HX.out.on hb2)
  clear a1 a2 a3 b1 b2 b3 c1 c2 c3
  clear hb2
  obtain ⟨⟨a1, a2, a3⟩, ⟨b1, b2, b3⟩, ⟨c1, c2, c3⟩⟩ := HX.out.cells
  simp only at a1 a2 a3 b1 b2 b3 c1 c2 c3
  generalize smallB ⟨bl, bh, bo⟩ = s2
  cases s2 with
  | false =>
    go_wp2_with fail
    refine (awake_true _).mono ?_
    rintro e w9 ⟨rfl, hb9⟩
    go_wp2
    go_ret
    exact ⟨rfl, hbz.trans (hb9.mono hbz.size)⟩
  | true =>
  go_wp2_with fail
  refine (small_any cl ch co _ Zc.out.1 Zc.out.2).mono ?_
  rintro e w3 ⟨rfl, hb3⟩
  have hbz := hbz.trans (hb3.mono hbz.size)
  have HX := Lib.hid (HX.out.on hb3)
  clear a1 a2 a3 b1 b2 b3 c1 c2 c3
  clear hb3
  obtain ⟨⟨a1, a2, a3⟩, ⟨b1, b2, b3⟩, ⟨c1, c2, c3⟩⟩ := HX.out.cells
  simp only at a1 a2 a3 b1 b2 b3 c1 c2 c3
  generalize smallB ⟨cl, ch, co⟩ = s3
  cases s3 with
  | false =>
    go_wp2_with fail
    refine (awake_true _).mono ?_
    rintro e w9 ⟨rfl, hb9⟩
    go_wp2
    go_ret
    exact ⟨rfl, hbz.trans (hb9.mono hbz.size)⟩
  | true =>
  by_cases hk3 : 300 < key.size
  · skip
    go_wp2_with fail
    refine (awake_true _).mono ?_
    rintro e w9 ⟨rfl, hb9⟩
    go_wp2
    go_ret
    exact ⟨rfl, hbz.trans (hb9.mono hbz.size)⟩
  by_cases ho3 : 300 < other.size
  · skip
    go_wp2_with fail
    refine (awake_true _).mono ?_
    rintro e w9 ⟨rfl, hb9⟩
    go_wp2
    go_ret
    exact ⟨rfl, hbz.trans (hb9.mono hbz.size)⟩
  have hkk : key.size ≤ 300 := by omega
  go_upto_region 3 with fail
  go_cut [66] (fun v wx => v = .bool false ∧ ABC wx w.heap.size ⟨al, ah, ao⟩ ⟨bl, bh, bo⟩ ⟨cl, ch, co⟩ ∧ Below w.heap.size w wx)
  case first =>
    cases hab : withinB ⟨al, ah, ao⟩ ⟨bl, bh, bo⟩ with
    | false =>
      have HAB := Lib.hid hab
      clear hab
      go_wp2_with fail
      refine (within_any al ah bl bh ao bo _).mono ?_
      rintro e w11 ⟨rfl, hb11⟩
      rw [HAB.out]
      have hbz := hbz.trans (hb11.mono hbz.size)
      have HX := Lib.hid (HX.out.on hb11)
      clear a1 a2 a3 b1 b2 b3 c1 c2 c3 hb11
      obtain ⟨⟨a1, a2, a3⟩, ⟨b1, b2, b3⟩, ⟨c1, c2, c3⟩⟩ := HX.out.cells
      simp only at a1 a2 a3 b1 b2 b3 c1 c2 c3
      go_wp2_with fail
      refine (within_any al ah bl bh ao bo _).mono ?_
      rintro e w12 ⟨rfl, hb12⟩
      rw [HAB.out]
      have hbz := hbz.trans (hb12.mono hbz.size)
      have HX := Lib.hid (HX.out.on hb12)
      clear a1 a2 a3 b1 b2 b3 c1 c2 c3 hb12
      obtain ⟨⟨a1, a2, a3⟩, ⟨b1, b2, b3⟩, ⟨c1, c2, c3⟩⟩ := HX.out.cells
      simp only at a1 a2 a3 b1 b2 b3 c1 c2 c3
      go_wp2
      go_meet
      case rel => exact ⟨rfl, HX.out, hbz⟩
    | true =>
      have HAB := Lib.hid hab
      clear hab
      go_wp2_with fail
      refine (within_any al ah bl bh ao bo _).mono ?_
      rintro e w13 ⟨rfl, hb13⟩
      rw [HAB.out]
      have hbz := hbz.trans (hb13.mono hbz.size)
      have HX := Lib.hid (HX.out.on hb13)
      clear a1 a2 a3 b1 b2 b3 c1 c2 c3 hb13
      obtain ⟨⟨a1, a2, a3⟩, ⟨b1, b2, b3⟩, ⟨c1, c2, c3⟩⟩ := HX.out.cells
      simp only at a1 a2 a3 b1 b2 b3 c1 c2 c3
      cases hbc : withinB ⟨bl, bh, bo⟩ ⟨cl, ch, co⟩ with
      | false =>
        have HBC := Lib.hid hbc
        clear hbc
        go_wp2_with fail
        refine (within_any bl bh cl ch bo co _).mono ?_
        rintro e w14 ⟨rfl, hb14⟩
        rw [HBC.out]
        have hbz := hbz.trans (hb14.mono hbz.size)
        have HX := Lib.hid (HX.out.on hb14)
        clear a1 a2 a3 b1 b2 b3 c1 c2 c3 hb14
        obtain ⟨⟨a1, a2, a3⟩, ⟨b1, b2, b3⟩, ⟨c1, c2, c3⟩⟩ := HX.out.cells
        simp only at a1 a2 a3 b1 b2 b3 c1 c2 c3
        go_wp2_with fail
        refine (within_any al ah bl bh ao bo _).mono ?_
        rintro e w15 ⟨rfl, hb15⟩
        rw [HAB.out]
        have hbz := hbz.trans (hb15.mono hbz.size)
        have HX := Lib.hid (HX.out.on hb15)
        clear a1 a2 a3 b1 b2 b3 c1 c2 c3 hb15
        obtain ⟨⟨a1, a2, a3⟩, ⟨b1, b2, b3⟩, ⟨c1, c2, c3⟩⟩ := HX.out.cells
        simp only at a1 a2 a3 b1 b2 b3 c1 c2 c3
        cases hin : inB ⟨al, ah, ao⟩ key with
        | false =>
          have HIN := Lib.hid hin
          clear hin
          go_wp2_with fail
          refine (in_any al ah key ao _).mono ?_
          rintro e w16 ⟨rfl, hb16⟩
          rw [HIN.out]
          have hbz := hbz.trans (hb16.mono hbz.size)
          have HX := Lib.hid (HX.out.on hb16)
          clear a1 a2 a3 b1 b2 b3 c1 c2 c3 hb16
          obtain ⟨⟨a1, a2, a3⟩, ⟨b1, b2, b3⟩, ⟨c1, c2, c3⟩⟩ := HX.out.cells
          simp only at a1 a2 a3 b1 b2 b3 c1 c2 c3
          go_wp2
          go_meet
          case rel => exact ⟨rfl, HX.out, hbz⟩
        | true =>
          have HIN := Lib.hid hin
          have HIB := Lib.hid (within_in HAB.out hin)
          clear hin
          go_wp2_with fail
          refine (in_any al ah key ao _).mono ?_
          rintro e w17 ⟨rfl, hb17⟩
          rw [HIN.out]
          have hbz := hbz.trans (hb17.mono hbz.size)
          have HX := Lib.hid (HX.out.on hb17)
          clear a1 a2 a3 b1 b2 b3 c1 c2 c3 hb17
          obtain ⟨⟨a1, a2, a3⟩, ⟨b1, b2, b3⟩, ⟨c1, c2, c3⟩⟩ := HX.out.cells
          simp only at a1 a2 a3 b1 b2 b3 c1 c2 c3
          go_wp2_with fail
          refine (in_any bl bh key bo _).mono ?_
          rintro e w18 ⟨rfl, hb18⟩
          rw [HIB.out]
          have hbz := hbz.trans (hb18.mono hbz.size)
          have HX := Lib.hid (HX.out.on hb18)
          clear a1 a2 a3 b1 b2 b3 c1 c2 c3 hb18
          obtain ⟨⟨a1, a2, a3⟩, ⟨b1, b2, b3⟩, ⟨c1, c2, c3⟩⟩ := HX.out.cells
          simp only at a1 a2 a3 b1 b2 b3 c1 c2 c3
          go_wp2
          go_meet
          case rel => exact ⟨rfl, HX.out, hbz⟩
      | true =>
        have HBC := Lib.hid hbc
        have HAC := Lib.hid (within_trans HAB.out hbc)
        clear hbc
        go_wp2_with fail
        refine (within_any bl bh cl ch bo co _).mono ?_
        rintro e w19 ⟨rfl, hb19⟩
        rw [HBC.out]
        have hbz := hbz.trans (hb19.mono hbz.size)
        have HX := Lib.hid (HX.out.on hb19)
        clear a1 a2 a3 b1 b2 b3 c1 c2 c3 hb19
        obtain ⟨⟨a1, a2, a3⟩, ⟨b1, b2, b3⟩, ⟨c1, c2, c3⟩⟩ := HX.out.cells
        simp only at a1 a2 a3 b1 b2 b3 c1 c2 c3
        go_wp2_with fail
        refine (within_any al ah cl ch ao co _).mono ?_
        rintro e w20 ⟨rfl, hb20⟩
        rw [HAC.out]
        have hbz := hbz.trans (hb20.mono hbz.size)
        have HX := Lib.hid (HX.out.on hb20)
        clear a1 a2 a3 b1 b2 b3 c1 c2 c3 hb20
        obtain ⟨⟨a1, a2, a3⟩, ⟨b1, b2, b3⟩, ⟨c1, c2, c3⟩⟩ := HX.out.cells
        simp only at a1 a2 a3 b1 b2 b3 c1 c2 c3
        go_wp2_with fail
        refine (within_any al ah bl bh ao bo _).mono ?_
        rintro e w21 ⟨rfl, hb21⟩
        rw [HAB.out]
        have hbz := hbz.trans (hb21.mono hbz.size)
        have HX := Lib.hid (HX.out.on hb21)
        clear a1 a2 a3 b1 b2 b3 c1 c2 c3 hb21
        obtain ⟨⟨a1, a2, a3⟩, ⟨b1, b2, b3⟩, ⟨c1, c2, c3⟩⟩ := HX.out.cells
        simp only at a1 a2 a3 b1 b2 b3 c1 c2 c3
        cases hin : inB ⟨al, ah, ao⟩ key with
        | false =>
          have HIN := Lib.hid hin
          clear hin
          go_wp2_with fail
          refine (in_any al ah key ao _).mono ?_
          rintro e w22 ⟨rfl, hb22⟩
          rw [HIN.out]
          have hbz := hbz.trans (hb22.mono hbz.size)
          have HX := Lib.hid (HX.out.on hb22)
          clear a1 a2 a3 b1 b2 b3 c1 c2 c3 hb22
          obtain ⟨⟨a1, a2, a3⟩, ⟨b1, b2, b3⟩, ⟨c1, c2, c3⟩⟩ := HX.out.cells
          simp only at a1 a2 a3 b1 b2 b3 c1 c2 c3
          go_wp2
          go_meet
          case rel => exact ⟨rfl, HX.out, hbz⟩
        | true =>
          have HIN := Lib.hid hin
          have HIB := Lib.hid (within_in HAB.out hin)
          clear hin
          go_wp2_with fail
          refine (in_any al ah key ao _).mono ?_
          rintro e w23 ⟨rfl, hb23⟩
          rw [HIN.out]
          have hbz := hbz.trans (hb23.mono hbz.size)
          have HX := Lib.hid (HX.out.on hb23)
          clear a1 a2 a3 b1 b2 b3 c1 c2 c3 hb23
          obtain ⟨⟨a1, a2, a3⟩, ⟨b1, b2, b3⟩, ⟨c1, c2, c3⟩⟩ := HX.out.cells
          simp only at a1 a2 a3 b1 b2 b3 c1 c2 c3
          go_wp2_with fail
          refine (in_any bl bh key bo _).mono ?_
          rintro e w24 ⟨rfl, hb24⟩
          rw [HIB.out]
          have hbz := hbz.trans (hb24.mono hbz.size)
          have HX := Lib.hid (HX.out.on hb24)
          clear a1 a2 a3 b1 b2 b3 c1 c2 c3 hb24
          obtain ⟨⟨a1, a2, a3⟩, ⟨b1, b2, b3⟩, ⟨c1, c2, c3⟩⟩ := HX.out.cells
          simp only at a1 a2 a3 b1 b2 b3 c1 c2 c3
          go_wp2
          go_meet
          case rel => exact ⟨rfl, HX.out, hbz⟩
  case rest =>
    obtain ⟨rfl, hX, hbx⟩ := hcut
    have HX := Lib.hid hX
    clear hX a1 a2 a3 b1 b2 b3 c1 c2 c3 hbz
    have hbz := hbx
    obtain ⟨⟨a1, a2, a3⟩, ⟨b1, b2, b3⟩, ⟨c1, c2, c3⟩⟩ := HX.out.cells
    simp only at a1 a2 a3 b1 b2 b3 c1 c2 c3
    have hw := meet_within ⟨al, ah, ao⟩ ⟨bl, bh, bo⟩
    have h0 := meet_two al ah bl bh ao bo wc wc.heap.size rfl
    generalize meetL [⟨al, ah, ao⟩, ⟨bl, bh, bo⟩] = m at *
    obtain ⟨ml, mh, mo⟩ := m
    have HW := Lib.hid hw
    clear hw
    unfold Rng.v at h0
    go_wp2_with fail
    refine h0.mono ?_
    clear h0
    rintro e w5 ⟨rfl, hb5⟩
    have hbz := hbz.trans (hb5.mono hbz.size)
    have HX := Lib.hid (HX.out.on hb5)
    clear a1 a2 a3 b1 b2 b3 c1 c2 c3 hb5
    obtain ⟨⟨a1, a2, a3⟩, ⟨b1, b2, b3⟩, ⟨c1, c2, c3⟩⟩ := HX.out.cells
    simp only at a1 a2 a3 b1 b2 b3 c1 c2 c3
    have hlt5 : w.heap.size < w5.heap.size := Box.lt HX.out.1
    have hlt6 : w.heap.size + 1 < w5.heap.size := Box.lt HX.out.2.1
    go_wp2_with fail
    refine (behind_any al ah key ao _ hkk).mono ?_
    rintro e w6 ⟨rfl, hb6⟩
    have hih := in_behind ⟨al, ah, ao⟩ key other
    unfold behindR at hih
    simp only at hih
    generalize Lib.maxS al (nextS key) = hl at *
    have hbz := (hbz.alloc hbz.size (rcells ml mh mo)).trans (hb6.mono (by have := hbz.size; simp; omega))
    have HX := Lib.hid ((HX.out.push (rcells ml mh mo)).on hb6)
    have HM := Lib.hid (show RBlk w6 w5.heap.size ⟨ml, mh, mo⟩ from cells_of (Box.fresh w5 _ _) hb6)
    clear a1 a2 a3 b1 b2 b3 c1 c2 c3 hb6
    have hlt7 : w5.heap.size < w6.heap.size := Box.lt HM.out
    go_wp2
    have hby := hbz.alloc hbz.size (rcells hl ah ao)
    obtain ⟨wy, hwy⟩ : ∃ wy, wy = w6.alloc (rcells hl ah ao) := ⟨_, rfl⟩
    rw [← hwy] at hby
    have HCA := Lib.hid (show ∀ w', Below wy.heap.size wy w' → w'.cell? ⟨w.heap.size, 0, none⟩ = some (.string al) ∧ w'.cell? ⟨w.heap.size, 1, none⟩ = some (.string ah) ∧ w'.cell? ⟨w.heap.size, 2, none⟩ = some (.bool ao) from fun w' h => RBlk.cells (cells_of (by rw [hwy]; exact Box.push HX.out.1 _) h))
    have HCB := Lib.hid (show ∀ w', Below wy.heap.size wy w' → w'.cell? ⟨w.heap.size + 1, 0, none⟩ = some (.string bl) ∧ w'.cell? ⟨w.heap.size + 1, 1, none⟩ = some (.string bh) ∧ w'.cell? ⟨w.heap.size + 1, 2, none⟩ = some (.bool bo) from fun w' h => RBlk.cells (cells_of (by rw [hwy]; exact Box.push HX.out.2.1 _) h))
    have HCM := Lib.hid (show ∀ w', Below wy.heap.size wy w' → w'.cell? ⟨w5.heap.size, 0, none⟩ = some (.string ml) ∧ w'.cell? ⟨w5.heap.size, 1, none⟩ = some (.string mh) ∧ w'.cell? ⟨w5.heap.size, 2, none⟩ = some (.bool mo) from fun w' h => RBlk.cells (cells_of (by rw [hwy]; exact Box.push HM.out _) h))
    have HCH := Lib.hid (show ∀ w', Below wy.heap.size wy w' → w'.cell? ⟨w6.heap.size, 0, none⟩ = some (.string hl) ∧ w'.cell? ⟨w6.heap.size, 1, none⟩ = some (.string ah) ∧ w'.cell? ⟨w6.heap.size, 2, none⟩ = some (.bool ao) from fun w' h => RBlk.cells (r := ⟨hl, ah, ao⟩) (cells_of (by rw [hwy]; exact Box.fresh _ _ _) h))
    have HWA := Lib.hid (show ∀ w' : World, Calls Try.prog 14 #[.agg #[.string ml, .string mh, .bool mo], .agg #[.string al, .string ah, .bool ao]] w' fun e w'' => e = .returned (.bool true) ∧ Below w'.heap.size w' w'' from fun w' => by have h := within_any ml mh al ah mo ao w'; rwa [HW.out.1] at h)
    have HWB := Lib.hid (show ∀ w' : World, Calls Try.prog 14 #[.agg #[.string ml, .string mh, .bool mo], .agg #[.string bl, .string bh, .bool bo]] w' fun e w'' => e = .returned (.bool true) ∧ Below w'.heap.size w' w'' from fun w' => by have h := within_any ml mh bl bh mo bo w'; rwa [HW.out.2] at h)
    obtain ⟨gt, hgt⟩ : ∃ gt, (!(Op.bytesLess other.toList key.toList || other.toList == key.toList)) = gt := ⟨_, rfl⟩
    rw [show (!leS other key) = gt from hgt] at hih
    have HIH0 := Lib.hid hih
    have hek : emptyB ⟨al, ah, ao⟩ = true → inB ⟨al, ah, ao⟩ key = false := empty_in key
    have HEK := Lib.hid hek
    clear hih hek
    rw [← hwy]
    clear hwy
    cases hx : inB ⟨al, ah, ao⟩ other with
    | true =>
      have HIO := Lib.hid (show ∀ w' : World, Calls Try.prog 13 #[.agg #[.string al, .string ah, .bool ao], .string other] w' fun e w'' => e = .returned (.bool true) ∧ Below w'.heap.size w' w'' from fun w' => by have h := in_any al ah other ao w'; rwa [hx] at h)
      have HIH := Lib.hid (show ∀ w' : World, Calls Try.prog 13 #[.agg #[.string hl, .string ah, .bool ao], .string other] w' fun e w'' => e = .returned (.bool (true && gt)) ∧ Below w'.heap.size w' w'' from fun w' => by have h := in_any hl ah other ao w'; rwa [HIH0.out, hx] at h)
      clear hx
      cases he : emptyB ⟨al, ah, ao⟩ with
      | true =>
        have HEA := Lib.hid (show ∀ w' : World, Calls Try.prog 16 #[.agg #[.string al, .string ah, .bool ao]] w' fun e w'' => e = .returned (.bool true) ∧ Below w'.heap.size w' w'' from fun w' => by have h := empty_any al ah ao w'; rwa [he] at h)
        have HIK := Lib.hid (show ∀ w' : World, Calls Try.prog 13 #[.agg #[.string al, .string ah, .bool ao], .string key] w' fun e w'' => e = .returned (.bool false) ∧ Below w'.heap.size w' w'' from fun w' => by have h := in_any al ah key ao w'; rwa [HEK.out he] at h)
        clear he
        refine wp_region_inv [74, 75, 76, 77, 78, 79, 80, 81, 82, 83, 84, 85, 86, 87, 88, 89, 90, 91, 92, 93, 94, 95, 96, 97, 98, 99, 100, 101, 102, 103, 104, 105, 106, 107, 108, 109, 10] (by kernel_rfl) (by kernel_rfl) (fun w' => Below wy.heap.size wy w') (fun w1 w2 => Below w1.heap.size w1 w2) (WithinV11 al ah bl bh ml mh hl key other ao bo mo gt) (by kernel_rfl) (fun w1 w2 h1 h2 => h2.trans (h1.mono h2.size)) (fun t v w1 w2 h1 h2 => h2) (Below.refl _ _).drew (steps_of ?_) ?_
        · refine Steps1.cons (fun ax wx hS hG => ?_) (Steps1.cons (fun ax wx hS hG => ?_) (Steps1.cons (fun ax wx hS hG => ?_) (Steps1.cons (fun ax wx hS hG => ?_) (Steps1.cons (fun ax wx hS hG => ?_) (Steps1.cons (fun ax wx hS hG => ?_) (Steps1.cons (fun ax wx hS hG => ?_) (Steps1.cons (fun ax wx hS hG => ?_) (Steps1.cons (fun ax wx hS hG => ?_) (Steps1.cons (fun ax wx hS hG => ?_) (Steps1.cons (fun ax wx hS hG => ?_) (Steps1.cons (fun ax wx hS hG => ?_) (Steps1.cons (fun ax wx hS hG => ?_) (Steps1.cons (fun ax wx hS hG => ?_) (Steps1.cons (fun ax wx hS hG => ?_) (Steps1.cons (fun ax wx hS hG => ?_) (Steps1.cons (fun ax wx hS hG => ?_) (Steps1.cons (fun ax wx hS hG => ?_) (Steps1.cons (fun ax wx hS hG => ?_) (Steps1.cons (fun ax wx hS hG => ?_) (Steps1.cons (fun ax wx hS hG => ?_) (Steps1.cons (fun ax wx hS hG => ?_) (Steps1.cons (fun ax wx hS hG => ?_) (Steps1.cons (fun ax wx hS hG => ?_) (Steps1.cons (fun ax wx hS hG => ?_) (Steps1.cons (fun ax wx hS hG => ?_) (Steps1.cons (fun ax wx hS hG => ?_) (Steps1.cons (fun ax wx hS hG => ?_) (Steps1.cons (fun ax wx hS hG => ?_) (Steps1.cons (fun ax wx hS hG => ?_) (Steps1.cons (fun ax wx hS hG => ?_) (Steps1.cons (fun ax wx hS hG => ?_) (Steps1.cons (fun ax wx hS hG => ?_) (Steps1.cons (fun ax wx hS hG => ?_) (Steps1.cons (fun ax wx hS hG => ?_) (Steps1.cons (fun ax wx hS hG => ?_) (Steps1.cons (fun ax wx hS hG => ?_) Steps1.nil))))))))))))))))))))))))))))))))))))
          · have q11 := hG.old 11 (by kernel_rfl) (by kernel_rfl)
            obtain ⟨z0, z1, z2⟩ := HCM.out wx hS
            refine step_value (v := (.agg #[.string ml, .string mh, .bool mo])) (w' := wx) rfl rfl ?_ (Below.refl _ _) (fun d hd => by cases hd; exact rfl)
            go_simp
          · have q5 := hG.old 5 (by kernel_rfl) (by kernel_rfl)
            obtain ⟨z0, z1, z2⟩ := HCA.out wx hS
            refine step_value (v := (.agg #[.string al, .string ah, .bool ao])) (w' := wx) rfl rfl ?_ (Below.refl _ _) (fun d hd => by cases hd; exact rfl)
            go_simp
          · obtain ⟨_, q74, rfl⟩ := hG.new 74 (by kernel_rfl) (by kernel_rfl)
            obtain ⟨_, q75, rfl⟩ := hG.new 75 (by kernel_rfl) (by kernel_rfl)
            refine step_call (w1 := wx) (f := 14) (args := #[.agg #[.string ml, .string mh, .bool mo], .agg #[.string al, .string ah, .bool ao]]) rfl rfl ?_ ((HWA.out wx).mono ?_)
            · go_simp
            · rintro e w' ⟨rfl, hq⟩
              exact ⟨_, rfl, hq, fun d hd => by cases hd; exact rfl⟩
          · obtain ⟨_, q76, rfl⟩ := hG.new 76 (by kernel_rfl) (by kernel_rfl)
            refine step_value (v := .bool true) (w' := wx) rfl rfl ?_ (Below.refl _ _) (fun d hd => by cases hd; exact rfl)
            go_simp
          · have q11 := hG.old 11 (by kernel_rfl) (by kernel_rfl)
            obtain ⟨_, q77, rfl⟩ := hG.new 77 (by kernel_rfl) (by kernel_rfl)
            obtain ⟨z0, z1, z2⟩ := HCM.out wx hS
            refine step_value (v := (.agg #[.string ml, .string mh, .bool mo])) (w' := wx) rfl (by simp [Region.wanted, yielded, q77]) ?_ (Below.refl _ _) (fun d hd => by cases hd; exact rfl)
            go_simp
          · have q6 := hG.old 6 (by kernel_rfl) (by kernel_rfl)
            obtain ⟨_, q77, rfl⟩ := hG.new 77 (by kernel_rfl) (by kernel_rfl)
            obtain ⟨z0, z1, z2⟩ := HCB.out wx hS
            refine step_value (v := (.agg #[.string bl, .string bh, .bool bo])) (w' := wx) rfl (by simp [Region.wanted, yielded, q77]) ?_ (Below.refl _ _) (fun d hd => by cases hd; exact rfl)
            go_simp
          · obtain ⟨_, q78, rfl⟩ := hG.new 78 (by kernel_rfl) (by kernel_rfl)
            obtain ⟨_, q79, rfl⟩ := hG.new 79 (by kernel_rfl) (by kernel_rfl)
            obtain ⟨_, q77, rfl⟩ := hG.new 77 (by kernel_rfl) (by kernel_rfl)
            refine step_call (w1 := wx) (f := 14) (args := #[.agg #[.string ml, .string mh, .bool mo], .agg #[.string bl, .string bh, .bool bo]]) rfl (by simp [Region.wanted, yielded, q77]) ?_ ((HWB.out wx).mono ?_)
            · go_simp
            · rintro e w' ⟨rfl, hq⟩
              exact ⟨_, rfl, hq, fun d hd => by cases hd; exact rfl⟩
          · obtain ⟨_, q77, rfl⟩ := hG.new 77 (by kernel_rfl) (by kernel_rfl)
            obtain ⟨_, q80, rfl⟩ := hG.new 80 (by kernel_rfl) (by kernel_rfl)
            refine step_value (v := .bool true) (w' := wx) rfl rfl ?_ (Below.refl _ _) (fun d hd => by cases hd; exact rfl)
            go_simp
          · obtain ⟨_, q81, rfl⟩ := hG.new 81 (by kernel_rfl) (by kernel_rfl)
            refine step_value (v := .bool true) (w' := wx) rfl rfl ?_ (Below.refl _ _) (fun d hd => by cases hd; exact rfl)
            go_simp
          · have q12 := hG.old 12 (by kernel_rfl) (by kernel_rfl)
            obtain ⟨_, q82, rfl⟩ := hG.new 82 (by kernel_rfl) (by kernel_rfl)
            obtain ⟨z0, z1, z2⟩ := HCH.out wx hS
            refine step_value (v := (.agg #[.string hl, .string ah, .bool ao])) (w' := wx) rfl (by simp [Region.wanted, yielded, q82]) ?_ (Below.refl _ _) (fun d hd => by cases hd; exact rfl)
            go_simp
          · have q4 := hG.old 4 (by kernel_rfl) (by kernel_rfl)
            obtain ⟨_, q82, rfl⟩ := hG.new 82 (by kernel_rfl) (by kernel_rfl)
            refine step_value (v := .string other) (w' := wx) rfl (by simp [Region.wanted, yielded, q82]) ?_ (Below.refl _ _) (fun d hd => by cases hd; exact rfl)
            go_simp
          · obtain ⟨_, q83, rfl⟩ := hG.new 83 (by kernel_rfl) (by kernel_rfl)
            obtain ⟨_, q84, rfl⟩ := hG.new 84 (by kernel_rfl) (by kernel_rfl)
            obtain ⟨_, q82, rfl⟩ := hG.new 82 (by kernel_rfl) (by kernel_rfl)
            refine step_call (w1 := wx) (f := 13) (args := #[.agg #[.string hl, .string ah, .bool ao], .string other]) rfl (by simp [Region.wanted, yielded, q82]) ?_ ((HIH.out wx).mono ?_)
            · go_simp
            · rintro e w' ⟨rfl, hq⟩
              exact ⟨_, rfl, hq, fun d hd => by cases hd; exact rfl⟩
          · have q5 := hG.old 5 (by kernel_rfl) (by kernel_rfl)
            obtain ⟨_, q82, rfl⟩ := hG.new 82 (by kernel_rfl) (by kernel_rfl)
            obtain ⟨z0, z1, z2⟩ := HCA.out wx hS
            refine step_value (v := (.agg #[.string al, .string ah, .bool ao])) (w' := wx) rfl (by simp [Region.wanted, yielded, q82]) ?_ (Below.refl _ _) (fun d hd => by cases hd; exact rfl)
            go_simp
          · have q4 := hG.old 4 (by kernel_rfl) (by kernel_rfl)
            obtain ⟨_, q82, rfl⟩ := hG.new 82 (by kernel_rfl) (by kernel_rfl)
            refine step_value (v := .string other) (w' := wx) rfl (by simp [Region.wanted, yielded, q82]) ?_ (Below.refl _ _) (fun d hd => by cases hd; exact rfl)
            go_simp
          · obtain ⟨_, q86, rfl⟩ := hG.new 86 (by kernel_rfl) (by kernel_rfl)
            obtain ⟨_, q87, rfl⟩ := hG.new 87 (by kernel_rfl) (by kernel_rfl)
            obtain ⟨_, q82, rfl⟩ := hG.new 82 (by kernel_rfl) (by kernel_rfl)
            refine step_call (w1 := wx) (f := 13) (args := #[.agg #[.string al, .string ah, .bool ao], .string other]) rfl (by simp [Region.wanted, yielded, q82]) ?_ ((HIO.out wx).mono ?_)
            · go_simp
            · rintro e w' ⟨rfl, hq⟩
              exact ⟨_, rfl, hq, fun d hd => by cases hd; exact rfl⟩
          · obtain ⟨_, q88, rfl⟩ := hG.new 88 (by kernel_rfl) (by kernel_rfl)
            obtain ⟨_, q82, rfl⟩ := hG.new 82 (by kernel_rfl) (by kernel_rfl)
            refine step_value (v := .bool true) (w' := wx) rfl (by simp [Region.wanted, yielded, q82]) ?_ (Below.refl _ _) (fun d hd => by cases hd; exact rfl)
            go_simp
          · have q4 := hG.old 4 (by kernel_rfl) (by kernel_rfl)
            obtain ⟨_, q89, rfl⟩ := hG.new 89 (by kernel_rfl) (by kernel_rfl)
            refine step_value (v := .string other) (w' := wx) rfl (by simp [Region.wanted, yielded, q89]) ?_ (Below.refl _ _) (fun d hd => by cases hd; exact rfl)
            go_simp
          · have q3 := hG.old 3 (by kernel_rfl) (by kernel_rfl)
            obtain ⟨_, q89, rfl⟩ := hG.new 89 (by kernel_rfl) (by kernel_rfl)
            refine step_value (v := .string key) (w' := wx) rfl (by simp [Region.wanted, yielded, q89]) ?_ (Below.refl _ _) (fun d hd => by cases hd; exact rfl)
            go_simp
          · obtain ⟨_, q90, rfl⟩ := hG.new 90 (by kernel_rfl) (by kernel_rfl)
            obtain ⟨_, q91, rfl⟩ := hG.new 91 (by kernel_rfl) (by kernel_rfl)
            obtain ⟨_, q89, rfl⟩ := hG.new 89 (by kernel_rfl) (by kernel_rfl)
            refine step_value (v := .bool gt) (w' := wx) rfl (by simp [Region.wanted, yielded, q89]) ?_ (Below.refl _ _) (fun d hd => by cases hd; exact rfl)
            go_simp
          · obtain ⟨_, q89, rfl⟩ := hG.new 89 (by kernel_rfl) (by kernel_rfl)
            obtain ⟨_, q92, rfl⟩ := hG.new 92 (by kernel_rfl) (by kernel_rfl)
            obtain ⟨_, q82, rfl⟩ := hG.new 82 (by kernel_rfl) (by kernel_rfl)
            refine step_value (v := .bool gt) (w' := wx) rfl (by simp [Region.wanted, yielded, q82]) ?_ (Below.refl _ _) (fun d hd => by cases hd; exact rfl)
            go_simp
          · obtain ⟨_, q85, rfl⟩ := hG.new 85 (by kernel_rfl) (by kernel_rfl)
            obtain ⟨_, q93, rfl⟩ := hG.new 93 (by kernel_rfl) (by kernel_rfl)
            obtain ⟨_, q82, rfl⟩ := hG.new 82 (by kernel_rfl) (by kernel_rfl)
            refine step_value (v := .bool true) (w' := wx) rfl (by simp [Region.wanted, yielded, q82]) ?_ (Below.refl _ _) (fun d hd => by cases hd; exact rfl)
            go_simp
          · obtain ⟨_, q82, rfl⟩ := hG.new 82 (by kernel_rfl) (by kernel_rfl)
            obtain ⟨_, q94, rfl⟩ := hG.new 94 (by kernel_rfl) (by kernel_rfl)
            refine step_value (v := .bool true) (w' := wx) rfl rfl ?_ (Below.refl _ _) (fun d hd => by cases hd; exact rfl)
            go_simp
          · obtain ⟨_, q95, rfl⟩ := hG.new 95 (by kernel_rfl) (by kernel_rfl)
            refine step_value (v := .bool true) (w' := wx) rfl rfl ?_ (Below.refl _ _) (fun d hd => by cases hd; exact rfl)
            go_simp
          · have q5 := hG.old 5 (by kernel_rfl) (by kernel_rfl)
            obtain ⟨_, q96, rfl⟩ := hG.new 96 (by kernel_rfl) (by kernel_rfl)
            obtain ⟨z0, z1, z2⟩ := HCA.out wx hS
            refine step_value (v := (.agg #[.string al, .string ah, .bool ao])) (w' := wx) rfl (by simp [Region.wanted, yielded, q96]) ?_ (Below.refl _ _) (fun d hd => by cases hd; exact rfl)
            go_simp
          · obtain ⟨_, q97, rfl⟩ := hG.new 97 (by kernel_rfl) (by kernel_rfl)
            obtain ⟨_, q96, rfl⟩ := hG.new 96 (by kernel_rfl) (by kernel_rfl)
            refine step_call (w1 := wx) (f := 16) (args := #[.agg #[.string al, .string ah, .bool ao]]) rfl (by simp [Region.wanted, yielded, q96]) ?_ ((HEA.out wx).mono ?_)
            · go_simp
            · rintro e w' ⟨rfl, hq⟩
              exact ⟨_, rfl, hq, fun d hd => by cases hd; exact rfl⟩
          · obtain ⟨_, q98, rfl⟩ := hG.new 98 (by kernel_rfl) (by kernel_rfl)
            obtain ⟨_, q96, rfl⟩ := hG.new 96 (by kernel_rfl) (by kernel_rfl)
            refine step_value (v := .bool false) (w' := wx) rfl (by simp [Region.wanted, yielded, q96]) ?_ (Below.refl _ _) (fun d hd => by cases hd; exact rfl)
            go_simp
          · obtain ⟨_, q99, rfl⟩ := hG.new 99 (by kernel_rfl) (by kernel_rfl)
            obtain ⟨_, q96, rfl⟩ := hG.new 96 (by kernel_rfl) (by kernel_rfl)
            refine step_value (v := .bool false) (w' := wx) rfl (by simp [Region.wanted, yielded, q96]) ?_ (Below.refl _ _) (fun d hd => by cases hd; exact rfl)
            go_simp
          · have q5 := hG.old 5 (by kernel_rfl) (by kernel_rfl)
            obtain ⟨_, q100, rfl⟩ := hG.new 100 (by kernel_rfl) (by kernel_rfl)
            obtain ⟨z0, z1, z2⟩ := HCA.out wx hS
            refine step_value (v := (.agg #[.string al, .string ah, .bool ao])) (w' := wx) rfl (by simp [Region.wanted, yielded, q100]) ?_ (Below.refl _ _) (fun d hd => by cases hd; exact rfl)
            go_simp
          · have q3 := hG.old 3 (by kernel_rfl) (by kernel_rfl)
            obtain ⟨_, q100, rfl⟩ := hG.new 100 (by kernel_rfl) (by kernel_rfl)
            refine step_value (v := .string key) (w' := wx) rfl (by simp [Region.wanted, yielded, q100]) ?_ (Below.refl _ _) (fun d hd => by cases hd; exact rfl)
            go_simp
          · obtain ⟨_, q101, rfl⟩ := hG.new 101 (by kernel_rfl) (by kernel_rfl)
            obtain ⟨_, q102, rfl⟩ := hG.new 102 (by kernel_rfl) (by kernel_rfl)
            obtain ⟨_, q100, rfl⟩ := hG.new 100 (by kernel_rfl) (by kernel_rfl)
            refine step_call (w1 := wx) (f := 13) (args := #[.agg #[.string al, .string ah, .bool ao], .string key]) rfl (by simp [Region.wanted, yielded, q100]) ?_ ((HIK.out wx).mono ?_)
            · go_simp
            · rintro e w' ⟨rfl, hq⟩
              exact ⟨_, rfl, hq, fun d hd => by cases hd; exact rfl⟩
          · obtain ⟨_, q103, rfl⟩ := hG.new 103 (by kernel_rfl) (by kernel_rfl)
            obtain ⟨_, q100, rfl⟩ := hG.new 100 (by kernel_rfl) (by kernel_rfl)
            refine step_value (v := .bool true) (w' := wx) rfl (by simp [Region.wanted, yielded, q100]) ?_ (Below.refl _ _) (fun d hd => by cases hd; exact rfl)
            go_simp
          · obtain ⟨_, q100, rfl⟩ := hG.new 100 (by kernel_rfl) (by kernel_rfl)
            obtain ⟨_, q104, rfl⟩ := hG.new 104 (by kernel_rfl) (by kernel_rfl)
            obtain ⟨_, q96, rfl⟩ := hG.new 96 (by kernel_rfl) (by kernel_rfl)
            refine step_value (v := .bool true) (w' := wx) rfl (by simp [Region.wanted, yielded, q96]) ?_ (Below.refl _ _) (fun d hd => by cases hd; exact rfl)
            go_simp
          · obtain ⟨_, q96, rfl⟩ := hG.new 96 (by kernel_rfl) (by kernel_rfl)
            obtain ⟨_, q105, rfl⟩ := hG.new 105 (by kernel_rfl) (by kernel_rfl)
            refine step_value (v := .bool true) (w' := wx) rfl rfl ?_ (Below.refl _ _) (fun d hd => by cases hd; exact rfl)
            go_simp
          · obtain ⟨_, q106, rfl⟩ := hG.new 106 (by kernel_rfl) (by kernel_rfl)
            refine step_value (v := .bool true) (w' := wx) rfl rfl ?_ (Below.refl _ _) (fun d hd => by cases hd; exact rfl)
            go_simp
          · obtain ⟨_, q107, rfl⟩ := hG.new 107 (by kernel_rfl) (by kernel_rfl)
            refine step_call (w1 := wx) (f := 8) (args := #[]) rfl (by simp [Region.wanted, yielded, q107]) ?_ ((awake_true wx).mono ?_)
            · go_simp
            · rintro e w' ⟨rfl, hq⟩
              exact ⟨_, rfl, hq, fun d hd => by cases hd; exact rfl⟩
          · obtain ⟨_, q107, rfl⟩ := hG.new 107 (by kernel_rfl) (by kernel_rfl)
            obtain ⟨_, q108, rfl⟩ := hG.new 108 (by kernel_rfl) (by kernel_rfl)
            refine step_value (v := .bool true) (w' := wx) rfl rfl ?_ (Below.refl _ _) (fun d hd => by cases hd; exact rfl)
            go_simp
          · obtain ⟨_, q109, rfl⟩ := hG.new 109 (by kernel_rfl) (by kernel_rfl)
            refine step_value (v := .bool true) (w' := wx) rfl rfl ?_ (Below.refl _ _) (fun d hd => by cases hd; exact rfl)
            go_simp
        · intro f w' hS hV
          have h10 : f 10 = .bool true := hV 10 (by decide)
          simp only [puts, Act.put, List.setIfInBounds_toArray, List.set_cons_succ, List.set_cons_zero]
          go_wp2
          go_ret
          try rw [h10]
          exact ⟨rfl, hby.trans (hS.mono hby.size)⟩
      | false =>
        have HEA := Lib.hid (show ∀ w' : World, Calls Try.prog 16 #[.agg #[.string al, .string ah, .bool ao]] w' fun e w'' => e = .returned (.bool false) ∧ Below w'.heap.size w' w'' from fun w' => by have h := empty_any al ah ao w'; rwa [he] at h)
        clear he
        refine wp_region_inv [74, 75, 76, 77, 78, 79, 80, 81, 82, 83, 84, 85, 86, 87, 88, 89, 90, 91, 92, 93, 94, 95, 96, 97, 98, 99, 100, 101, 102, 103, 104, 105, 106, 107, 108, 109, 10] (by kernel_rfl) (by kernel_rfl) (fun w' => Below wy.heap.size wy w') (fun w1 w2 => Below w1.heap.size w1 w2) (WithinV10 al ah bl bh ml mh hl key other ao bo mo gt) (by kernel_rfl) (fun w1 w2 h1 h2 => h2.trans (h1.mono h2.size)) (fun t v w1 w2 h1 h2 => h2) (Below.refl _ _).drew (steps_of ?_) ?_
        · refine Steps1.cons (fun ax wx hS hG => ?_) (Steps1.cons (fun ax wx hS hG => ?_) (Steps1.cons (fun ax wx hS hG => ?_) (Steps1.cons (fun ax wx hS hG => ?_) (Steps1.cons (fun ax wx hS hG => ?_) (Steps1.cons (fun ax wx hS hG => ?_) (Steps1.cons (fun ax wx hS hG => ?_) (Steps1.cons (fun ax wx hS hG => ?_) (Steps1.cons (fun ax wx hS hG => ?_) (Steps1.cons (fun ax wx hS hG => ?_) (Steps1.cons (fun ax wx hS hG => ?_) (Steps1.cons (fun ax wx hS hG => ?_) (Steps1.cons (fun ax wx hS hG => ?_) (Steps1.cons (fun ax wx hS hG => ?_) (Steps1.cons (fun ax wx hS hG => ?_) (Steps1.cons (fun ax wx hS hG => ?_) (Steps1.cons (fun ax wx hS hG => ?_) (Steps1.cons (fun ax wx hS hG => ?_) (Steps1.cons (fun ax wx hS hG => ?_) (Steps1.cons (fun ax wx hS hG => ?_) (Steps1.cons (fun ax wx hS hG => ?_) (Steps1.cons (fun ax wx hS hG => ?_) (Steps1.cons (fun ax wx hS hG => ?_) (Steps1.cons (fun ax wx hS hG => ?_) (Steps1.cons (fun ax wx hS hG => ?_) (Steps1.cons (fun ax wx hS hG => ?_) (Steps1.cons (fun ax wx hS hG => ?_) (Steps1.cons (fun ax wx hS hG => ?_) (Steps1.cons (fun ax wx hS hG => ?_) (Steps1.cons (fun ax wx hS hG => ?_) (Steps1.cons (fun ax wx hS hG => ?_) (Steps1.cons (fun ax wx hS hG => ?_) (Steps1.cons (fun ax wx hS hG => ?_) (Steps1.cons (fun ax wx hS hG => ?_) (Steps1.cons (fun ax wx hS hG => ?_) (Steps1.cons (fun ax wx hS hG => ?_) (Steps1.cons (fun ax wx hS hG => ?_) Steps1.nil))))))))))))))))))))))))))))))))))))
          · have q11 := hG.old 11 (by kernel_rfl) (by kernel_rfl)
            obtain ⟨z0, z1, z2⟩ := HCM.out wx hS
            refine step_value (v := (.agg #[.string ml, .string mh, .bool mo])) (w' := wx) rfl rfl ?_ (Below.refl _ _) (fun d hd => by cases hd; exact rfl)
            go_simp
          · have q5 := hG.old 5 (by kernel_rfl) (by kernel_rfl)
            obtain ⟨z0, z1, z2⟩ := HCA.out wx hS
            refine step_value (v := (.agg #[.string al, .string ah, .bool ao])) (w' := wx) rfl rfl ?_ (Below.refl _ _) (fun d hd => by cases hd; exact rfl)
            go_simp
          · obtain ⟨_, q74, rfl⟩ := hG.new 74 (by kernel_rfl) (by kernel_rfl)
            obtain ⟨_, q75, rfl⟩ := hG.new 75 (by kernel_rfl) (by kernel_rfl)
            refine step_call (w1 := wx) (f := 14) (args := #[.agg #[.string ml, .string mh, .bool mo], .agg #[.string al, .string ah, .bool ao]]) rfl rfl ?_ ((HWA.out wx).mono ?_)
            · go_simp
            · rintro e w' ⟨rfl, hq⟩
              exact ⟨_, rfl, hq, fun d hd => by cases hd; exact rfl⟩
          · obtain ⟨_, q76, rfl⟩ := hG.new 76 (by kernel_rfl) (by kernel_rfl)
            refine step_value (v := .bool true) (w' := wx) rfl rfl ?_ (Below.refl _ _) (fun d hd => by cases hd; exact rfl)
            go_simp
          · have q11 := hG.old 11 (by kernel_rfl) (by kernel_rfl)
            obtain ⟨_, q77, rfl⟩ := hG.new 77 (by kernel_rfl) (by kernel_rfl)
            obtain ⟨z0, z1, z2⟩ := HCM.out wx hS
            refine step_value (v := (.agg #[.string ml, .string mh, .bool mo])) (w' := wx) rfl (by simp [Region.wanted, yielded, q77]) ?_ (Below.refl _ _) (fun d hd => by cases hd; exact rfl)
            go_simp
          · have q6 := hG.old 6 (by kernel_rfl) (by kernel_rfl)
            obtain ⟨_, q77, rfl⟩ := hG.new 77 (by kernel_rfl) (by kernel_rfl)
            obtain ⟨z0, z1, z2⟩ := HCB.out wx hS
            refine step_value (v := (.agg #[.string bl, .string bh, .bool bo])) (w' := wx) rfl (by simp [Region.wanted, yielded, q77]) ?_ (Below.refl _ _) (fun d hd => by cases hd; exact rfl)
            go_simp
          · obtain ⟨_, q78, rfl⟩ := hG.new 78 (by kernel_rfl) (by kernel_rfl)
            obtain ⟨_, q79, rfl⟩ := hG.new 79 (by kernel_rfl) (by kernel_rfl)
            obtain ⟨_, q77, rfl⟩ := hG.new 77 (by kernel_rfl) (by kernel_rfl)
            refine step_call (w1 := wx) (f := 14) (args := #[.agg #[.string ml, .string mh, .bool mo], .agg #[.string bl, .string bh, .bool bo]]) rfl (by simp [Region.wanted, yielded, q77]) ?_ ((HWB.out wx).mono ?_)
            · go_simp
            · rintro e w' ⟨rfl, hq⟩
              exact ⟨_, rfl, hq, fun d hd => by cases hd; exact rfl⟩
          · obtain ⟨_, q77, rfl⟩ := hG.new 77 (by kernel_rfl) (by kernel_rfl)
            obtain ⟨_, q80, rfl⟩ := hG.new 80 (by kernel_rfl) (by kernel_rfl)
            refine step_value (v := .bool true) (w' := wx) rfl rfl ?_ (Below.refl _ _) (fun d hd => by cases hd; exact rfl)
            go_simp
          · obtain ⟨_, q81, rfl⟩ := hG.new 81 (by kernel_rfl) (by kernel_rfl)
            refine step_value (v := .bool true) (w' := wx) rfl rfl ?_ (Below.refl _ _) (fun d hd => by cases hd; exact rfl)
            go_simp
          · have q12 := hG.old 12 (by kernel_rfl) (by kernel_rfl)
            obtain ⟨_, q82, rfl⟩ := hG.new 82 (by kernel_rfl) (by kernel_rfl)
            obtain ⟨z0, z1, z2⟩ := HCH.out wx hS
            refine step_value (v := (.agg #[.string hl, .string ah, .bool ao])) (w' := wx) rfl (by simp [Region.wanted, yielded, q82]) ?_ (Below.refl _ _) (fun d hd => by cases hd; exact rfl)
            go_simp
          · have q4 := hG.old 4 (by kernel_rfl) (by kernel_rfl)
            obtain ⟨_, q82, rfl⟩ := hG.new 82 (by kernel_rfl) (by kernel_rfl)
            refine step_value (v := .string other) (w' := wx) rfl (by simp [Region.wanted, yielded, q82]) ?_ (Below.refl _ _) (fun d hd => by cases hd; exact rfl)
            go_simp
          · obtain ⟨_, q83, rfl⟩ := hG.new 83 (by kernel_rfl) (by kernel_rfl)
            obtain ⟨_, q84, rfl⟩ := hG.new 84 (by kernel_rfl) (by kernel_rfl)
            obtain ⟨_, q82, rfl⟩ := hG.new 82 (by kernel_rfl) (by kernel_rfl)
            refine step_call (w1 := wx) (f := 13) (args := #[.agg #[.string hl, .string ah, .bool ao], .string other]) rfl (by simp [Region.wanted, yielded, q82]) ?_ ((HIH.out wx).mono ?_)
            · go_simp
            · rintro e w' ⟨rfl, hq⟩
              exact ⟨_, rfl, hq, fun d hd => by cases hd; exact rfl⟩
          · have q5 := hG.old 5 (by kernel_rfl) (by kernel_rfl)
            obtain ⟨_, q82, rfl⟩ := hG.new 82 (by kernel_rfl) (by kernel_rfl)
            obtain ⟨z0, z1, z2⟩ := HCA.out wx hS
            refine step_value (v := (.agg #[.string al, .string ah, .bool ao])) (w' := wx) rfl (by simp [Region.wanted, yielded, q82]) ?_ (Below.refl _ _) (fun d hd => by cases hd; exact rfl)
            go_simp
          · have q4 := hG.old 4 (by kernel_rfl) (by kernel_rfl)
            obtain ⟨_, q82, rfl⟩ := hG.new 82 (by kernel_rfl) (by kernel_rfl)
            refine step_value (v := .string other) (w' := wx) rfl (by simp [Region.wanted, yielded, q82]) ?_ (Below.refl _ _) (fun d hd => by cases hd; exact rfl)
            go_simp
          · obtain ⟨_, q86, rfl⟩ := hG.new 86 (by kernel_rfl) (by kernel_rfl)
            obtain ⟨_, q87, rfl⟩ := hG.new 87 (by kernel_rfl) (by kernel_rfl)
            obtain ⟨_, q82, rfl⟩ := hG.new 82 (by kernel_rfl) (by kernel_rfl)
            refine step_call (w1 := wx) (f := 13) (args := #[.agg #[.string al, .string ah, .bool ao], .string other]) rfl (by simp [Region.wanted, yielded, q82]) ?_ ((HIO.out wx).mono ?_)
            · go_simp
            · rintro e w' ⟨rfl, hq⟩
              exact ⟨_, rfl, hq, fun d hd => by cases hd; exact rfl⟩
          · obtain ⟨_, q88, rfl⟩ := hG.new 88 (by kernel_rfl) (by kernel_rfl)
            obtain ⟨_, q82, rfl⟩ := hG.new 82 (by kernel_rfl) (by kernel_rfl)
            refine step_value (v := .bool true) (w' := wx) rfl (by simp [Region.wanted, yielded, q82]) ?_ (Below.refl _ _) (fun d hd => by cases hd; exact rfl)
            go_simp
          · have q4 := hG.old 4 (by kernel_rfl) (by kernel_rfl)
            obtain ⟨_, q89, rfl⟩ := hG.new 89 (by kernel_rfl) (by kernel_rfl)
            refine step_value (v := .string other) (w' := wx) rfl (by simp [Region.wanted, yielded, q89]) ?_ (Below.refl _ _) (fun d hd => by cases hd; exact rfl)
            go_simp
          · have q3 := hG.old 3 (by kernel_rfl) (by kernel_rfl)
            obtain ⟨_, q89, rfl⟩ := hG.new 89 (by kernel_rfl) (by kernel_rfl)
            refine step_value (v := .string key) (w' := wx) rfl (by simp [Region.wanted, yielded, q89]) ?_ (Below.refl _ _) (fun d hd => by cases hd; exact rfl)
            go_simp
          · obtain ⟨_, q90, rfl⟩ := hG.new 90 (by kernel_rfl) (by kernel_rfl)
            obtain ⟨_, q91, rfl⟩ := hG.new 91 (by kernel_rfl) (by kernel_rfl)
            obtain ⟨_, q89, rfl⟩ := hG.new 89 (by kernel_rfl) (by kernel_rfl)
            refine step_value (v := .bool gt) (w' := wx) rfl (by simp [Region.wanted, yielded, q89]) ?_ (Below.refl _ _) (fun d hd => by cases hd; exact rfl)
            go_simp
          · obtain ⟨_, q89, rfl⟩ := hG.new 89 (by kernel_rfl) (by kernel_rfl)
            obtain ⟨_, q92, rfl⟩ := hG.new 92 (by kernel_rfl) (by kernel_rfl)
            obtain ⟨_, q82, rfl⟩ := hG.new 82 (by kernel_rfl) (by kernel_rfl)
            refine step_value (v := .bool gt) (w' := wx) rfl (by simp [Region.wanted, yielded, q82]) ?_ (Below.refl _ _) (fun d hd => by cases hd; exact rfl)
            go_simp
          · obtain ⟨_, q85, rfl⟩ := hG.new 85 (by kernel_rfl) (by kernel_rfl)
            obtain ⟨_, q93, rfl⟩ := hG.new 93 (by kernel_rfl) (by kernel_rfl)
            obtain ⟨_, q82, rfl⟩ := hG.new 82 (by kernel_rfl) (by kernel_rfl)
            refine step_value (v := .bool true) (w' := wx) rfl (by simp [Region.wanted, yielded, q82]) ?_ (Below.refl _ _) (fun d hd => by cases hd; exact rfl)
            go_simp
          · obtain ⟨_, q82, rfl⟩ := hG.new 82 (by kernel_rfl) (by kernel_rfl)
            obtain ⟨_, q94, rfl⟩ := hG.new 94 (by kernel_rfl) (by kernel_rfl)
            refine step_value (v := .bool true) (w' := wx) rfl rfl ?_ (Below.refl _ _) (fun d hd => by cases hd; exact rfl)
            go_simp
          · obtain ⟨_, q95, rfl⟩ := hG.new 95 (by kernel_rfl) (by kernel_rfl)
            refine step_value (v := .bool true) (w' := wx) rfl rfl ?_ (Below.refl _ _) (fun d hd => by cases hd; exact rfl)
            go_simp
          · have q5 := hG.old 5 (by kernel_rfl) (by kernel_rfl)
            obtain ⟨_, q96, rfl⟩ := hG.new 96 (by kernel_rfl) (by kernel_rfl)
            obtain ⟨z0, z1, z2⟩ := HCA.out wx hS
            refine step_value (v := (.agg #[.string al, .string ah, .bool ao])) (w' := wx) rfl (by simp [Region.wanted, yielded, q96]) ?_ (Below.refl _ _) (fun d hd => by cases hd; exact rfl)
            go_simp
          · obtain ⟨_, q97, rfl⟩ := hG.new 97 (by kernel_rfl) (by kernel_rfl)
            obtain ⟨_, q96, rfl⟩ := hG.new 96 (by kernel_rfl) (by kernel_rfl)
            refine step_call (w1 := wx) (f := 16) (args := #[.agg #[.string al, .string ah, .bool ao]]) rfl (by simp [Region.wanted, yielded, q96]) ?_ ((HEA.out wx).mono ?_)
            · go_simp
            · rintro e w' ⟨rfl, hq⟩
              exact ⟨_, rfl, hq, fun d hd => by cases hd; exact rfl⟩
          · obtain ⟨_, q98, rfl⟩ := hG.new 98 (by kernel_rfl) (by kernel_rfl)
            obtain ⟨_, q96, rfl⟩ := hG.new 96 (by kernel_rfl) (by kernel_rfl)
            refine step_value (v := .bool true) (w' := wx) rfl (by simp [Region.wanted, yielded, q96]) ?_ (Below.refl _ _) (fun d hd => by cases hd; exact rfl)
            go_simp
          · obtain ⟨_, q99, rfl⟩ := hG.new 99 (by kernel_rfl) (by kernel_rfl)
            obtain ⟨_, q96, rfl⟩ := hG.new 96 (by kernel_rfl) (by kernel_rfl)
            refine step_value (v := .bool true) (w' := wx) rfl (by simp [Region.wanted, yielded, q96]) ?_ (Below.refl _ _) (fun d hd => by cases hd; exact rfl)
            go_simp
          · obtain ⟨_, q100, rfl⟩ := hG.new 100 (by kernel_rfl) (by kernel_rfl)
            refine step_past rfl (by simp [Region.wanted, yielded, q100]) (Below.refl _ _) (fun d hd => by cases hd; exact rfl)
          · obtain ⟨_, q100, rfl⟩ := hG.new 100 (by kernel_rfl) (by kernel_rfl)
            refine step_past rfl (by simp [Region.wanted, yielded, q100]) (Below.refl _ _) (fun d hd => by cases hd; exact rfl)
          · obtain ⟨_, q100, rfl⟩ := hG.new 100 (by kernel_rfl) (by kernel_rfl)
            refine step_past rfl (by simp [Region.wanted, yielded, q100]) (Below.refl _ _) (fun d hd => by cases hd; exact rfl)
          · obtain ⟨_, q100, rfl⟩ := hG.new 100 (by kernel_rfl) (by kernel_rfl)
            refine step_past rfl (by simp [Region.wanted, yielded, q100]) (Below.refl _ _) (fun d hd => by cases hd; exact rfl)
          · obtain ⟨_, q100, rfl⟩ := hG.new 100 (by kernel_rfl) (by kernel_rfl)
            obtain ⟨_, q104, rfl⟩ := hG.new 104 (by kernel_rfl) (by kernel_rfl)
            obtain ⟨_, q96, rfl⟩ := hG.new 96 (by kernel_rfl) (by kernel_rfl)
            refine step_value (v := .bool true) (w' := wx) rfl (by simp [Region.wanted, yielded, q96]) ?_ (Below.refl _ _) (fun d hd => by cases hd; exact rfl)
            go_simp
          · obtain ⟨_, q96, rfl⟩ := hG.new 96 (by kernel_rfl) (by kernel_rfl)
            obtain ⟨_, q105, rfl⟩ := hG.new 105 (by kernel_rfl) (by kernel_rfl)
            refine step_value (v := .bool true) (w' := wx) rfl rfl ?_ (Below.refl _ _) (fun d hd => by cases hd; exact rfl)
            go_simp
          · obtain ⟨_, q106, rfl⟩ := hG.new 106 (by kernel_rfl) (by kernel_rfl)
            refine step_value (v := .bool true) (w' := wx) rfl rfl ?_ (Below.refl _ _) (fun d hd => by cases hd; exact rfl)
            go_simp
          · obtain ⟨_, q107, rfl⟩ := hG.new 107 (by kernel_rfl) (by kernel_rfl)
            refine step_call (w1 := wx) (f := 8) (args := #[]) rfl (by simp [Region.wanted, yielded, q107]) ?_ ((awake_true wx).mono ?_)
            · go_simp
            · rintro e w' ⟨rfl, hq⟩
              exact ⟨_, rfl, hq, fun d hd => by cases hd; exact rfl⟩
          · obtain ⟨_, q107, rfl⟩ := hG.new 107 (by kernel_rfl) (by kernel_rfl)
            obtain ⟨_, q108, rfl⟩ := hG.new 108 (by kernel_rfl) (by kernel_rfl)
            refine step_value (v := .bool true) (w' := wx) rfl rfl ?_ (Below.refl _ _) (fun d hd => by cases hd; exact rfl)
            go_simp
          · obtain ⟨_, q109, rfl⟩ := hG.new 109 (by kernel_rfl) (by kernel_rfl)
            refine step_value (v := .bool true) (w' := wx) rfl rfl ?_ (Below.refl _ _) (fun d hd => by cases hd; exact rfl)
            go_simp
        · intro f w' hS hV
          have h10 : f 10 = .bool true := hV 10 (by decide)
          simp only [puts, Act.put, List.setIfInBounds_toArray, List.set_cons_succ, List.set_cons_zero]
          go_wp2
          go_ret
          try rw [h10]
          exact ⟨rfl, hby.trans (hS.mono hby.size)⟩
    | false =>
      have HIO := Lib.hid (show ∀ w' : World, Calls Try.prog 13 #[.agg #[.string al, .string ah, .bool ao], .string other] w' fun e w'' => e = .returned (.bool false) ∧ Below w'.heap.size w' w'' from fun w' => by have h := in_any al ah other ao w'; rwa [hx] at h)
      have HIH := Lib.hid (show ∀ w' : World, Calls Try.prog 13 #[.agg #[.string hl, .string ah, .bool ao], .string other] w' fun e w'' => e = .returned (.bool (false && gt)) ∧ Below w'.heap.size w' w'' from fun w' => by have h := in_any hl ah other ao w'; rwa [HIH0.out, hx] at h)
      clear hx
      cases he : emptyB ⟨al, ah, ao⟩ with
      | true =>
        have HEA := Lib.hid (show ∀ w' : World, Calls Try.prog 16 #[.agg #[.string al, .string ah, .bool ao]] w' fun e w'' => e = .returned (.bool true) ∧ Below w'.heap.size w' w'' from fun w' => by have h := empty_any al ah ao w'; rwa [he] at h)
        have HIK := Lib.hid (show ∀ w' : World, Calls Try.prog 13 #[.agg #[.string al, .string ah, .bool ao], .string key] w' fun e w'' => e = .returned (.bool false) ∧ Below w'.heap.size w' w'' from fun w' => by have h := in_any al ah key ao w'; rwa [HEK.out he] at h)
        clear he
        refine wp_region_inv [74, 75, 76, 77, 78, 79, 80, 81, 82, 83, 84, 85, 86, 87, 88, 89, 90, 91, 92, 93, 94, 95, 96, 97, 98, 99, 100, 101, 102, 103, 104, 105, 106, 107, 108, 109, 10] (by kernel_rfl) (by kernel_rfl) (fun w' => Below wy.heap.size wy w') (fun w1 w2 => Below w1.heap.size w1 w2) (WithinV01 al ah bl bh ml mh hl key other ao bo mo gt) (by kernel_rfl) (fun w1 w2 h1 h2 => h2.trans (h1.mono h2.size)) (fun t v w1 w2 h1 h2 => h2) (Below.refl _ _).drew (steps_of ?_) ?_
        · refine Steps1.cons (fun ax wx hS hG => ?_) (Steps1.cons (fun ax wx hS hG => ?_) (Steps1.cons (fun ax wx hS hG => ?_) (Steps1.cons (fun ax wx hS hG => ?_) (Steps1.cons (fun ax wx hS hG => ?_) (Steps1.cons (fun ax wx hS hG => ?_) (Steps1.cons (fun ax wx hS hG => ?_) (Steps1.cons (fun ax wx hS hG => ?_) (Steps1.cons (fun ax wx hS hG => ?_) (Steps1.cons (fun ax wx hS hG => ?_) (Steps1.cons (fun ax wx hS hG => ?_) (Steps1.cons (fun ax wx hS hG => ?_) (Steps1.cons (fun ax wx hS hG => ?_) (Steps1.cons (fun ax wx hS hG => ?_) (Steps1.cons (fun ax wx hS hG => ?_) (Steps1.cons (fun ax wx hS hG => ?_) (Steps1.cons (fun ax wx hS hG => ?_) (Steps1.cons (fun ax wx hS hG => ?_) (Steps1.cons (fun ax wx hS hG => ?_) (Steps1.cons (fun ax wx hS hG => ?_) (Steps1.cons (fun ax wx hS hG => ?_) (Steps1.cons (fun ax wx hS hG => ?_) (Steps1.cons (fun ax wx hS hG => ?_) (Steps1.cons (fun ax wx hS hG => ?_) (Steps1.cons (fun ax wx hS hG => ?_) (Steps1.cons (fun ax wx hS hG => ?_) (Steps1.cons (fun ax wx hS hG => ?_) (Steps1.cons (fun ax wx hS hG => ?_) (Steps1.cons (fun ax wx hS hG => ?_) (Steps1.cons (fun ax wx hS hG => ?_) (Steps1.cons (fun ax wx hS hG => ?_) (Steps1.cons (fun ax wx hS hG => ?_) (Steps1.cons (fun ax wx hS hG => ?_) (Steps1.cons (fun ax wx hS hG => ?_) (Steps1.cons (fun ax wx hS hG => ?_) (Steps1.cons (fun ax wx hS hG => ?_) (Steps1.cons (fun ax wx hS hG => ?_) Steps1.nil))))))))))))))))))))))))))))))))))))
          · have q11 := hG.old 11 (by kernel_rfl) (by kernel_rfl)
            obtain ⟨z0, z1, z2⟩ := HCM.out wx hS
            refine step_value (v := (.agg #[.string ml, .string mh, .bool mo])) (w' := wx) rfl rfl ?_ (Below.refl _ _) (fun d hd => by cases hd; exact rfl)
            go_simp
          · have q5 := hG.old 5 (by kernel_rfl) (by kernel_rfl)
            obtain ⟨z0, z1, z2⟩ := HCA.out wx hS
            refine step_value (v := (.agg #[.string al, .string ah, .bool ao])) (w' := wx) rfl rfl ?_ (Below.refl _ _) (fun d hd => by cases hd; exact rfl)
            go_simp
          · obtain ⟨_, q74, rfl⟩ := hG.new 74 (by kernel_rfl) (by kernel_rfl)
            obtain ⟨_, q75, rfl⟩ := hG.new 75 (by kernel_rfl) (by kernel_rfl)
            refine step_call (w1 := wx) (f := 14) (args := #[.agg #[.string ml, .string mh, .bool mo], .agg #[.string al, .string ah, .bool ao]]) rfl rfl ?_ ((HWA.out wx).mono ?_)
            · go_simp
            · rintro e w' ⟨rfl, hq⟩
              exact ⟨_, rfl, hq, fun d hd => by cases hd; exact rfl⟩
          · obtain ⟨_, q76, rfl⟩ := hG.new 76 (by kernel_rfl) (by kernel_rfl)
            refine step_value (v := .bool true) (w' := wx) rfl rfl ?_ (Below.refl _ _) (fun d hd => by cases hd; exact rfl)
            go_simp
          · have q11 := hG.old 11 (by kernel_rfl) (by kernel_rfl)
            obtain ⟨_, q77, rfl⟩ := hG.new 77 (by kernel_rfl) (by kernel_rfl)
            obtain ⟨z0, z1, z2⟩ := HCM.out wx hS
            refine step_value (v := (.agg #[.string ml, .string mh, .bool mo])) (w' := wx) rfl (by simp [Region.wanted, yielded, q77]) ?_ (Below.refl _ _) (fun d hd => by cases hd; exact rfl)
            go_simp
          · have q6 := hG.old 6 (by kernel_rfl) (by kernel_rfl)
            obtain ⟨_, q77, rfl⟩ := hG.new 77 (by kernel_rfl) (by kernel_rfl)
            obtain ⟨z0, z1, z2⟩ := HCB.out wx hS
            refine step_value (v := (.agg #[.string bl, .string bh, .bool bo])) (w' := wx) rfl (by simp [Region.wanted, yielded, q77]) ?_ (Below.refl _ _) (fun d hd => by cases hd; exact rfl)
            go_simp
          · obtain ⟨_, q78, rfl⟩ := hG.new 78 (by kernel_rfl) (by kernel_rfl)
            obtain ⟨_, q79, rfl⟩ := hG.new 79 (by kernel_rfl) (by kernel_rfl)
            obtain ⟨_, q77, rfl⟩ := hG.new 77 (by kernel_rfl) (by kernel_rfl)
            refine step_call (w1 := wx) (f := 14) (args := #[.agg #[.string ml, .string mh, .bool mo], .agg #[.string bl, .string bh, .bool bo]]) rfl (by simp [Region.wanted, yielded, q77]) ?_ ((HWB.out wx).mono ?_)
            · go_simp
            · rintro e w' ⟨rfl, hq⟩
              exact ⟨_, rfl, hq, fun d hd => by cases hd; exact rfl⟩
          · obtain ⟨_, q77, rfl⟩ := hG.new 77 (by kernel_rfl) (by kernel_rfl)
            obtain ⟨_, q80, rfl⟩ := hG.new 80 (by kernel_rfl) (by kernel_rfl)
            refine step_value (v := .bool true) (w' := wx) rfl rfl ?_ (Below.refl _ _) (fun d hd => by cases hd; exact rfl)
            go_simp
          · obtain ⟨_, q81, rfl⟩ := hG.new 81 (by kernel_rfl) (by kernel_rfl)
            refine step_value (v := .bool true) (w' := wx) rfl rfl ?_ (Below.refl _ _) (fun d hd => by cases hd; exact rfl)
            go_simp
          · have q12 := hG.old 12 (by kernel_rfl) (by kernel_rfl)
            obtain ⟨_, q82, rfl⟩ := hG.new 82 (by kernel_rfl) (by kernel_rfl)
            obtain ⟨z0, z1, z2⟩ := HCH.out wx hS
            refine step_value (v := (.agg #[.string hl, .string ah, .bool ao])) (w' := wx) rfl (by simp [Region.wanted, yielded, q82]) ?_ (Below.refl _ _) (fun d hd => by cases hd; exact rfl)
            go_simp
          · have q4 := hG.old 4 (by kernel_rfl) (by kernel_rfl)
            obtain ⟨_, q82, rfl⟩ := hG.new 82 (by kernel_rfl) (by kernel_rfl)
            refine step_value (v := .string other) (w' := wx) rfl (by simp [Region.wanted, yielded, q82]) ?_ (Below.refl _ _) (fun d hd => by cases hd; exact rfl)
            go_simp
          · obtain ⟨_, q83, rfl⟩ := hG.new 83 (by kernel_rfl) (by kernel_rfl)
            obtain ⟨_, q84, rfl⟩ := hG.new 84 (by kernel_rfl) (by kernel_rfl)
            obtain ⟨_, q82, rfl⟩ := hG.new 82 (by kernel_rfl) (by kernel_rfl)
            refine step_call (w1 := wx) (f := 13) (args := #[.agg #[.string hl, .string ah, .bool ao], .string other]) rfl (by simp [Region.wanted, yielded, q82]) ?_ ((HIH.out wx).mono ?_)
            · go_simp
            · rintro e w' ⟨rfl, hq⟩
              exact ⟨_, rfl, hq, fun d hd => by cases hd; exact rfl⟩
          · have q5 := hG.old 5 (by kernel_rfl) (by kernel_rfl)
            obtain ⟨_, q82, rfl⟩ := hG.new 82 (by kernel_rfl) (by kernel_rfl)
            obtain ⟨z0, z1, z2⟩ := HCA.out wx hS
            refine step_value (v := (.agg #[.string al, .string ah, .bool ao])) (w' := wx) rfl (by simp [Region.wanted, yielded, q82]) ?_ (Below.refl _ _) (fun d hd => by cases hd; exact rfl)
            go_simp
          · have q4 := hG.old 4 (by kernel_rfl) (by kernel_rfl)
            obtain ⟨_, q82, rfl⟩ := hG.new 82 (by kernel_rfl) (by kernel_rfl)
            refine step_value (v := .string other) (w' := wx) rfl (by simp [Region.wanted, yielded, q82]) ?_ (Below.refl _ _) (fun d hd => by cases hd; exact rfl)
            go_simp
          · obtain ⟨_, q86, rfl⟩ := hG.new 86 (by kernel_rfl) (by kernel_rfl)
            obtain ⟨_, q87, rfl⟩ := hG.new 87 (by kernel_rfl) (by kernel_rfl)
            obtain ⟨_, q82, rfl⟩ := hG.new 82 (by kernel_rfl) (by kernel_rfl)
            refine step_call (w1 := wx) (f := 13) (args := #[.agg #[.string al, .string ah, .bool ao], .string other]) rfl (by simp [Region.wanted, yielded, q82]) ?_ ((HIO.out wx).mono ?_)
            · go_simp
            · rintro e w' ⟨rfl, hq⟩
              exact ⟨_, rfl, hq, fun d hd => by cases hd; exact rfl⟩
          · obtain ⟨_, q88, rfl⟩ := hG.new 88 (by kernel_rfl) (by kernel_rfl)
            obtain ⟨_, q82, rfl⟩ := hG.new 82 (by kernel_rfl) (by kernel_rfl)
            refine step_value (v := .bool false) (w' := wx) rfl (by simp [Region.wanted, yielded, q82]) ?_ (Below.refl _ _) (fun d hd => by cases hd; exact rfl)
            go_simp
          · obtain ⟨_, q89, rfl⟩ := hG.new 89 (by kernel_rfl) (by kernel_rfl)
            refine step_past rfl (by simp [Region.wanted, yielded, q89]) (Below.refl _ _) (fun d hd => by cases hd; exact rfl)
          · obtain ⟨_, q89, rfl⟩ := hG.new 89 (by kernel_rfl) (by kernel_rfl)
            refine step_past rfl (by simp [Region.wanted, yielded, q89]) (Below.refl _ _) (fun d hd => by cases hd; exact rfl)
          · obtain ⟨_, q89, rfl⟩ := hG.new 89 (by kernel_rfl) (by kernel_rfl)
            refine step_past rfl (by simp [Region.wanted, yielded, q89]) (Below.refl _ _) (fun d hd => by cases hd; exact rfl)
          · obtain ⟨_, q89, rfl⟩ := hG.new 89 (by kernel_rfl) (by kernel_rfl)
            obtain ⟨_, q92, rfl⟩ := hG.new 92 (by kernel_rfl) (by kernel_rfl)
            obtain ⟨_, q82, rfl⟩ := hG.new 82 (by kernel_rfl) (by kernel_rfl)
            refine step_value (v := .bool false) (w' := wx) rfl (by simp [Region.wanted, yielded, q82]) ?_ (Below.refl _ _) (fun d hd => by cases hd; exact rfl)
            go_simp
          · obtain ⟨_, q85, rfl⟩ := hG.new 85 (by kernel_rfl) (by kernel_rfl)
            obtain ⟨_, q93, rfl⟩ := hG.new 93 (by kernel_rfl) (by kernel_rfl)
            obtain ⟨_, q82, rfl⟩ := hG.new 82 (by kernel_rfl) (by kernel_rfl)
            refine step_value (v := .bool true) (w' := wx) rfl (by simp [Region.wanted, yielded, q82]) ?_ (Below.refl _ _) (fun d hd => by cases hd; exact rfl)
            go_simp
          · obtain ⟨_, q82, rfl⟩ := hG.new 82 (by kernel_rfl) (by kernel_rfl)
            obtain ⟨_, q94, rfl⟩ := hG.new 94 (by kernel_rfl) (by kernel_rfl)
            refine step_value (v := .bool true) (w' := wx) rfl rfl ?_ (Below.refl _ _) (fun d hd => by cases hd; exact rfl)
            go_simp
          · obtain ⟨_, q95, rfl⟩ := hG.new 95 (by kernel_rfl) (by kernel_rfl)
            refine step_value (v := .bool true) (w' := wx) rfl rfl ?_ (Below.refl _ _) (fun d hd => by cases hd; exact rfl)
            go_simp
          · have q5 := hG.old 5 (by kernel_rfl) (by kernel_rfl)
            obtain ⟨_, q96, rfl⟩ := hG.new 96 (by kernel_rfl) (by kernel_rfl)
            obtain ⟨z0, z1, z2⟩ := HCA.out wx hS
            refine step_value (v := (.agg #[.string al, .string ah, .bool ao])) (w' := wx) rfl (by simp [Region.wanted, yielded, q96]) ?_ (Below.refl _ _) (fun d hd => by cases hd; exact rfl)
            go_simp
          · obtain ⟨_, q97, rfl⟩ := hG.new 97 (by kernel_rfl) (by kernel_rfl)
            obtain ⟨_, q96, rfl⟩ := hG.new 96 (by kernel_rfl) (by kernel_rfl)
            refine step_call (w1 := wx) (f := 16) (args := #[.agg #[.string al, .string ah, .bool ao]]) rfl (by simp [Region.wanted, yielded, q96]) ?_ ((HEA.out wx).mono ?_)
            · go_simp
            · rintro e w' ⟨rfl, hq⟩
              exact ⟨_, rfl, hq, fun d hd => by cases hd; exact rfl⟩
          · obtain ⟨_, q98, rfl⟩ := hG.new 98 (by kernel_rfl) (by kernel_rfl)
            obtain ⟨_, q96, rfl⟩ := hG.new 96 (by kernel_rfl) (by kernel_rfl)
            refine step_value (v := .bool false) (w' := wx) rfl (by simp [Region.wanted, yielded, q96]) ?_ (Below.refl _ _) (fun d hd => by cases hd; exact rfl)
            go_simp
          · obtain ⟨_, q99, rfl⟩ := hG.new 99 (by kernel_rfl) (by kernel_rfl)
            obtain ⟨_, q96, rfl⟩ := hG.new 96 (by kernel_rfl) (by kernel_rfl)
            refine step_value (v := .bool false) (w' := wx) rfl (by simp [Region.wanted, yielded, q96]) ?_ (Below.refl _ _) (fun d hd => by cases hd; exact rfl)
            go_simp
          · have q5 := hG.old 5 (by kernel_rfl) (by kernel_rfl)
            obtain ⟨_, q100, rfl⟩ := hG.new 100 (by kernel_rfl) (by kernel_rfl)
            obtain ⟨z0, z1, z2⟩ := HCA.out wx hS
            refine step_value (v := (.agg #[.string al, .string ah, .bool ao])) (w' := wx) rfl (by simp [Region.wanted, yielded, q100]) ?_ (Below.refl _ _) (fun d hd => by cases hd; exact rfl)
            go_simp
          · have q3 := hG.old 3 (by kernel_rfl) (by kernel_rfl)
            obtain ⟨_, q100, rfl⟩ := hG.new 100 (by kernel_rfl) (by kernel_rfl)
            refine step_value (v := .string key) (w' := wx) rfl (by simp [Region.wanted, yielded, q100]) ?_ (Below.refl _ _) (fun d hd => by cases hd; exact rfl)
            go_simp
          · obtain ⟨_, q101, rfl⟩ := hG.new 101 (by kernel_rfl) (by kernel_rfl)
            obtain ⟨_, q102, rfl⟩ := hG.new 102 (by kernel_rfl) (by kernel_rfl)
            obtain ⟨_, q100, rfl⟩ := hG.new 100 (by kernel_rfl) (by kernel_rfl)
            refine step_call (w1 := wx) (f := 13) (args := #[.agg #[.string al, .string ah, .bool ao], .string key]) rfl (by simp [Region.wanted, yielded, q100]) ?_ ((HIK.out wx).mono ?_)
            · go_simp
            · rintro e w' ⟨rfl, hq⟩
              exact ⟨_, rfl, hq, fun d hd => by cases hd; exact rfl⟩
          · obtain ⟨_, q103, rfl⟩ := hG.new 103 (by kernel_rfl) (by kernel_rfl)
            obtain ⟨_, q100, rfl⟩ := hG.new 100 (by kernel_rfl) (by kernel_rfl)
            refine step_value (v := .bool true) (w' := wx) rfl (by simp [Region.wanted, yielded, q100]) ?_ (Below.refl _ _) (fun d hd => by cases hd; exact rfl)
            go_simp
          · obtain ⟨_, q100, rfl⟩ := hG.new 100 (by kernel_rfl) (by kernel_rfl)
            obtain ⟨_, q104, rfl⟩ := hG.new 104 (by kernel_rfl) (by kernel_rfl)
            obtain ⟨_, q96, rfl⟩ := hG.new 96 (by kernel_rfl) (by kernel_rfl)
            refine step_value (v := .bool true) (w' := wx) rfl (by simp [Region.wanted, yielded, q96]) ?_ (Below.refl _ _) (fun d hd => by cases hd; exact rfl)
            go_simp
          · obtain ⟨_, q96, rfl⟩ := hG.new 96 (by kernel_rfl) (by kernel_rfl)
            obtain ⟨_, q105, rfl⟩ := hG.new 105 (by kernel_rfl) (by kernel_rfl)
            refine step_value (v := .bool true) (w' := wx) rfl rfl ?_ (Below.refl _ _) (fun d hd => by cases hd; exact rfl)
            go_simp
          · obtain ⟨_, q106, rfl⟩ := hG.new 106 (by kernel_rfl) (by kernel_rfl)
            refine step_value (v := .bool true) (w' := wx) rfl rfl ?_ (Below.refl _ _) (fun d hd => by cases hd; exact rfl)
            go_simp
          · obtain ⟨_, q107, rfl⟩ := hG.new 107 (by kernel_rfl) (by kernel_rfl)
            refine step_call (w1 := wx) (f := 8) (args := #[]) rfl (by simp [Region.wanted, yielded, q107]) ?_ ((awake_true wx).mono ?_)
            · go_simp
            · rintro e w' ⟨rfl, hq⟩
              exact ⟨_, rfl, hq, fun d hd => by cases hd; exact rfl⟩
          · obtain ⟨_, q107, rfl⟩ := hG.new 107 (by kernel_rfl) (by kernel_rfl)
            obtain ⟨_, q108, rfl⟩ := hG.new 108 (by kernel_rfl) (by kernel_rfl)
            refine step_value (v := .bool true) (w' := wx) rfl rfl ?_ (Below.refl _ _) (fun d hd => by cases hd; exact rfl)
            go_simp
          · obtain ⟨_, q109, rfl⟩ := hG.new 109 (by kernel_rfl) (by kernel_rfl)
            refine step_value (v := .bool true) (w' := wx) rfl rfl ?_ (Below.refl _ _) (fun d hd => by cases hd; exact rfl)
            go_simp
        · intro f w' hS hV
          have h10 : f 10 = .bool true := hV 10 (by decide)
          simp only [puts, Act.put, List.setIfInBounds_toArray, List.set_cons_succ, List.set_cons_zero]
          go_wp2
          go_ret
          try rw [h10]
          exact ⟨rfl, hby.trans (hS.mono hby.size)⟩
      | false =>
        have HEA := Lib.hid (show ∀ w' : World, Calls Try.prog 16 #[.agg #[.string al, .string ah, .bool ao]] w' fun e w'' => e = .returned (.bool false) ∧ Below w'.heap.size w' w'' from fun w' => by have h := empty_any al ah ao w'; rwa [he] at h)
        clear he
        refine wp_region_inv [74, 75, 76, 77, 78, 79, 80, 81, 82, 83, 84, 85, 86, 87, 88, 89, 90, 91, 92, 93, 94, 95, 96, 97, 98, 99, 100, 101, 102, 103, 104, 105, 106, 107, 108, 109, 10] (by kernel_rfl) (by kernel_rfl) (fun w' => Below wy.heap.size wy w') (fun w1 w2 => Below w1.heap.size w1 w2) (WithinV00 al ah bl bh ml mh hl key other ao bo mo gt) (by kernel_rfl) (fun w1 w2 h1 h2 => h2.trans (h1.mono h2.size)) (fun t v w1 w2 h1 h2 => h2) (Below.refl _ _).drew (steps_of ?_) ?_
        · refine Steps1.cons (fun ax wx hS hG => ?_) (Steps1.cons (fun ax wx hS hG => ?_) (Steps1.cons (fun ax wx hS hG => ?_) (Steps1.cons (fun ax wx hS hG => ?_) (Steps1.cons (fun ax wx hS hG => ?_) (Steps1.cons (fun ax wx hS hG => ?_) (Steps1.cons (fun ax wx hS hG => ?_) (Steps1.cons (fun ax wx hS hG => ?_) (Steps1.cons (fun ax wx hS hG => ?_) (Steps1.cons (fun ax wx hS hG => ?_) (Steps1.cons (fun ax wx hS hG => ?_) (Steps1.cons (fun ax wx hS hG => ?_) (Steps1.cons (fun ax wx hS hG => ?_) (Steps1.cons (fun ax wx hS hG => ?_) (Steps1.cons (fun ax wx hS hG => ?_) (Steps1.cons (fun ax wx hS hG => ?_) (Steps1.cons (fun ax wx hS hG => ?_) (Steps1.cons (fun ax wx hS hG => ?_) (Steps1.cons (fun ax wx hS hG => ?_) (Steps1.cons (fun ax wx hS hG => ?_) (Steps1.cons (fun ax wx hS hG => ?_) (Steps1.cons (fun ax wx hS hG => ?_) (Steps1.cons (fun ax wx hS hG => ?_) (Steps1.cons (fun ax wx hS hG => ?_) (Steps1.cons (fun ax wx hS hG => ?_) (Steps1.cons (fun ax wx hS hG => ?_) (Steps1.cons (fun ax wx hS hG => ?_) (Steps1.cons (fun ax wx hS hG => ?_) (Steps1.cons (fun ax wx hS hG => ?_) (Steps1.cons (fun ax wx hS hG => ?_) (Steps1.cons (fun ax wx hS hG => ?_) (Steps1.cons (fun ax wx hS hG => ?_) (Steps1.cons (fun ax wx hS hG => ?_) (Steps1.cons (fun ax wx hS hG => ?_) (Steps1.cons (fun ax wx hS hG => ?_) (Steps1.cons (fun ax wx hS hG => ?_) (Steps1.cons (fun ax wx hS hG => ?_) Steps1.nil))))))))))))))))))))))))))))))))))))
          · have q11 := hG.old 11 (by kernel_rfl) (by kernel_rfl)
            obtain ⟨z0, z1, z2⟩ := HCM.out wx hS
            refine step_value (v := (.agg #[.string ml, .string mh, .bool mo])) (w' := wx) rfl rfl ?_ (Below.refl _ _) (fun d hd => by cases hd; exact rfl)
            go_simp
          · have q5 := hG.old 5 (by kernel_rfl) (by kernel_rfl)
            obtain ⟨z0, z1, z2⟩ := HCA.out wx hS
            refine step_value (v := (.agg #[.string al, .string ah, .bool ao])) (w' := wx) rfl rfl ?_ (Below.refl _ _) (fun d hd => by cases hd; exact rfl)
            go_simp
          · obtain ⟨_, q74, rfl⟩ := hG.new 74 (by kernel_rfl) (by kernel_rfl)
            obtain ⟨_, q75, rfl⟩ := hG.new 75 (by kernel_rfl) (by kernel_rfl)
            refine step_call (w1 := wx) (f := 14) (args := #[.agg #[.string ml, .string mh, .bool mo], .agg #[.string al, .string ah, .bool ao]]) rfl rfl ?_ ((HWA.out wx).mono ?_)
            · go_simp
            · rintro e w' ⟨rfl, hq⟩
              exact ⟨_, rfl, hq, fun d hd => by cases hd; exact rfl⟩
          · obtain ⟨_, q76, rfl⟩ := hG.new 76 (by kernel_rfl) (by kernel_rfl)
            refine step_value (v := .bool true) (w' := wx) rfl rfl ?_ (Below.refl _ _) (fun d hd => by cases hd; exact rfl)
            go_simp
          · have q11 := hG.old 11 (by kernel_rfl) (by kernel_rfl)
            obtain ⟨_, q77, rfl⟩ := hG.new 77 (by kernel_rfl) (by kernel_rfl)
            obtain ⟨z0, z1, z2⟩ := HCM.out wx hS
            refine step_value (v := (.agg #[.string ml, .string mh, .bool mo])) (w' := wx) rfl (by simp [Region.wanted, yielded, q77]) ?_ (Below.refl _ _) (fun d hd => by cases hd; exact rfl)
            go_simp
          · have q6 := hG.old 6 (by kernel_rfl) (by kernel_rfl)
            obtain ⟨_, q77, rfl⟩ := hG.new 77 (by kernel_rfl) (by kernel_rfl)
            obtain ⟨z0, z1, z2⟩ := HCB.out wx hS
            refine step_value (v := (.agg #[.string bl, .string bh, .bool bo])) (w' := wx) rfl (by simp [Region.wanted, yielded, q77]) ?_ (Below.refl _ _) (fun d hd => by cases hd; exact rfl)
            go_simp
          · obtain ⟨_, q78, rfl⟩ := hG.new 78 (by kernel_rfl) (by kernel_rfl)
            obtain ⟨_, q79, rfl⟩ := hG.new 79 (by kernel_rfl) (by kernel_rfl)
            obtain ⟨_, q77, rfl⟩ := hG.new 77 (by kernel_rfl) (by kernel_rfl)
            refine step_call (w1 := wx) (f := 14) (args := #[.agg #[.string ml, .string mh, .bool mo], .agg #[.string bl, .string bh, .bool bo]]) rfl (by simp [Region.wanted, yielded, q77]) ?_ ((HWB.out wx).mono ?_)
            · go_simp
            · rintro e w' ⟨rfl, hq⟩
              exact ⟨_, rfl, hq, fun d hd => by cases hd; exact rfl⟩
          · obtain ⟨_, q77, rfl⟩ := hG.new 77 (by kernel_rfl) (by kernel_rfl)
            obtain ⟨_, q80, rfl⟩ := hG.new 80 (by kernel_rfl) (by kernel_rfl)
            refine step_value (v := .bool true) (w' := wx) rfl rfl ?_ (Below.refl _ _) (fun d hd => by cases hd; exact rfl)
            go_simp
          · obtain ⟨_, q81, rfl⟩ := hG.new 81 (by kernel_rfl) (by kernel_rfl)
            refine step_value (v := .bool true) (w' := wx) rfl rfl ?_ (Below.refl _ _) (fun d hd => by cases hd; exact rfl)
            go_simp
          · have q12 := hG.old 12 (by kernel_rfl) (by kernel_rfl)
            obtain ⟨_, q82, rfl⟩ := hG.new 82 (by kernel_rfl) (by kernel_rfl)
            obtain ⟨z0, z1, z2⟩ := HCH.out wx hS
            refine step_value (v := (.agg #[.string hl, .string ah, .bool ao])) (w' := wx) rfl (by simp [Region.wanted, yielded, q82]) ?_ (Below.refl _ _) (fun d hd => by cases hd; exact rfl)
            go_simp
          · have q4 := hG.old 4 (by kernel_rfl) (by kernel_rfl)
            obtain ⟨_, q82, rfl⟩ := hG.new 82 (by kernel_rfl) (by kernel_rfl)
            refine step_value (v := .string other) (w' := wx) rfl (by simp [Region.wanted, yielded, q82]) ?_ (Below.refl _ _) (fun d hd => by cases hd; exact rfl)
            go_simp
          · obtain ⟨_, q83, rfl⟩ := hG.new 83 (by kernel_rfl) (by kernel_rfl)
            obtain ⟨_, q84, rfl⟩ := hG.new 84 (by kernel_rfl) (by kernel_rfl)
            obtain ⟨_, q82, rfl⟩ := hG.new 82 (by kernel_rfl) (by kernel_rfl)
            refine step_call (w1 := wx) (f := 13) (args := #[.agg #[.string hl, .string ah, .bool ao], .string other]) rfl (by simp [Region.wanted, yielded, q82]) ?_ ((HIH.out wx).mono ?_)
            · go_simp
            · rintro e w' ⟨rfl, hq⟩
              exact ⟨_, rfl, hq, fun d hd => by cases hd; exact rfl⟩
          · have q5 := hG.old 5 (by kernel_rfl) (by kernel_rfl)
            obtain ⟨_, q82, rfl⟩ := hG.new 82 (by kernel_rfl) (by kernel_rfl)
            obtain ⟨z0, z1, z2⟩ := HCA.out wx hS
            refine step_value (v := (.agg #[.string al, .string ah, .bool ao])) (w' := wx) rfl (by simp [Region.wanted, yielded, q82]) ?_ (Below.refl _ _) (fun d hd => by cases hd; exact rfl)
            go_simp
          · have q4 := hG.old 4 (by kernel_rfl) (by kernel_rfl)
            obtain ⟨_, q82, rfl⟩ := hG.new 82 (by kernel_rfl) (by kernel_rfl)
            refine step_value (v := .string other) (w' := wx) rfl (by simp [Region.wanted, yielded, q82]) ?_ (Below.refl _ _) (fun d hd => by cases hd; exact rfl)
            go_simp
          · obtain ⟨_, q86, rfl⟩ := hG.new 86 (by kernel_rfl) (by kernel_rfl)
            obtain ⟨_, q87, rfl⟩ := hG.new 87 (by kernel_rfl) (by kernel_rfl)
            obtain ⟨_, q82, rfl⟩ := hG.new 82 (by kernel_rfl) (by kernel_rfl)
            refine step_call (w1 := wx) (f := 13) (args := #[.agg #[.string al, .string ah, .bool ao], .string other]) rfl (by simp [Region.wanted, yielded, q82]) ?_ ((HIO.out wx).mono ?_)
            · go_simp
            · rintro e w' ⟨rfl, hq⟩
              exact ⟨_, rfl, hq, fun d hd => by cases hd; exact rfl⟩
          · obtain ⟨_, q88, rfl⟩ := hG.new 88 (by kernel_rfl) (by kernel_rfl)
            obtain ⟨_, q82, rfl⟩ := hG.new 82 (by kernel_rfl) (by kernel_rfl)
            refine step_value (v := .bool false) (w' := wx) rfl (by simp [Region.wanted, yielded, q82]) ?_ (Below.refl _ _) (fun d hd => by cases hd; exact rfl)
            go_simp
          · obtain ⟨_, q89, rfl⟩ := hG.new 89 (by kernel_rfl) (by kernel_rfl)
            refine step_past rfl (by simp [Region.wanted, yielded, q89]) (Below.refl _ _) (fun d hd => by cases hd; exact rfl)
          · obtain ⟨_, q89, rfl⟩ := hG.new 89 (by kernel_rfl) (by kernel_rfl)
            refine step_past rfl (by simp [Region.wanted, yielded, q89]) (Below.refl _ _) (fun d hd => by cases hd; exact rfl)
          · obtain ⟨_, q89, rfl⟩ := hG.new 89 (by kernel_rfl) (by kernel_rfl)
            refine step_past rfl (by simp [Region.wanted, yielded, q89]) (Below.refl _ _) (fun d hd => by cases hd; exact rfl)
          · obtain ⟨_, q89, rfl⟩ := hG.new 89 (by kernel_rfl) (by kernel_rfl)
            obtain ⟨_, q92, rfl⟩ := hG.new 92 (by kernel_rfl) (by kernel_rfl)
            obtain ⟨_, q82, rfl⟩ := hG.new 82 (by kernel_rfl) (by kernel_rfl)
            refine step_value (v := .bool false) (w' := wx) rfl (by simp [Region.wanted, yielded, q82]) ?_ (Below.refl _ _) (fun d hd => by cases hd; exact rfl)
            go_simp
          · obtain ⟨_, q85, rfl⟩ := hG.new 85 (by kernel_rfl) (by kernel_rfl)
            obtain ⟨_, q93, rfl⟩ := hG.new 93 (by kernel_rfl) (by kernel_rfl)
            obtain ⟨_, q82, rfl⟩ := hG.new 82 (by kernel_rfl) (by kernel_rfl)
            refine step_value (v := .bool true) (w' := wx) rfl (by simp [Region.wanted, yielded, q82]) ?_ (Below.refl _ _) (fun d hd => by cases hd; exact rfl)
            go_simp
          · obtain ⟨_, q82, rfl⟩ := hG.new 82 (by kernel_rfl) (by kernel_rfl)
            obtain ⟨_, q94, rfl⟩ := hG.new 94 (by kernel_rfl) (by kernel_rfl)
            refine step_value (v := .bool true) (w' := wx) rfl rfl ?_ (Below.refl _ _) (fun d hd => by cases hd; exact rfl)
            go_simp
          · obtain ⟨_, q95, rfl⟩ := hG.new 95 (by kernel_rfl) (by kernel_rfl)
            refine step_value (v := .bool true) (w' := wx) rfl rfl ?_ (Below.refl _ _) (fun d hd => by cases hd; exact rfl)
            go_simp
          · have q5 := hG.old 5 (by kernel_rfl) (by kernel_rfl)
            obtain ⟨_, q96, rfl⟩ := hG.new 96 (by kernel_rfl) (by kernel_rfl)
            obtain ⟨z0, z1, z2⟩ := HCA.out wx hS
            refine step_value (v := (.agg #[.string al, .string ah, .bool ao])) (w' := wx) rfl (by simp [Region.wanted, yielded, q96]) ?_ (Below.refl _ _) (fun d hd => by cases hd; exact rfl)
            go_simp
          · obtain ⟨_, q97, rfl⟩ := hG.new 97 (by kernel_rfl) (by kernel_rfl)
            obtain ⟨_, q96, rfl⟩ := hG.new 96 (by kernel_rfl) (by kernel_rfl)
            refine step_call (w1 := wx) (f := 16) (args := #[.agg #[.string al, .string ah, .bool ao]]) rfl (by simp [Region.wanted, yielded, q96]) ?_ ((HEA.out wx).mono ?_)
            · go_simp
            · rintro e w' ⟨rfl, hq⟩
              exact ⟨_, rfl, hq, fun d hd => by cases hd; exact rfl⟩
          · obtain ⟨_, q98, rfl⟩ := hG.new 98 (by kernel_rfl) (by kernel_rfl)
            obtain ⟨_, q96, rfl⟩ := hG.new 96 (by kernel_rfl) (by kernel_rfl)
            refine step_value (v := .bool true) (w' := wx) rfl (by simp [Region.wanted, yielded, q96]) ?_ (Below.refl _ _) (fun d hd => by cases hd; exact rfl)
            go_simp
          · obtain ⟨_, q99, rfl⟩ := hG.new 99 (by kernel_rfl) (by kernel_rfl)
            obtain ⟨_, q96, rfl⟩ := hG.new 96 (by kernel_rfl) (by kernel_rfl)
            refine step_value (v := .bool true) (w' := wx) rfl (by simp [Region.wanted, yielded, q96]) ?_ (Below.refl _ _) (fun d hd => by cases hd; exact rfl)
            go_simp
          · obtain ⟨_, q100, rfl⟩ := hG.new 100 (by kernel_rfl) (by kernel_rfl)
            refine step_past rfl (by simp [Region.wanted, yielded, q100]) (Below.refl _ _) (fun d hd => by cases hd; exact rfl)
          · obtain ⟨_, q100, rfl⟩ := hG.new 100 (by kernel_rfl) (by kernel_rfl)
            refine step_past rfl (by simp [Region.wanted, yielded, q100]) (Below.refl _ _) (fun d hd => by cases hd; exact rfl)
          · obtain ⟨_, q100, rfl⟩ := hG.new 100 (by kernel_rfl) (by kernel_rfl)
            refine step_past rfl (by simp [Region.wanted, yielded, q100]) (Below.refl _ _) (fun d hd => by cases hd; exact rfl)
          · obtain ⟨_, q100, rfl⟩ := hG.new 100 (by kernel_rfl) (by kernel_rfl)
            refine step_past rfl (by simp [Region.wanted, yielded, q100]) (Below.refl _ _) (fun d hd => by cases hd; exact rfl)
          · obtain ⟨_, q100, rfl⟩ := hG.new 100 (by kernel_rfl) (by kernel_rfl)
            obtain ⟨_, q104, rfl⟩ := hG.new 104 (by kernel_rfl) (by kernel_rfl)
            obtain ⟨_, q96, rfl⟩ := hG.new 96 (by kernel_rfl) (by kernel_rfl)
            refine step_value (v := .bool true) (w' := wx) rfl (by simp [Region.wanted, yielded, q96]) ?_ (Below.refl _ _) (fun d hd => by cases hd; exact rfl)
            go_simp
          · obtain ⟨_, q96, rfl⟩ := hG.new 96 (by kernel_rfl) (by kernel_rfl)
            obtain ⟨_, q105, rfl⟩ := hG.new 105 (by kernel_rfl) (by kernel_rfl)
            refine step_value (v := .bool true) (w' := wx) rfl rfl ?_ (Below.refl _ _) (fun d hd => by cases hd; exact rfl)
            go_simp
          · obtain ⟨_, q106, rfl⟩ := hG.new 106 (by kernel_rfl) (by kernel_rfl)
            refine step_value (v := .bool true) (w' := wx) rfl rfl ?_ (Below.refl _ _) (fun d hd => by cases hd; exact rfl)
            go_simp
          · obtain ⟨_, q107, rfl⟩ := hG.new 107 (by kernel_rfl) (by kernel_rfl)
            refine step_call (w1 := wx) (f := 8) (args := #[]) rfl (by simp [Region.wanted, yielded, q107]) ?_ ((awake_true wx).mono ?_)
            · go_simp
            · rintro e w' ⟨rfl, hq⟩
              exact ⟨_, rfl, hq, fun d hd => by cases hd; exact rfl⟩
          · obtain ⟨_, q107, rfl⟩ := hG.new 107 (by kernel_rfl) (by kernel_rfl)
            obtain ⟨_, q108, rfl⟩ := hG.new 108 (by kernel_rfl) (by kernel_rfl)
            refine step_value (v := .bool true) (w' := wx) rfl rfl ?_ (Below.refl _ _) (fun d hd => by cases hd; exact rfl)
            go_simp
          · obtain ⟨_, q109, rfl⟩ := hG.new 109 (by kernel_rfl) (by kernel_rfl)
            refine step_value (v := .bool true) (w' := wx) rfl rfl ?_ (Below.refl _ _) (fun d hd => by cases hd; exact rfl)
            go_simp
        · intro f w' hS hV
          have h10 : f 10 = .bool true := hV 10 (by decide)
          simp only [puts, Act.put, List.setIfInBounds_toArray, List.set_cons_succ, List.set_cons_zero]
          go_wp2
          go_ret
          try rw [h10]
          exact ⟨rfl, hby.trans (hS.mono hby.size)⟩

end Go.Proofs.Ytmbcmacegncnmaa
