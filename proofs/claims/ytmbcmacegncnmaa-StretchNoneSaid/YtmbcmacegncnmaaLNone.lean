/- The walk of the law StretchNone. -/
import Derived.Test.YtmbcmacegncnmaaAwake
import Derived.Test.YtmbcmacegncnmaaInv
import Derived.Deep.DeepCutAuto
import Derived.RegionTactic
namespace Go.Proofs.Ytmbcmacegncnmaa
open Go.RowKit

/-- What each slot of the last line holds. -/
def NoneVF (w : World) (al ah bl ml mh key : ByteArray) (ao mo p q : Bool) (t : Nat) (v : Value) (_w : World) : Prop :=
  match t with
  | 60 => v = (.agg #[.string ml, .string mh, .bool mo])
  | 61 => v = .bool true
  | 62 => v = .bool true
  | 63 => v = (.agg #[.string al, .string ah, .bool ao])
  | 64 => v = .pointer (some ⟨w.heap.size + 1, 0, none⟩)
  | 65 => v = .string bl
  | 66 => v = .bool false
  | 67 => v = .bool true
  | 68 => v = .bool true
  | 69 => v = undef
  | 70 => v = undef
  | 71 => v = undef
  | 72 => v = undef
  | 73 => v = undef
  | 74 => v = undef
  | 75 => v = undef
  | 76 => v = undef
  | 77 => v = undef
  | 78 => v = .bool true
  | 79 => v = .bool true
  | 80 => v = undef
  | 81 => v = undef
  | 82 => v = undef
  | 83 => v = undef
  | 84 => v = .bool true
  | 85 => v = .bool true
  | 86 => v = undef
  | 87 => v = undef
  | 88 => v = undef
  | 89 => v = undef
  | 90 => v = .bool true
  | 91 => v = .bool true
  | 92 => v = .bool true
  | 93 => v = .bool true
  | 94 => v = .bool true
  | 6 => v = .bool true
  | _ => True

/-- What each slot of the last line holds. -/
def NoneVTT (w : World) (al ah bl ml mh key : ByteArray) (ao mo p q : Bool) (t : Nat) (v : Value) (_w : World) : Prop :=
  match t with
  | 60 => v = (.agg #[.string ml, .string mh, .bool mo])
  | 61 => v = .bool true
  | 62 => v = .bool true
  | 63 => v = (.agg #[.string al, .string ah, .bool ao])
  | 64 => v = .pointer (some ⟨w.heap.size + 1, 0, none⟩)
  | 65 => v = .string bl
  | 66 => v = .bool true
  | 67 => v = .bool false
  | 68 => v = .bool false
  | 69 => v = (.agg #[.string al, .string key, .bool false])
  | 70 => v = .pointer (some ⟨w.heap.size + 1, 0, none⟩)
  | 71 => v = .string bl
  | 72 => v = .bool p
  | 73 => v = (.agg #[.string key, .string ah, .bool ao])
  | 74 => v = .pointer (some ⟨w.heap.size + 1, 0, none⟩)
  | 75 => v = .string bl
  | 76 => v = .bool q
  | 77 => v = .bool true
  | 78 => v = .bool true
  | 79 => v = .bool true
  | 80 => v = undef
  | 81 => v = undef
  | 82 => v = undef
  | 83 => v = undef
  | 84 => v = .bool true
  | 85 => v = .bool true
  | 86 => v = undef
  | 87 => v = undef
  | 88 => v = undef
  | 89 => v = undef
  | 90 => v = .bool true
  | 91 => v = .bool true
  | 92 => v = .bool true
  | 93 => v = .bool true
  | 94 => v = .bool true
  | 6 => v = .bool true
  | _ => True

/-- What each slot of the last line holds. -/
def NoneVTFT (w : World) (al ah bl ml mh key : ByteArray) (ao mo p q : Bool) (t : Nat) (v : Value) (_w : World) : Prop :=
  match t with
  | 60 => v = (.agg #[.string ml, .string mh, .bool mo])
  | 61 => v = .bool true
  | 62 => v = .bool true
  | 63 => v = (.agg #[.string al, .string ah, .bool ao])
  | 64 => v = .pointer (some ⟨w.heap.size + 1, 0, none⟩)
  | 65 => v = .string bl
  | 66 => v = .bool true
  | 67 => v = .bool false
  | 68 => v = .bool false
  | 69 => v = (.agg #[.string al, .string key, .bool false])
  | 70 => v = .pointer (some ⟨w.heap.size + 1, 0, none⟩)
  | 71 => v = .string bl
  | 72 => v = .bool p
  | 73 => v = (.agg #[.string key, .string ah, .bool ao])
  | 74 => v = .pointer (some ⟨w.heap.size + 1, 0, none⟩)
  | 75 => v = .string bl
  | 76 => v = .bool q
  | 77 => v = .bool false
  | 78 => v = .bool false
  | 79 => v = .bool false
  | 80 => v = .string key
  | 81 => v = .pointer (some ⟨w.heap.size, 0, none⟩)
  | 82 => v = .string al
  | 83 => v = .bool true
  | 84 => v = .bool true
  | 85 => v = .bool true
  | 86 => v = undef
  | 87 => v = undef
  | 88 => v = undef
  | 89 => v = undef
  | 90 => v = .bool true
  | 91 => v = .bool true
  | 92 => v = .bool true
  | 93 => v = .bool true
  | 94 => v = .bool true
  | 6 => v = .bool true
  | _ => True

/-- What each slot of the last line holds. -/
def NoneVTFF (w : World) (al ah bl ml mh key : ByteArray) (ao mo p q : Bool) (t : Nat) (v : Value) (_w : World) : Prop :=
  match t with
  | 60 => v = (.agg #[.string ml, .string mh, .bool mo])
  | 61 => v = .bool true
  | 62 => v = .bool true
  | 63 => v = (.agg #[.string al, .string ah, .bool ao])
  | 64 => v = .pointer (some ⟨w.heap.size + 1, 0, none⟩)
  | 65 => v = .string bl
  | 66 => v = .bool true
  | 67 => v = .bool false
  | 68 => v = .bool false
  | 69 => v = (.agg #[.string al, .string key, .bool false])
  | 70 => v = .pointer (some ⟨w.heap.size + 1, 0, none⟩)
  | 71 => v = .string bl
  | 72 => v = .bool p
  | 73 => v = (.agg #[.string key, .string ah, .bool ao])
  | 74 => v = .pointer (some ⟨w.heap.size + 1, 0, none⟩)
  | 75 => v = .string bl
  | 76 => v = .bool q
  | 77 => v = .bool false
  | 78 => v = .bool false
  | 79 => v = .bool false
  | 80 => v = .string key
  | 81 => v = .pointer (some ⟨w.heap.size, 0, none⟩)
  | 82 => v = .string al
  | 83 => v = .bool false
  | 84 => v = .bool false
  | 85 => v = .bool false
  | 86 => v = (.agg #[.string al, .string ah, .bool ao])
  | 87 => v = .string key
  | 88 => v = .bool false
  | 89 => v = .bool true
  | 90 => v = .bool true
  | 91 => v = .bool true
  | 92 => v = .bool true
  | 93 => v = .bool true
  | 94 => v = .bool true
  | 6 => v = .bool true
  | _ => True

/-- The two ranges lie where they were laid. -/
def AB (w : World) (B : Nat) (a b : Rng) : Prop := RBlk w B a ∧ RBlk w (B + 1) b
theorem AB.on {w w' : World} {B : Nat} {a b : Rng} (h : AB w B a b) (hb : Below w.heap.size w w') : AB w' B a b := ⟨cells_of h.1 hb, cells_of h.2 hb⟩
theorem AB.push {w : World} {B : Nat} {a b : Rng} (h : AB w B a b) (o : Obj) : AB (w.alloc o) B a b := ⟨Box.push h.1 _, Box.push h.2 _⟩
theorem AB.cells {w : World} {B : Nat} {a b : Rng} (h : AB w B a b) :
    (w.cell? ⟨B, 0, none⟩ = some (.string a.lo) ∧ w.cell? ⟨B, 1, none⟩ = some (.string a.hi) ∧ w.cell? ⟨B, 2, none⟩ = some (.bool a.op)) ∧
    (w.cell? ⟨B + 1, 0, none⟩ = some (.string b.lo) ∧ w.cell? ⟨B + 1, 1, none⟩ = some (.string b.hi) ∧ w.cell? ⟨B + 1, 2, none⟩ = some (.bool b.op)) :=
  ⟨RBlk.cells h.1, RBlk.cells h.2⟩
theorem AB.laid (w : World) (al ah bl bh : ByteArray) (ao bo : Bool) : AB ((w.alloc (rcells al ah ao)).alloc (rcells bl bh bo)) w.heap.size ⟨al, ah, ao⟩ ⟨bl, bh, bo⟩ :=
  ⟨Box.push (Box.fresh w _ _) _, Box.at_ _ _ _ (by simp)⟩

set_option maxHeartbeats 4000000 in
set_option maxRecDepth 100000 in
theorem none_walk (al ah bl bh key : ByteArray) (ao bo : Bool) (w : World) (ha : al.size ≤ maxLen ∧ ah.size ≤ maxLen) (hb : bl.size ≤ maxLen ∧ bh.size ≤ maxLen) (hk : key.size ≤ maxLen) :
    Calls Try.prog 6 #[.agg #[.string al, .string ah, .bool ao], .agg #[.string bl, .string bh, .bool bo], .string key] w fun e w' => e = .returned (.bool true) ∧ Below w.heap.size w w' := by
  unfold maxLen at hk
  have Za := Lib.hid ha
  have Zb := Lib.hid hb
  clear ha hb
  go_enter Try.func6, Try.ntmps6
  go_wp2_with fail
  refine (small_any al ah ao _ Za.out.1 Za.out.2).mono ?_
  rintro e w1 ⟨rfl, hb1⟩
  have hbz : Below w.heap.size w w1 := below2 hb1
  have HX := Lib.hid ((AB.laid w al ah bl bh ao bo).on hb1)
  clear hb1
  obtain ⟨⟨a1, a2, a3⟩, ⟨b1, b2, b3⟩⟩ := HX.out.cells
  simp only at a1 a2 a3 b1 b2 b3
  generalize smallB ⟨al, ah, ao⟩ = s1
  cases s1 with
  | false =>
    go_wp2_with fail
    refine (awake_true _).mono ?_
    rintro e w9 ⟨rfl, hb9⟩
    go_wp2
    go_ret
    exact ⟨rfl, hbz.trans (hb9.mono hbz.size)⟩
  | true =>
  go_wp2_with fail
  refine (small_any bl bh bo _ Zb.out.1 Zb.out.2).mono ?_
  rintro e w2 ⟨rfl, hb2⟩
  have hbz := hbz.trans (hb2.mono hbz.size)
  have HX := Lib.hid (HX.out.on hb2)
  clear a1 a2 a3 b1 b2 b3
  clear hb2
  obtain ⟨⟨a1, a2, a3⟩, ⟨b1, b2, b3⟩⟩ := HX.out.cells
  simp only at a1 a2 a3 b1 b2 b3
  generalize smallB ⟨bl, bh, bo⟩ = s2
  cases s2 with
  | false =>
    go_wp2_with fail
    refine (awake_true _).mono ?_
    rintro e w9 ⟨rfl, hb9⟩
    go_wp2
    go_ret
    exact ⟨rfl, hbz.trans (hb9.mono hbz.size)⟩
  | true =>
  by_cases hk3 : 300 < key.size
  · skip
    go_wp2_with fail
    refine (awake_true _).mono ?_
    rintro e w9 ⟨rfl, hb9⟩
    go_wp2
    go_ret
    exact ⟨rfl, hbz.trans (hb9.mono hbz.size)⟩
  go_upto_region 3 with fail
  go_cut [45] (fun v wx => v = .bool false ∧ AB wx w.heap.size ⟨al, ah, ao⟩ ⟨bl, bh, bo⟩ ∧ Below w.heap.size w wx)
  case first =>
    cases he : emptyB ⟨al, ah, ao⟩ with
    | true =>
      have HE := Lib.hid he
      have HIN := Lib.hid (empty_in key he)
      have HW := Lib.hid (empty_within (b := ⟨bl, bh, bo⟩) he)
      clear he
      go_wp2_with fail
      refine (empty_any al ah ao _).mono ?_
      rintro e w11 ⟨rfl, hb11⟩
      rw [HE.out]
      have hbz := hbz.trans (hb11.mono hbz.size)
      have HX := Lib.hid (HX.out.on hb11)
      clear a1 a2 a3 b1 b2 b3 hb11
      obtain ⟨⟨a1, a2, a3⟩, ⟨b1, b2, b3⟩⟩ := HX.out.cells
      simp only at a1 a2 a3 b1 b2 b3
      go_wp2_with fail
      refine (in_any al ah key ao _).mono ?_
      rintro e w12 ⟨rfl, hb12⟩
      rw [HIN.out]
      have hbz := hbz.trans (hb12.mono hbz.size)
      have HX := Lib.hid (HX.out.on hb12)
      clear a1 a2 a3 b1 b2 b3 hb12
      obtain ⟨⟨a1, a2, a3⟩, ⟨b1, b2, b3⟩⟩ := HX.out.cells
      simp only at a1 a2 a3 b1 b2 b3
      go_wp2_with fail
      refine (within_any al ah bl bh ao bo _).mono ?_
      rintro e w13 ⟨rfl, hb13⟩
      rw [HW.out]
      have hbz := hbz.trans (hb13.mono hbz.size)
      have HX := Lib.hid (HX.out.on hb13)
      clear a1 a2 a3 b1 b2 b3 hb13
      obtain ⟨⟨a1, a2, a3⟩, ⟨b1, b2, b3⟩⟩ := HX.out.cells
      simp only at a1 a2 a3 b1 b2 b3
      go_wp2_with fail
      refine (in_any al ah key ao _).mono ?_
      rintro e w14 ⟨rfl, hb14⟩
      rw [HIN.out]
      have hbz := hbz.trans (hb14.mono hbz.size)
      have HX := Lib.hid (HX.out.on hb14)
      clear a1 a2 a3 b1 b2 b3 hb14
      obtain ⟨⟨a1, a2, a3⟩, ⟨b1, b2, b3⟩⟩ := HX.out.cells
      simp only at a1 a2 a3 b1 b2 b3
      go_wp2
      go_meet
      case rel => exact ⟨rfl, HX.out, hbz⟩
    | false =>
      have HE := Lib.hid he
      clear he
      go_wp2_with fail
      refine (empty_any al ah ao _).mono ?_
      rintro e w15 ⟨rfl, hb15⟩
      rw [HE.out]
      have hbz := hbz.trans (hb15.mono hbz.size)
      have HX := Lib.hid (HX.out.on hb15)
      clear a1 a2 a3 b1 b2 b3 hb15
      obtain ⟨⟨a1, a2, a3⟩, ⟨b1, b2, b3⟩⟩ := HX.out.cells
      simp only at a1 a2 a3 b1 b2 b3
      cases hin : inB ⟨al, ah, ao⟩ key with
      | false =>
        have HIN := Lib.hid hin
        clear hin
        go_wp2_with fail
        refine (in_any al ah key ao _).mono ?_
        rintro e w16 ⟨rfl, hb16⟩
        rw [HIN.out]
        have hbz := hbz.trans (hb16.mono hbz.size)
        have HX := Lib.hid (HX.out.on hb16)
        clear a1 a2 a3 b1 b2 b3 hb16
        obtain ⟨⟨a1, a2, a3⟩, ⟨b1, b2, b3⟩⟩ := HX.out.cells
        simp only at a1 a2 a3 b1 b2 b3
        go_wp2
        go_meet
        case rel => exact ⟨rfl, HX.out, hbz⟩
      | true =>
        have HIN := Lib.hid hin
        clear hin
        go_wp2_with fail
        refine (in_any al ah key ao _).mono ?_
        rintro e w17 ⟨rfl, hb17⟩
        rw [HIN.out]
        have hbz := hbz.trans (hb17.mono hbz.size)
        have HX := Lib.hid (HX.out.on hb17)
        clear a1 a2 a3 b1 b2 b3 hb17
        obtain ⟨⟨a1, a2, a3⟩, ⟨b1, b2, b3⟩⟩ := HX.out.cells
        simp only at a1 a2 a3 b1 b2 b3
        go_wp2_with fail
        refine (empty_any al ah ao _).mono ?_
        rintro e w18 ⟨rfl, hb18⟩
        rw [HE.out]
        have hbz := hbz.trans (hb18.mono hbz.size)
        have HX := Lib.hid (HX.out.on hb18)
        clear a1 a2 a3 b1 b2 b3 hb18
        obtain ⟨⟨a1, a2, a3⟩, ⟨b1, b2, b3⟩⟩ := HX.out.cells
        simp only at a1 a2 a3 b1 b2 b3
        go_wp2
        go_meet
        case rel => exact ⟨rfl, HX.out, hbz⟩
  case rest =>
    obtain ⟨rfl, hX, hbx⟩ := hcut
    have HX := Lib.hid hX
    clear hX a1 a2 a3 b1 b2 b3 hbz
    have hbz := hbx
    obtain ⟨⟨a1, a2, a3⟩, ⟨b1, b2, b3⟩⟩ := HX.out.cells
    simp only at a1 a2 a3 b1 b2 b3
    have hlt5 : w.heap.size < wc.heap.size := Box.lt HX.out.1
    have hlt6 : w.heap.size + 1 < wc.heap.size := Box.lt HX.out.2
    go_upto_region 5 with fail
    go_cut [7, 8] (fun v7 v8 wx => ∃ g7 g8 : Nat, v7 = .pointer (some ⟨g7, 0, none⟩) ∧ v8 = .pointer (some ⟨g8, 0, none⟩) ∧ RBlk wx g7 ⟨al, key, false⟩ ∧ RBlk wx g8 ⟨key, ah, ao⟩ ∧ AB wx w.heap.size ⟨al, ah, ao⟩ ⟨bl, bh, bo⟩ ∧ Below w.heap.size w wx)
    case first =>
      go_region
      all_goals go_wp2_with fail
      all_goals go_meet
      case' rel => exact ⟨wc.heap.size, wc.heap.size + 1, rfl, rfl, Box.push (Box.fresh wc _ _) _, Box.at_ _ _ _ (by simp), (HX.out.push _).push _, ((hbz.alloc hbz.size _).alloc (by have := hbz.size; simp; omega) _).drew⟩
      case' rel => exact ⟨wc.heap.size + 1, wc.heap.size, rfl, rfl, Box.at_ _ _ _ (by simp), Box.push (Box.fresh wc _ _) _, (HX.out.push _).push _, ((hbz.alloc hbz.size _).alloc (by have := hbz.size; simp; omega) _).drew⟩
    case rest =>
      obtain ⟨g7, g8, rfl, rfl, hlow, hhigh, hX2, hbx2⟩ := hcut
      have HX := Lib.hid hX2
      have HLO := Lib.hid hlow
      have HHI := Lib.hid hhigh
      have hbz := hbx2
      clear a1 a2 a3 b1 b2 b3
      obtain ⟨⟨a1, a2, a3⟩, ⟨b1, b2, b3⟩⟩ := HX.out.cells
      obtain ⟨d1, d2, d3⟩ := RBlk.cells hlow
      obtain ⟨e1, e2, e3⟩ := RBlk.cells hhigh
      simp only at a1 a2 a3 b1 b2 b3 d1 d2 d3 e1 e2 e3
      clear hlow hhigh hX2
      have hlow := halves ⟨al, ah, ao⟩ key
      simp only at hlow
      have h0 := meet_two al key key ah false ao wc wc.heap.size rfl
      have HHV := Lib.hid (halves_in ⟨al, ah, ao⟩ key bl)
      generalize meetL [⟨al, key, false⟩, ⟨key, ah, ao⟩] = m at *
      obtain ⟨ml, mh, mo⟩ := m
      have HEM := Lib.hid hlow
      clear hlow
      unfold Rng.v at h0
      go_wp2_with fail
      refine h0.mono ?_
      clear h0
      rintro e w5 ⟨rfl, hb5⟩
      have hbz := hbz.trans (hb5.mono hbz.size)
      have HX := Lib.hid (HX.out.on hb5)
      have HLO := Lib.hid (cells_of HLO.out hb5)
      have HHI := Lib.hid (cells_of HHI.out hb5)
      clear a1 a2 a3 b1 b2 b3 d1 d2 d3 e1 e2 e3 hb5
      have hlt7 : w.heap.size + 1 < w5.heap.size := Box.lt HX.out.2
      have hlt8 : g7 < w5.heap.size := Box.lt HLO.out
      have hlt9 : g8 < w5.heap.size := Box.lt HHI.out
      go_wp2
      have hby := hbz.alloc hbz.size (rcells ml mh mo)
      obtain ⟨wy, hwy⟩ : ∃ wy, wy = w5.alloc (rcells ml mh mo) := ⟨_, rfl⟩
      rw [← hwy] at hby
      have HCA := Lib.hid (show ∀ w', Below wy.heap.size wy w' → w'.cell? ⟨w.heap.size, 0, none⟩ = some (.string al) ∧ w'.cell? ⟨w.heap.size, 1, none⟩ = some (.string ah) ∧ w'.cell? ⟨w.heap.size, 2, none⟩ = some (.bool ao) from fun w' h => RBlk.cells (r := ⟨al, ah, ao⟩) (cells_of (by rw [hwy]; exact Box.push HX.out.1 _) h))
      have HCB := Lib.hid (show ∀ w', Below wy.heap.size wy w' → w'.cell? ⟨w.heap.size + 1, 0, none⟩ = some (.string bl) ∧ w'.cell? ⟨w.heap.size + 1, 1, none⟩ = some (.string bh) ∧ w'.cell? ⟨w.heap.size + 1, 2, none⟩ = some (.bool bo) from fun w' h => RBlk.cells (r := ⟨bl, bh, bo⟩) (cells_of (by rw [hwy]; exact Box.push HX.out.2 _) h))
      have HCL := Lib.hid (show ∀ w', Below wy.heap.size wy w' → w'.cell? ⟨g7, 0, none⟩ = some (.string al) ∧ w'.cell? ⟨g7, 1, none⟩ = some (.string key) ∧ w'.cell? ⟨g7, 2, none⟩ = some (.bool false) from fun w' h => RBlk.cells (r := ⟨al, key, false⟩) (cells_of (by rw [hwy]; exact Box.push HLO.out _) h))
      have HCG := Lib.hid (show ∀ w', Below wy.heap.size wy w' → w'.cell? ⟨g8, 0, none⟩ = some (.string key) ∧ w'.cell? ⟨g8, 1, none⟩ = some (.string ah) ∧ w'.cell? ⟨g8, 2, none⟩ = some (.bool ao) from fun w' h => RBlk.cells (r := ⟨key, ah, ao⟩) (cells_of (by rw [hwy]; exact Box.push HHI.out _) h))
      have HCM := Lib.hid (show ∀ w', Below wy.heap.size wy w' → w'.cell? ⟨w5.heap.size, 0, none⟩ = some (.string ml) ∧ w'.cell? ⟨w5.heap.size, 1, none⟩ = some (.string mh) ∧ w'.cell? ⟨w5.heap.size, 2, none⟩ = some (.bool mo) from fun w' h => RBlk.cells (r := ⟨ml, mh, mo⟩) (cells_of (by rw [hwy]; exact Box.fresh _ _ _) h))
      rw [← hwy]
      clear hwy
      have HEA := Lib.hid (show ∀ w' : World, Calls Try.prog 16 #[.agg #[.string ml, .string mh, .bool mo]] w' fun e w'' => e = .returned (.bool true) ∧ Below w'.heap.size w' w'' from fun w' => by have h := empty_any ml mh mo w'; rwa [HEM.out] at h)
      cases hx : inB ⟨al, ah, ao⟩ bl with
      | false =>
        have HIX := Lib.hid (show ∀ w' : World, Calls Try.prog 13 #[.agg #[.string al, .string ah, .bool ao], .string bl] w' fun e w'' => e = .returned (.bool false) ∧ Below w'.heap.size w' w'' from fun w' => by have h := in_any al ah bl ao w'; rwa [hx] at h)
        clear hx
        refine wp_region_inv [60, 61, 62, 63, 64, 65, 66, 67, 68, 69, 70, 71, 72, 73, 74, 75, 76, 77, 78, 79, 80, 81, 82, 83, 84, 85, 86, 87, 88, 89, 90, 91, 92, 93, 94, 6] (by kernel_rfl) (by kernel_rfl) (fun w' => Below wy.heap.size wy w') (fun w1 w2 => Below w1.heap.size w1 w2) (NoneVF w al ah bl ml mh key ao mo true true) (by kernel_rfl) (fun w1 w2 h1 h2 => h2.trans (h1.mono h2.size)) (fun t v w1 w2 h1 h2 => h2) (Below.refl _ _).drew (steps_of ?_) ?_
        · refine Steps1.cons (fun ax wx hS hG => ?_) (Steps1.cons (fun ax wx hS hG => ?_) (Steps1.cons (fun ax wx hS hG => ?_) (Steps1.cons (fun ax wx hS hG => ?_) (Steps1.cons (fun ax wx hS hG => ?_) (Steps1.cons (fun ax wx hS hG => ?_) (Steps1.cons (fun ax wx hS hG => ?_) (Steps1.cons (fun ax wx hS hG => ?_) (Steps1.cons (fun ax wx hS hG => ?_) (Steps1.cons (fun ax wx hS hG => ?_) (Steps1.cons (fun ax wx hS hG => ?_) (Steps1.cons (fun ax wx hS hG => ?_) (Steps1.cons (fun ax wx hS hG => ?_) (Steps1.cons (fun ax wx hS hG => ?_) (Steps1.cons (fun ax wx hS hG => ?_) (Steps1.cons (fun ax wx hS hG => ?_) (Steps1.cons (fun ax wx hS hG => ?_) (Steps1.cons (fun ax wx hS hG => ?_) (Steps1.cons (fun ax wx hS hG => ?_) (Steps1.cons (fun ax wx hS hG => ?_) (Steps1.cons (fun ax wx hS hG => ?_) (Steps1.cons (fun ax wx hS hG => ?_) (Steps1.cons (fun ax wx hS hG => ?_) (Steps1.cons (fun ax wx hS hG => ?_) (Steps1.cons (fun ax wx hS hG => ?_) (Steps1.cons (fun ax wx hS hG => ?_) (Steps1.cons (fun ax wx hS hG => ?_) (Steps1.cons (fun ax wx hS hG => ?_) (Steps1.cons (fun ax wx hS hG => ?_) (Steps1.cons (fun ax wx hS hG => ?_) (Steps1.cons (fun ax wx hS hG => ?_) (Steps1.cons (fun ax wx hS hG => ?_) (Steps1.cons (fun ax wx hS hG => ?_) (Steps1.cons (fun ax wx hS hG => ?_) (Steps1.cons (fun ax wx hS hG => ?_) (Steps1.cons (fun ax wx hS hG => ?_) Steps1.nil)))))))))))))))))))))))))))))))))))
          · have q9 := hG.old 9 (by kernel_rfl) (by kernel_rfl)
            obtain ⟨z0, z1, z2⟩ := HCM.out wx hS
            refine step_value (v := (.agg #[.string ml, .string mh, .bool mo])) (w' := wx) rfl rfl ?_ (Below.refl _ _) (fun d hd => by cases hd; exact rfl)
            go_simp
          · obtain ⟨_, q60, rfl⟩ := hG.new 60 (by kernel_rfl) (by kernel_rfl)
            refine step_call (w1 := wx) (f := 16) (args := #[.agg #[.string ml, .string mh, .bool mo]]) rfl rfl ?_ ((HEA.out wx).mono ?_)
            · go_simp
            · rintro e w' ⟨rfl, hq⟩
              exact ⟨_, rfl, hq, fun d hd => by cases hd; exact rfl⟩
          · obtain ⟨_, q61, rfl⟩ := hG.new 61 (by kernel_rfl) (by kernel_rfl)
            refine step_value (v := .bool true) (w' := wx) rfl rfl ?_ (Below.refl _ _) (fun d hd => by cases hd; exact rfl)
            go_simp
          · have q3 := hG.old 3 (by kernel_rfl) (by kernel_rfl)
            obtain ⟨_, q62, rfl⟩ := hG.new 62 (by kernel_rfl) (by kernel_rfl)
            obtain ⟨z0, z1, z2⟩ := HCA.out wx hS
            refine step_value (v := (.agg #[.string al, .string ah, .bool ao])) (w' := wx) rfl (by simp [Region.wanted, yielded, q62]) ?_ (Below.refl _ _) (fun d hd => by cases hd; exact rfl)
            go_simp
          · have q4 := hG.old 4 (by kernel_rfl) (by kernel_rfl)
            obtain ⟨_, q62, rfl⟩ := hG.new 62 (by kernel_rfl) (by kernel_rfl)
            refine step_value (v := .pointer (some ⟨w.heap.size + 1, 0, none⟩)) (w' := wx) rfl (by simp [Region.wanted, yielded, q62]) ?_ (Below.refl _ _) (fun d hd => by cases hd; exact rfl)
            go_simp
          · obtain ⟨_, q64, rfl⟩ := hG.new 64 (by kernel_rfl) (by kernel_rfl)
            obtain ⟨_, q62, rfl⟩ := hG.new 62 (by kernel_rfl) (by kernel_rfl)
            obtain ⟨z0, z1, z2⟩ := HCB.out wx hS
            refine step_value (v := .string bl) (w' := wx) rfl (by simp [Region.wanted, yielded, q62]) ?_ (Below.refl _ _) (fun d hd => by cases hd; exact rfl)
            go_simp
          · obtain ⟨_, q63, rfl⟩ := hG.new 63 (by kernel_rfl) (by kernel_rfl)
            obtain ⟨_, q65, rfl⟩ := hG.new 65 (by kernel_rfl) (by kernel_rfl)
            obtain ⟨_, q62, rfl⟩ := hG.new 62 (by kernel_rfl) (by kernel_rfl)
            refine step_call (w1 := wx) (f := 13) (args := #[.agg #[.string al, .string ah, .bool ao], .string bl]) rfl (by simp [Region.wanted, yielded, q62]) ?_ ((HIX.out wx).mono ?_)
            · go_simp
            · rintro e w' ⟨rfl, hq⟩
              exact ⟨_, rfl, hq, fun d hd => by cases hd; exact rfl⟩
          · obtain ⟨_, q66, rfl⟩ := hG.new 66 (by kernel_rfl) (by kernel_rfl)
            obtain ⟨_, q62, rfl⟩ := hG.new 62 (by kernel_rfl) (by kernel_rfl)
            refine step_value (v := .bool true) (w' := wx) rfl (by simp [Region.wanted, yielded, q62]) ?_ (Below.refl _ _) (fun d hd => by cases hd; exact rfl)
            go_simp
          · obtain ⟨_, q67, rfl⟩ := hG.new 67 (by kernel_rfl) (by kernel_rfl)
            obtain ⟨_, q62, rfl⟩ := hG.new 62 (by kernel_rfl) (by kernel_rfl)
            refine step_value (v := .bool true) (w' := wx) rfl (by simp [Region.wanted, yielded, q62]) ?_ (Below.refl _ _) (fun d hd => by cases hd; exact rfl)
            go_simp
          · obtain ⟨_, q68, rfl⟩ := hG.new 68 (by kernel_rfl) (by kernel_rfl)
            refine step_past rfl (by simp [Region.wanted, yielded, q68]) (Below.refl _ _) (fun d hd => by cases hd; exact rfl)
          · obtain ⟨_, q68, rfl⟩ := hG.new 68 (by kernel_rfl) (by kernel_rfl)
            refine step_past rfl (by simp [Region.wanted, yielded, q68]) (Below.refl _ _) (fun d hd => by cases hd; exact rfl)
          · obtain ⟨_, q68, rfl⟩ := hG.new 68 (by kernel_rfl) (by kernel_rfl)
            refine step_past rfl (by simp [Region.wanted, yielded, q68]) (Below.refl _ _) (fun d hd => by cases hd; exact rfl)
          · obtain ⟨_, q68, rfl⟩ := hG.new 68 (by kernel_rfl) (by kernel_rfl)
            refine step_past rfl (by simp [Region.wanted, yielded, q68]) (Below.refl _ _) (fun d hd => by cases hd; exact rfl)
          · obtain ⟨_, q68, rfl⟩ := hG.new 68 (by kernel_rfl) (by kernel_rfl)
            refine step_past rfl (by simp [Region.wanted, yielded, q68]) (Below.refl _ _) (fun d hd => by cases hd; exact rfl)
          · obtain ⟨_, q68, rfl⟩ := hG.new 68 (by kernel_rfl) (by kernel_rfl)
            refine step_past rfl (by simp [Region.wanted, yielded, q68]) (Below.refl _ _) (fun d hd => by cases hd; exact rfl)
          · obtain ⟨_, q68, rfl⟩ := hG.new 68 (by kernel_rfl) (by kernel_rfl)
            refine step_past rfl (by simp [Region.wanted, yielded, q68]) (Below.refl _ _) (fun d hd => by cases hd; exact rfl)
          · obtain ⟨_, q68, rfl⟩ := hG.new 68 (by kernel_rfl) (by kernel_rfl)
            refine step_past rfl (by simp [Region.wanted, yielded, q68]) (Below.refl _ _) (fun d hd => by cases hd; exact rfl)
          · obtain ⟨_, q68, rfl⟩ := hG.new 68 (by kernel_rfl) (by kernel_rfl)
            refine step_past rfl (by simp [Region.wanted, yielded, q68]) (Below.refl _ _) (fun d hd => by cases hd; exact rfl)
          · obtain ⟨_, q68, rfl⟩ := hG.new 68 (by kernel_rfl) (by kernel_rfl)
            obtain ⟨_, q77, rfl⟩ := hG.new 77 (by kernel_rfl) (by kernel_rfl)
            obtain ⟨_, q62, rfl⟩ := hG.new 62 (by kernel_rfl) (by kernel_rfl)
            refine step_value (v := .bool true) (w' := wx) rfl (by simp [Region.wanted, yielded, q62]) ?_ (Below.refl _ _) (fun d hd => by cases hd; exact rfl)
            go_simp
          · obtain ⟨_, q78, rfl⟩ := hG.new 78 (by kernel_rfl) (by kernel_rfl)
            obtain ⟨_, q62, rfl⟩ := hG.new 62 (by kernel_rfl) (by kernel_rfl)
            refine step_value (v := .bool true) (w' := wx) rfl (by simp [Region.wanted, yielded, q62]) ?_ (Below.refl _ _) (fun d hd => by cases hd; exact rfl)
            go_simp
          · obtain ⟨_, q79, rfl⟩ := hG.new 79 (by kernel_rfl) (by kernel_rfl)
            refine step_past rfl (by simp [Region.wanted, yielded, q79]) (Below.refl _ _) (fun d hd => by cases hd; exact rfl)
          · obtain ⟨_, q79, rfl⟩ := hG.new 79 (by kernel_rfl) (by kernel_rfl)
            refine step_past rfl (by simp [Region.wanted, yielded, q79]) (Below.refl _ _) (fun d hd => by cases hd; exact rfl)
          · obtain ⟨_, q79, rfl⟩ := hG.new 79 (by kernel_rfl) (by kernel_rfl)
            refine step_past rfl (by simp [Region.wanted, yielded, q79]) (Below.refl _ _) (fun d hd => by cases hd; exact rfl)
          · obtain ⟨_, q79, rfl⟩ := hG.new 79 (by kernel_rfl) (by kernel_rfl)
            refine step_past rfl (by simp [Region.wanted, yielded, q79]) (Below.refl _ _) (fun d hd => by cases hd; exact rfl)
          · obtain ⟨_, q79, rfl⟩ := hG.new 79 (by kernel_rfl) (by kernel_rfl)
            obtain ⟨_, q83, rfl⟩ := hG.new 83 (by kernel_rfl) (by kernel_rfl)
            obtain ⟨_, q62, rfl⟩ := hG.new 62 (by kernel_rfl) (by kernel_rfl)
            refine step_value (v := .bool true) (w' := wx) rfl (by simp [Region.wanted, yielded, q62]) ?_ (Below.refl _ _) (fun d hd => by cases hd; exact rfl)
            go_simp
          · obtain ⟨_, q84, rfl⟩ := hG.new 84 (by kernel_rfl) (by kernel_rfl)
            obtain ⟨_, q62, rfl⟩ := hG.new 62 (by kernel_rfl) (by kernel_rfl)
            refine step_value (v := .bool true) (w' := wx) rfl (by simp [Region.wanted, yielded, q62]) ?_ (Below.refl _ _) (fun d hd => by cases hd; exact rfl)
            go_simp
          · obtain ⟨_, q85, rfl⟩ := hG.new 85 (by kernel_rfl) (by kernel_rfl)
            refine step_past rfl (by simp [Region.wanted, yielded, q85]) (Below.refl _ _) (fun d hd => by cases hd; exact rfl)
          · obtain ⟨_, q85, rfl⟩ := hG.new 85 (by kernel_rfl) (by kernel_rfl)
            refine step_past rfl (by simp [Region.wanted, yielded, q85]) (Below.refl _ _) (fun d hd => by cases hd; exact rfl)
          · obtain ⟨_, q85, rfl⟩ := hG.new 85 (by kernel_rfl) (by kernel_rfl)
            refine step_past rfl (by simp [Region.wanted, yielded, q85]) (Below.refl _ _) (fun d hd => by cases hd; exact rfl)
          · obtain ⟨_, q85, rfl⟩ := hG.new 85 (by kernel_rfl) (by kernel_rfl)
            refine step_past rfl (by simp [Region.wanted, yielded, q85]) (Below.refl _ _) (fun d hd => by cases hd; exact rfl)
          · obtain ⟨_, q85, rfl⟩ := hG.new 85 (by kernel_rfl) (by kernel_rfl)
            obtain ⟨_, q89, rfl⟩ := hG.new 89 (by kernel_rfl) (by kernel_rfl)
            obtain ⟨_, q62, rfl⟩ := hG.new 62 (by kernel_rfl) (by kernel_rfl)
            refine step_value (v := .bool true) (w' := wx) rfl (by simp [Region.wanted, yielded, q62]) ?_ (Below.refl _ _) (fun d hd => by cases hd; exact rfl)
            go_simp
          · obtain ⟨_, q62, rfl⟩ := hG.new 62 (by kernel_rfl) (by kernel_rfl)
            obtain ⟨_, q90, rfl⟩ := hG.new 90 (by kernel_rfl) (by kernel_rfl)
            refine step_value (v := .bool true) (w' := wx) rfl rfl ?_ (Below.refl _ _) (fun d hd => by cases hd; exact rfl)
            go_simp
          · obtain ⟨_, q91, rfl⟩ := hG.new 91 (by kernel_rfl) (by kernel_rfl)
            refine step_value (v := .bool true) (w' := wx) rfl rfl ?_ (Below.refl _ _) (fun d hd => by cases hd; exact rfl)
            go_simp
          · obtain ⟨_, q92, rfl⟩ := hG.new 92 (by kernel_rfl) (by kernel_rfl)
            refine step_call (w1 := wx) (f := 8) (args := #[]) rfl (by simp [Region.wanted, yielded, q92]) ?_ ((awake_true wx).mono ?_)
            · go_simp
            · rintro e w' ⟨rfl, hq⟩
              exact ⟨_, rfl, hq, fun d hd => by cases hd; exact rfl⟩
          · obtain ⟨_, q92, rfl⟩ := hG.new 92 (by kernel_rfl) (by kernel_rfl)
            obtain ⟨_, q93, rfl⟩ := hG.new 93 (by kernel_rfl) (by kernel_rfl)
            refine step_value (v := .bool true) (w' := wx) rfl rfl ?_ (Below.refl _ _) (fun d hd => by cases hd; exact rfl)
            go_simp
          · obtain ⟨_, q94, rfl⟩ := hG.new 94 (by kernel_rfl) (by kernel_rfl)
            refine step_value (v := .bool true) (w' := wx) rfl rfl ?_ (Below.refl _ _) (fun d hd => by cases hd; exact rfl)
            go_simp
        · intro f w' hS hV
          have h6 : f 6 = .bool true := hV 6 (by decide)
          simp only [puts, Act.put, List.setIfInBounds_toArray, List.set_cons_succ, List.set_cons_zero]
          go_wp2
          go_ret
          try rw [h6]
          exact ⟨rfl, hby.trans (hS.mono hby.size)⟩
      | true =>
        have HIX := Lib.hid (show ∀ w' : World, Calls Try.prog 13 #[.agg #[.string al, .string ah, .bool ao], .string bl] w' fun e w'' => e = .returned (.bool true) ∧ Below w'.heap.size w' w'' from fun w' => by have h := in_any al ah bl ao w'; rwa [hx] at h)
        have HP := Lib.hid (HHV.out hx)
        clear hx
        have HIL := Lib.hid (show ∀ w' : World, Calls Try.prog 13 #[.agg #[.string al, .string key, .bool false], .string bl] w' fun e w'' => e = .returned (.bool (inB ⟨al, key, false⟩ bl)) ∧ Below w'.heap.size w' w'' from fun w' => in_any al key bl false w')
        have HIG := Lib.hid (show ∀ w' : World, Calls Try.prog 13 #[.agg #[.string key, .string ah, .bool ao], .string bl] w' fun e w'' => e = .returned (.bool (inB ⟨key, ah, ao⟩ bl)) ∧ Below w'.heap.size w' w'' from fun w' => in_any key ah bl ao w')
        generalize inB ⟨al, key, false⟩ bl = p at *
        generalize inB ⟨key, ah, ao⟩ bl = q at *
        cases hd : (p != q) with
        | true =>
          refine wp_region_inv [60, 61, 62, 63, 64, 65, 66, 67, 68, 69, 70, 71, 72, 73, 74, 75, 76, 77, 78, 79, 80, 81, 82, 83, 84, 85, 86, 87, 88, 89, 90, 91, 92, 93, 94, 6] (by kernel_rfl) (by kernel_rfl) (fun w' => Below wy.heap.size wy w') (fun w1 w2 => Below w1.heap.size w1 w2) (NoneVTT w al ah bl ml mh key ao mo p q) (by kernel_rfl) (fun w1 w2 h1 h2 => h2.trans (h1.mono h2.size)) (fun t v w1 w2 h1 h2 => h2) (Below.refl _ _).drew (steps_of ?_) ?_
          · refine Steps1.cons (fun ax wx hS hG => ?_) (Steps1.cons (fun ax wx hS hG => ?_) (Steps1.cons (fun ax wx hS hG => ?_) (Steps1.cons (fun ax wx hS hG => ?_) (Steps1.cons (fun ax wx hS hG => ?_) (Steps1.cons (fun ax wx hS hG => ?_) (Steps1.cons (fun ax wx hS hG => ?_) (Steps1.cons (fun ax wx hS hG => ?_) (Steps1.cons (fun ax wx hS hG => ?_) (Steps1.cons (fun ax wx hS hG => ?_) (Steps1.cons (fun ax wx hS hG => ?_) (Steps1.cons (fun ax wx hS hG => ?_) (Steps1.cons (fun ax wx hS hG => ?_) (Steps1.cons (fun ax wx hS hG => ?_) (Steps1.cons (fun ax wx hS hG => ?_) (Steps1.cons (fun ax wx hS hG => ?_) (Steps1.cons (fun ax wx hS hG => ?_) (Steps1.cons (fun ax wx hS hG => ?_) (Steps1.cons (fun ax wx hS hG => ?_) (Steps1.cons (fun ax wx hS hG => ?_) (Steps1.cons (fun ax wx hS hG => ?_) (Steps1.cons (fun ax wx hS hG => ?_) (Steps1.cons (fun ax wx hS hG => ?_) (Steps1.cons (fun ax wx hS hG => ?_) (Steps1.cons (fun ax wx hS hG => ?_) (Steps1.cons (fun ax wx hS hG => ?_) (Steps1.cons (fun ax wx hS hG => ?_) (Steps1.cons (fun ax wx hS hG => ?_) (Steps1.cons (fun ax wx hS hG => ?_) (Steps1.cons (fun ax wx hS hG => ?_) (Steps1.cons (fun ax wx hS hG => ?_) (Steps1.cons (fun ax wx hS hG => ?_) (Steps1.cons (fun ax wx hS hG => ?_) (Steps1.cons (fun ax wx hS hG => ?_) (Steps1.cons (fun ax wx hS hG => ?_) (Steps1.cons (fun ax wx hS hG => ?_) Steps1.nil)))))))))))))))))))))))))))))))))))
            · have q9 := hG.old 9 (by kernel_rfl) (by kernel_rfl)
              obtain ⟨z0, z1, z2⟩ := HCM.out wx hS
              refine step_value (v := (.agg #[.string ml, .string mh, .bool mo])) (w' := wx) rfl rfl ?_ (Below.refl _ _) (fun d hd => by cases hd; exact rfl)
              go_simp
            · obtain ⟨_, q60, rfl⟩ := hG.new 60 (by kernel_rfl) (by kernel_rfl)
              refine step_call (w1 := wx) (f := 16) (args := #[.agg #[.string ml, .string mh, .bool mo]]) rfl rfl ?_ ((HEA.out wx).mono ?_)
              · go_simp
              · rintro e w' ⟨rfl, hq⟩
                exact ⟨_, rfl, hq, fun d hd => by cases hd; exact rfl⟩
            · obtain ⟨_, q61, rfl⟩ := hG.new 61 (by kernel_rfl) (by kernel_rfl)
              refine step_value (v := .bool true) (w' := wx) rfl rfl ?_ (Below.refl _ _) (fun d hd => by cases hd; exact rfl)
              go_simp
            · have q3 := hG.old 3 (by kernel_rfl) (by kernel_rfl)
              obtain ⟨_, q62, rfl⟩ := hG.new 62 (by kernel_rfl) (by kernel_rfl)
              obtain ⟨z0, z1, z2⟩ := HCA.out wx hS
              refine step_value (v := (.agg #[.string al, .string ah, .bool ao])) (w' := wx) rfl (by simp [Region.wanted, yielded, q62]) ?_ (Below.refl _ _) (fun d hd => by cases hd; exact rfl)
              go_simp
            · have q4 := hG.old 4 (by kernel_rfl) (by kernel_rfl)
              obtain ⟨_, q62, rfl⟩ := hG.new 62 (by kernel_rfl) (by kernel_rfl)
              refine step_value (v := .pointer (some ⟨w.heap.size + 1, 0, none⟩)) (w' := wx) rfl (by simp [Region.wanted, yielded, q62]) ?_ (Below.refl _ _) (fun d hd => by cases hd; exact rfl)
              go_simp
            · obtain ⟨_, q64, rfl⟩ := hG.new 64 (by kernel_rfl) (by kernel_rfl)
              obtain ⟨_, q62, rfl⟩ := hG.new 62 (by kernel_rfl) (by kernel_rfl)
              obtain ⟨z0, z1, z2⟩ := HCB.out wx hS
              refine step_value (v := .string bl) (w' := wx) rfl (by simp [Region.wanted, yielded, q62]) ?_ (Below.refl _ _) (fun d hd => by cases hd; exact rfl)
              go_simp
            · obtain ⟨_, q63, rfl⟩ := hG.new 63 (by kernel_rfl) (by kernel_rfl)
              obtain ⟨_, q65, rfl⟩ := hG.new 65 (by kernel_rfl) (by kernel_rfl)
              obtain ⟨_, q62, rfl⟩ := hG.new 62 (by kernel_rfl) (by kernel_rfl)
              refine step_call (w1 := wx) (f := 13) (args := #[.agg #[.string al, .string ah, .bool ao], .string bl]) rfl (by simp [Region.wanted, yielded, q62]) ?_ ((HIX.out wx).mono ?_)
              · go_simp
              · rintro e w' ⟨rfl, hq⟩
                exact ⟨_, rfl, hq, fun d hd => by cases hd; exact rfl⟩
            · obtain ⟨_, q66, rfl⟩ := hG.new 66 (by kernel_rfl) (by kernel_rfl)
              obtain ⟨_, q62, rfl⟩ := hG.new 62 (by kernel_rfl) (by kernel_rfl)
              refine step_value (v := .bool false) (w' := wx) rfl (by simp [Region.wanted, yielded, q62]) ?_ (Below.refl _ _) (fun d hd => by cases hd; exact rfl)
              go_simp
            · obtain ⟨_, q67, rfl⟩ := hG.new 67 (by kernel_rfl) (by kernel_rfl)
              obtain ⟨_, q62, rfl⟩ := hG.new 62 (by kernel_rfl) (by kernel_rfl)
              refine step_value (v := .bool false) (w' := wx) rfl (by simp [Region.wanted, yielded, q62]) ?_ (Below.refl _ _) (fun d hd => by cases hd; exact rfl)
              go_simp
            · have q7 := hG.old 7 (by kernel_rfl) (by kernel_rfl)
              obtain ⟨_, q68, rfl⟩ := hG.new 68 (by kernel_rfl) (by kernel_rfl)
              obtain ⟨z0, z1, z2⟩ := HCL.out wx hS
              refine step_value (v := (.agg #[.string al, .string key, .bool false])) (w' := wx) rfl (by simp [Region.wanted, yielded, q68]) ?_ (Below.refl _ _) (fun d hd => by cases hd; exact rfl)
              go_simp
            · have q4 := hG.old 4 (by kernel_rfl) (by kernel_rfl)
              obtain ⟨_, q68, rfl⟩ := hG.new 68 (by kernel_rfl) (by kernel_rfl)
              refine step_value (v := .pointer (some ⟨w.heap.size + 1, 0, none⟩)) (w' := wx) rfl (by simp [Region.wanted, yielded, q68]) ?_ (Below.refl _ _) (fun d hd => by cases hd; exact rfl)
              go_simp
            · obtain ⟨_, q70, rfl⟩ := hG.new 70 (by kernel_rfl) (by kernel_rfl)
              obtain ⟨_, q68, rfl⟩ := hG.new 68 (by kernel_rfl) (by kernel_rfl)
              obtain ⟨z0, z1, z2⟩ := HCB.out wx hS
              refine step_value (v := .string bl) (w' := wx) rfl (by simp [Region.wanted, yielded, q68]) ?_ (Below.refl _ _) (fun d hd => by cases hd; exact rfl)
              go_simp
            · obtain ⟨_, q69, rfl⟩ := hG.new 69 (by kernel_rfl) (by kernel_rfl)
              obtain ⟨_, q71, rfl⟩ := hG.new 71 (by kernel_rfl) (by kernel_rfl)
              obtain ⟨_, q68, rfl⟩ := hG.new 68 (by kernel_rfl) (by kernel_rfl)
              refine step_call (w1 := wx) (f := 13) (args := #[.agg #[.string al, .string key, .bool false], .string bl]) rfl (by simp [Region.wanted, yielded, q68]) ?_ ((HIL.out wx).mono ?_)
              · go_simp
              · rintro e w' ⟨rfl, hq⟩
                exact ⟨_, rfl, hq, fun d hd => by cases hd; exact rfl⟩
            · have q8 := hG.old 8 (by kernel_rfl) (by kernel_rfl)
              obtain ⟨_, q68, rfl⟩ := hG.new 68 (by kernel_rfl) (by kernel_rfl)
              obtain ⟨z0, z1, z2⟩ := HCG.out wx hS
              refine step_value (v := (.agg #[.string key, .string ah, .bool ao])) (w' := wx) rfl (by simp [Region.wanted, yielded, q68]) ?_ (Below.refl _ _) (fun d hd => by cases hd; exact rfl)
              go_simp
            · have q4 := hG.old 4 (by kernel_rfl) (by kernel_rfl)
              obtain ⟨_, q68, rfl⟩ := hG.new 68 (by kernel_rfl) (by kernel_rfl)
              refine step_value (v := .pointer (some ⟨w.heap.size + 1, 0, none⟩)) (w' := wx) rfl (by simp [Region.wanted, yielded, q68]) ?_ (Below.refl _ _) (fun d hd => by cases hd; exact rfl)
              go_simp
            · obtain ⟨_, q74, rfl⟩ := hG.new 74 (by kernel_rfl) (by kernel_rfl)
              obtain ⟨_, q68, rfl⟩ := hG.new 68 (by kernel_rfl) (by kernel_rfl)
              obtain ⟨z0, z1, z2⟩ := HCB.out wx hS
              refine step_value (v := .string bl) (w' := wx) rfl (by simp [Region.wanted, yielded, q68]) ?_ (Below.refl _ _) (fun d hd => by cases hd; exact rfl)
              go_simp
            · obtain ⟨_, q73, rfl⟩ := hG.new 73 (by kernel_rfl) (by kernel_rfl)
              obtain ⟨_, q75, rfl⟩ := hG.new 75 (by kernel_rfl) (by kernel_rfl)
              obtain ⟨_, q68, rfl⟩ := hG.new 68 (by kernel_rfl) (by kernel_rfl)
              refine step_call (w1 := wx) (f := 13) (args := #[.agg #[.string key, .string ah, .bool ao], .string bl]) rfl (by simp [Region.wanted, yielded, q68]) ?_ ((HIG.out wx).mono ?_)
              · go_simp
              · rintro e w' ⟨rfl, hq⟩
                exact ⟨_, rfl, hq, fun d hd => by cases hd; exact rfl⟩
            · obtain ⟨_, q72, rfl⟩ := hG.new 72 (by kernel_rfl) (by kernel_rfl)
              obtain ⟨_, q76, rfl⟩ := hG.new 76 (by kernel_rfl) (by kernel_rfl)
              obtain ⟨_, q68, rfl⟩ := hG.new 68 (by kernel_rfl) (by kernel_rfl)
              refine step_value (v := .bool true) (w' := wx) rfl (by simp [Region.wanted, yielded, q68]) ?_ (Below.refl _ _) (fun d hd => by cases hd; exact rfl)
              (go_simp; simpa using hd)
            · obtain ⟨_, q68, rfl⟩ := hG.new 68 (by kernel_rfl) (by kernel_rfl)
              obtain ⟨_, q77, rfl⟩ := hG.new 77 (by kernel_rfl) (by kernel_rfl)
              obtain ⟨_, q62, rfl⟩ := hG.new 62 (by kernel_rfl) (by kernel_rfl)
              refine step_value (v := .bool true) (w' := wx) rfl (by simp [Region.wanted, yielded, q62]) ?_ (Below.refl _ _) (fun d hd => by cases hd; exact rfl)
              go_simp
            · obtain ⟨_, q78, rfl⟩ := hG.new 78 (by kernel_rfl) (by kernel_rfl)
              obtain ⟨_, q62, rfl⟩ := hG.new 62 (by kernel_rfl) (by kernel_rfl)
              refine step_value (v := .bool true) (w' := wx) rfl (by simp [Region.wanted, yielded, q62]) ?_ (Below.refl _ _) (fun d hd => by cases hd; exact rfl)
              go_simp
            · obtain ⟨_, q79, rfl⟩ := hG.new 79 (by kernel_rfl) (by kernel_rfl)
              refine step_past rfl (by simp [Region.wanted, yielded, q79]) (Below.refl _ _) (fun d hd => by cases hd; exact rfl)
            · obtain ⟨_, q79, rfl⟩ := hG.new 79 (by kernel_rfl) (by kernel_rfl)
              refine step_past rfl (by simp [Region.wanted, yielded, q79]) (Below.refl _ _) (fun d hd => by cases hd; exact rfl)
            · obtain ⟨_, q79, rfl⟩ := hG.new 79 (by kernel_rfl) (by kernel_rfl)
              refine step_past rfl (by simp [Region.wanted, yielded, q79]) (Below.refl _ _) (fun d hd => by cases hd; exact rfl)
            · obtain ⟨_, q79, rfl⟩ := hG.new 79 (by kernel_rfl) (by kernel_rfl)
              refine step_past rfl (by simp [Region.wanted, yielded, q79]) (Below.refl _ _) (fun d hd => by cases hd; exact rfl)
            · obtain ⟨_, q79, rfl⟩ := hG.new 79 (by kernel_rfl) (by kernel_rfl)
              obtain ⟨_, q83, rfl⟩ := hG.new 83 (by kernel_rfl) (by kernel_rfl)
              obtain ⟨_, q62, rfl⟩ := hG.new 62 (by kernel_rfl) (by kernel_rfl)
              refine step_value (v := .bool true) (w' := wx) rfl (by simp [Region.wanted, yielded, q62]) ?_ (Below.refl _ _) (fun d hd => by cases hd; exact rfl)
              go_simp
            · obtain ⟨_, q84, rfl⟩ := hG.new 84 (by kernel_rfl) (by kernel_rfl)
              obtain ⟨_, q62, rfl⟩ := hG.new 62 (by kernel_rfl) (by kernel_rfl)
              refine step_value (v := .bool true) (w' := wx) rfl (by simp [Region.wanted, yielded, q62]) ?_ (Below.refl _ _) (fun d hd => by cases hd; exact rfl)
              go_simp
            · obtain ⟨_, q85, rfl⟩ := hG.new 85 (by kernel_rfl) (by kernel_rfl)
              refine step_past rfl (by simp [Region.wanted, yielded, q85]) (Below.refl _ _) (fun d hd => by cases hd; exact rfl)
            · obtain ⟨_, q85, rfl⟩ := hG.new 85 (by kernel_rfl) (by kernel_rfl)
              refine step_past rfl (by simp [Region.wanted, yielded, q85]) (Below.refl _ _) (fun d hd => by cases hd; exact rfl)
            · obtain ⟨_, q85, rfl⟩ := hG.new 85 (by kernel_rfl) (by kernel_rfl)
              refine step_past rfl (by simp [Region.wanted, yielded, q85]) (Below.refl _ _) (fun d hd => by cases hd; exact rfl)
            · obtain ⟨_, q85, rfl⟩ := hG.new 85 (by kernel_rfl) (by kernel_rfl)
              refine step_past rfl (by simp [Region.wanted, yielded, q85]) (Below.refl _ _) (fun d hd => by cases hd; exact rfl)
            · obtain ⟨_, q85, rfl⟩ := hG.new 85 (by kernel_rfl) (by kernel_rfl)
              obtain ⟨_, q89, rfl⟩ := hG.new 89 (by kernel_rfl) (by kernel_rfl)
              obtain ⟨_, q62, rfl⟩ := hG.new 62 (by kernel_rfl) (by kernel_rfl)
              refine step_value (v := .bool true) (w' := wx) rfl (by simp [Region.wanted, yielded, q62]) ?_ (Below.refl _ _) (fun d hd => by cases hd; exact rfl)
              go_simp
            · obtain ⟨_, q62, rfl⟩ := hG.new 62 (by kernel_rfl) (by kernel_rfl)
              obtain ⟨_, q90, rfl⟩ := hG.new 90 (by kernel_rfl) (by kernel_rfl)
              refine step_value (v := .bool true) (w' := wx) rfl rfl ?_ (Below.refl _ _) (fun d hd => by cases hd; exact rfl)
              go_simp
            · obtain ⟨_, q91, rfl⟩ := hG.new 91 (by kernel_rfl) (by kernel_rfl)
              refine step_value (v := .bool true) (w' := wx) rfl rfl ?_ (Below.refl _ _) (fun d hd => by cases hd; exact rfl)
              go_simp
            · obtain ⟨_, q92, rfl⟩ := hG.new 92 (by kernel_rfl) (by kernel_rfl)
              refine step_call (w1 := wx) (f := 8) (args := #[]) rfl (by simp [Region.wanted, yielded, q92]) ?_ ((awake_true wx).mono ?_)
              · go_simp
              · rintro e w' ⟨rfl, hq⟩
                exact ⟨_, rfl, hq, fun d hd => by cases hd; exact rfl⟩
            · obtain ⟨_, q92, rfl⟩ := hG.new 92 (by kernel_rfl) (by kernel_rfl)
              obtain ⟨_, q93, rfl⟩ := hG.new 93 (by kernel_rfl) (by kernel_rfl)
              refine step_value (v := .bool true) (w' := wx) rfl rfl ?_ (Below.refl _ _) (fun d hd => by cases hd; exact rfl)
              go_simp
            · obtain ⟨_, q94, rfl⟩ := hG.new 94 (by kernel_rfl) (by kernel_rfl)
              refine step_value (v := .bool true) (w' := wx) rfl rfl ?_ (Below.refl _ _) (fun d hd => by cases hd; exact rfl)
              go_simp
          · intro f w' hS hV
            have h6 : f 6 = .bool true := hV 6 (by decide)
            simp only [puts, Act.put, List.setIfInBounds_toArray, List.set_cons_succ, List.set_cons_zero]
            go_wp2
            go_ret
            try rw [h6]
            exact ⟨rfl, hby.trans (hS.mono hby.size)⟩
        | false =>
          cases hl : Op.bytesLess key.toList al.toList with
          | true =>
            refine wp_region_inv [60, 61, 62, 63, 64, 65, 66, 67, 68, 69, 70, 71, 72, 73, 74, 75, 76, 77, 78, 79, 80, 81, 82, 83, 84, 85, 86, 87, 88, 89, 90, 91, 92, 93, 94, 6] (by kernel_rfl) (by kernel_rfl) (fun w' => Below wy.heap.size wy w') (fun w1 w2 => Below w1.heap.size w1 w2) (NoneVTFT w al ah bl ml mh key ao mo p q) (by kernel_rfl) (fun w1 w2 h1 h2 => h2.trans (h1.mono h2.size)) (fun t v w1 w2 h1 h2 => h2) (Below.refl _ _).drew (steps_of ?_) ?_
            · refine Steps1.cons (fun ax wx hS hG => ?_) (Steps1.cons (fun ax wx hS hG => ?_) (Steps1.cons (fun ax wx hS hG => ?_) (Steps1.cons (fun ax wx hS hG => ?_) (Steps1.cons (fun ax wx hS hG => ?_) (Steps1.cons (fun ax wx hS hG => ?_) (Steps1.cons (fun ax wx hS hG => ?_) (Steps1.cons (fun ax wx hS hG => ?_) (Steps1.cons (fun ax wx hS hG => ?_) (Steps1.cons (fun ax wx hS hG => ?_) (Steps1.cons (fun ax wx hS hG => ?_) (Steps1.cons (fun ax wx hS hG => ?_) (Steps1.cons (fun ax wx hS hG => ?_) (Steps1.cons (fun ax wx hS hG => ?_) (Steps1.cons (fun ax wx hS hG => ?_) (Steps1.cons (fun ax wx hS hG => ?_) (Steps1.cons (fun ax wx hS hG => ?_) (Steps1.cons (fun ax wx hS hG => ?_) (Steps1.cons (fun ax wx hS hG => ?_) (Steps1.cons (fun ax wx hS hG => ?_) (Steps1.cons (fun ax wx hS hG => ?_) (Steps1.cons (fun ax wx hS hG => ?_) (Steps1.cons (fun ax wx hS hG => ?_) (Steps1.cons (fun ax wx hS hG => ?_) (Steps1.cons (fun ax wx hS hG => ?_) (Steps1.cons (fun ax wx hS hG => ?_) (Steps1.cons (fun ax wx hS hG => ?_) (Steps1.cons (fun ax wx hS hG => ?_) (Steps1.cons (fun ax wx hS hG => ?_) (Steps1.cons (fun ax wx hS hG => ?_) (Steps1.cons (fun ax wx hS hG => ?_) (Steps1.cons (fun ax wx hS hG => ?_) (Steps1.cons (fun ax wx hS hG => ?_) (Steps1.cons (fun ax wx hS hG => ?_) (Steps1.cons (fun ax wx hS hG => ?_) (Steps1.cons (fun ax wx hS hG => ?_) Steps1.nil)))))))))))))))))))))))))))))))))))
              · have q9 := hG.old 9 (by kernel_rfl) (by kernel_rfl)
                obtain ⟨z0, z1, z2⟩ := HCM.out wx hS
                refine step_value (v := (.agg #[.string ml, .string mh, .bool mo])) (w' := wx) rfl rfl ?_ (Below.refl _ _) (fun d hd => by cases hd; exact rfl)
                go_simp
              · obtain ⟨_, q60, rfl⟩ := hG.new 60 (by kernel_rfl) (by kernel_rfl)
                refine step_call (w1 := wx) (f := 16) (args := #[.agg #[.string ml, .string mh, .bool mo]]) rfl rfl ?_ ((HEA.out wx).mono ?_)
                · go_simp
                · rintro e w' ⟨rfl, hq⟩
                  exact ⟨_, rfl, hq, fun d hd => by cases hd; exact rfl⟩
              · obtain ⟨_, q61, rfl⟩ := hG.new 61 (by kernel_rfl) (by kernel_rfl)
                refine step_value (v := .bool true) (w' := wx) rfl rfl ?_ (Below.refl _ _) (fun d hd => by cases hd; exact rfl)
                go_simp
              · have q3 := hG.old 3 (by kernel_rfl) (by kernel_rfl)
                obtain ⟨_, q62, rfl⟩ := hG.new 62 (by kernel_rfl) (by kernel_rfl)
                obtain ⟨z0, z1, z2⟩ := HCA.out wx hS
                refine step_value (v := (.agg #[.string al, .string ah, .bool ao])) (w' := wx) rfl (by simp [Region.wanted, yielded, q62]) ?_ (Below.refl _ _) (fun d hd => by cases hd; exact rfl)
                go_simp
              · have q4 := hG.old 4 (by kernel_rfl) (by kernel_rfl)
                obtain ⟨_, q62, rfl⟩ := hG.new 62 (by kernel_rfl) (by kernel_rfl)
                refine step_value (v := .pointer (some ⟨w.heap.size + 1, 0, none⟩)) (w' := wx) rfl (by simp [Region.wanted, yielded, q62]) ?_ (Below.refl _ _) (fun d hd => by cases hd; exact rfl)
                go_simp
              · obtain ⟨_, q64, rfl⟩ := hG.new 64 (by kernel_rfl) (by kernel_rfl)
                obtain ⟨_, q62, rfl⟩ := hG.new 62 (by kernel_rfl) (by kernel_rfl)
                obtain ⟨z0, z1, z2⟩ := HCB.out wx hS
                refine step_value (v := .string bl) (w' := wx) rfl (by simp [Region.wanted, yielded, q62]) ?_ (Below.refl _ _) (fun d hd => by cases hd; exact rfl)
                go_simp
              · obtain ⟨_, q63, rfl⟩ := hG.new 63 (by kernel_rfl) (by kernel_rfl)
                obtain ⟨_, q65, rfl⟩ := hG.new 65 (by kernel_rfl) (by kernel_rfl)
                obtain ⟨_, q62, rfl⟩ := hG.new 62 (by kernel_rfl) (by kernel_rfl)
                refine step_call (w1 := wx) (f := 13) (args := #[.agg #[.string al, .string ah, .bool ao], .string bl]) rfl (by simp [Region.wanted, yielded, q62]) ?_ ((HIX.out wx).mono ?_)
                · go_simp
                · rintro e w' ⟨rfl, hq⟩
                  exact ⟨_, rfl, hq, fun d hd => by cases hd; exact rfl⟩
              · obtain ⟨_, q66, rfl⟩ := hG.new 66 (by kernel_rfl) (by kernel_rfl)
                obtain ⟨_, q62, rfl⟩ := hG.new 62 (by kernel_rfl) (by kernel_rfl)
                refine step_value (v := .bool false) (w' := wx) rfl (by simp [Region.wanted, yielded, q62]) ?_ (Below.refl _ _) (fun d hd => by cases hd; exact rfl)
                go_simp
              · obtain ⟨_, q67, rfl⟩ := hG.new 67 (by kernel_rfl) (by kernel_rfl)
                obtain ⟨_, q62, rfl⟩ := hG.new 62 (by kernel_rfl) (by kernel_rfl)
                refine step_value (v := .bool false) (w' := wx) rfl (by simp [Region.wanted, yielded, q62]) ?_ (Below.refl _ _) (fun d hd => by cases hd; exact rfl)
                go_simp
              · have q7 := hG.old 7 (by kernel_rfl) (by kernel_rfl)
                obtain ⟨_, q68, rfl⟩ := hG.new 68 (by kernel_rfl) (by kernel_rfl)
                obtain ⟨z0, z1, z2⟩ := HCL.out wx hS
                refine step_value (v := (.agg #[.string al, .string key, .bool false])) (w' := wx) rfl (by simp [Region.wanted, yielded, q68]) ?_ (Below.refl _ _) (fun d hd => by cases hd; exact rfl)
                go_simp
              · have q4 := hG.old 4 (by kernel_rfl) (by kernel_rfl)
                obtain ⟨_, q68, rfl⟩ := hG.new 68 (by kernel_rfl) (by kernel_rfl)
                refine step_value (v := .pointer (some ⟨w.heap.size + 1, 0, none⟩)) (w' := wx) rfl (by simp [Region.wanted, yielded, q68]) ?_ (Below.refl _ _) (fun d hd => by cases hd; exact rfl)
                go_simp
              · obtain ⟨_, q70, rfl⟩ := hG.new 70 (by kernel_rfl) (by kernel_rfl)
                obtain ⟨_, q68, rfl⟩ := hG.new 68 (by kernel_rfl) (by kernel_rfl)
                obtain ⟨z0, z1, z2⟩ := HCB.out wx hS
                refine step_value (v := .string bl) (w' := wx) rfl (by simp [Region.wanted, yielded, q68]) ?_ (Below.refl _ _) (fun d hd => by cases hd; exact rfl)
                go_simp
              · obtain ⟨_, q69, rfl⟩ := hG.new 69 (by kernel_rfl) (by kernel_rfl)
                obtain ⟨_, q71, rfl⟩ := hG.new 71 (by kernel_rfl) (by kernel_rfl)
                obtain ⟨_, q68, rfl⟩ := hG.new 68 (by kernel_rfl) (by kernel_rfl)
                refine step_call (w1 := wx) (f := 13) (args := #[.agg #[.string al, .string key, .bool false], .string bl]) rfl (by simp [Region.wanted, yielded, q68]) ?_ ((HIL.out wx).mono ?_)
                · go_simp
                · rintro e w' ⟨rfl, hq⟩
                  exact ⟨_, rfl, hq, fun d hd => by cases hd; exact rfl⟩
              · have q8 := hG.old 8 (by kernel_rfl) (by kernel_rfl)
                obtain ⟨_, q68, rfl⟩ := hG.new 68 (by kernel_rfl) (by kernel_rfl)
                obtain ⟨z0, z1, z2⟩ := HCG.out wx hS
                refine step_value (v := (.agg #[.string key, .string ah, .bool ao])) (w' := wx) rfl (by simp [Region.wanted, yielded, q68]) ?_ (Below.refl _ _) (fun d hd => by cases hd; exact rfl)
                go_simp
              · have q4 := hG.old 4 (by kernel_rfl) (by kernel_rfl)
                obtain ⟨_, q68, rfl⟩ := hG.new 68 (by kernel_rfl) (by kernel_rfl)
                refine step_value (v := .pointer (some ⟨w.heap.size + 1, 0, none⟩)) (w' := wx) rfl (by simp [Region.wanted, yielded, q68]) ?_ (Below.refl _ _) (fun d hd => by cases hd; exact rfl)
                go_simp
              · obtain ⟨_, q74, rfl⟩ := hG.new 74 (by kernel_rfl) (by kernel_rfl)
                obtain ⟨_, q68, rfl⟩ := hG.new 68 (by kernel_rfl) (by kernel_rfl)
                obtain ⟨z0, z1, z2⟩ := HCB.out wx hS
                refine step_value (v := .string bl) (w' := wx) rfl (by simp [Region.wanted, yielded, q68]) ?_ (Below.refl _ _) (fun d hd => by cases hd; exact rfl)
                go_simp
              · obtain ⟨_, q73, rfl⟩ := hG.new 73 (by kernel_rfl) (by kernel_rfl)
                obtain ⟨_, q75, rfl⟩ := hG.new 75 (by kernel_rfl) (by kernel_rfl)
                obtain ⟨_, q68, rfl⟩ := hG.new 68 (by kernel_rfl) (by kernel_rfl)
                refine step_call (w1 := wx) (f := 13) (args := #[.agg #[.string key, .string ah, .bool ao], .string bl]) rfl (by simp [Region.wanted, yielded, q68]) ?_ ((HIG.out wx).mono ?_)
                · go_simp
                · rintro e w' ⟨rfl, hq⟩
                  exact ⟨_, rfl, hq, fun d hd => by cases hd; exact rfl⟩
              · obtain ⟨_, q72, rfl⟩ := hG.new 72 (by kernel_rfl) (by kernel_rfl)
                obtain ⟨_, q76, rfl⟩ := hG.new 76 (by kernel_rfl) (by kernel_rfl)
                obtain ⟨_, q68, rfl⟩ := hG.new 68 (by kernel_rfl) (by kernel_rfl)
                refine step_value (v := .bool false) (w' := wx) rfl (by simp [Region.wanted, yielded, q68]) ?_ (Below.refl _ _) (fun d hd => by cases hd; exact rfl)
                (go_simp; simpa using hd)
              · obtain ⟨_, q68, rfl⟩ := hG.new 68 (by kernel_rfl) (by kernel_rfl)
                obtain ⟨_, q77, rfl⟩ := hG.new 77 (by kernel_rfl) (by kernel_rfl)
                obtain ⟨_, q62, rfl⟩ := hG.new 62 (by kernel_rfl) (by kernel_rfl)
                refine step_value (v := .bool false) (w' := wx) rfl (by simp [Region.wanted, yielded, q62]) ?_ (Below.refl _ _) (fun d hd => by cases hd; exact rfl)
                go_simp
              · obtain ⟨_, q78, rfl⟩ := hG.new 78 (by kernel_rfl) (by kernel_rfl)
                obtain ⟨_, q62, rfl⟩ := hG.new 62 (by kernel_rfl) (by kernel_rfl)
                refine step_value (v := .bool false) (w' := wx) rfl (by simp [Region.wanted, yielded, q62]) ?_ (Below.refl _ _) (fun d hd => by cases hd; exact rfl)
                go_simp
              · have q2 := hG.old 2 (by kernel_rfl) (by kernel_rfl)
                obtain ⟨_, q79, rfl⟩ := hG.new 79 (by kernel_rfl) (by kernel_rfl)
                refine step_value (v := .string key) (w' := wx) rfl (by simp [Region.wanted, yielded, q79]) ?_ (Below.refl _ _) (fun d hd => by cases hd; exact rfl)
                go_simp
              · have q3 := hG.old 3 (by kernel_rfl) (by kernel_rfl)
                obtain ⟨_, q79, rfl⟩ := hG.new 79 (by kernel_rfl) (by kernel_rfl)
                refine step_value (v := .pointer (some ⟨w.heap.size, 0, none⟩)) (w' := wx) rfl (by simp [Region.wanted, yielded, q79]) ?_ (Below.refl _ _) (fun d hd => by cases hd; exact rfl)
                go_simp
              · obtain ⟨_, q81, rfl⟩ := hG.new 81 (by kernel_rfl) (by kernel_rfl)
                obtain ⟨_, q79, rfl⟩ := hG.new 79 (by kernel_rfl) (by kernel_rfl)
                obtain ⟨z0, z1, z2⟩ := HCA.out wx hS
                refine step_value (v := .string al) (w' := wx) rfl (by simp [Region.wanted, yielded, q79]) ?_ (Below.refl _ _) (fun d hd => by cases hd; exact rfl)
                go_simp
              · obtain ⟨_, q80, rfl⟩ := hG.new 80 (by kernel_rfl) (by kernel_rfl)
                obtain ⟨_, q82, rfl⟩ := hG.new 82 (by kernel_rfl) (by kernel_rfl)
                obtain ⟨_, q79, rfl⟩ := hG.new 79 (by kernel_rfl) (by kernel_rfl)
                refine step_value (v := .bool true) (w' := wx) rfl (by simp [Region.wanted, yielded, q79]) ?_ (Below.refl _ _) (fun d hd => by cases hd; exact rfl)
                go_simp
              · obtain ⟨_, q79, rfl⟩ := hG.new 79 (by kernel_rfl) (by kernel_rfl)
                obtain ⟨_, q83, rfl⟩ := hG.new 83 (by kernel_rfl) (by kernel_rfl)
                obtain ⟨_, q62, rfl⟩ := hG.new 62 (by kernel_rfl) (by kernel_rfl)
                refine step_value (v := .bool true) (w' := wx) rfl (by simp [Region.wanted, yielded, q62]) ?_ (Below.refl _ _) (fun d hd => by cases hd; exact rfl)
                go_simp
              · obtain ⟨_, q84, rfl⟩ := hG.new 84 (by kernel_rfl) (by kernel_rfl)
                obtain ⟨_, q62, rfl⟩ := hG.new 62 (by kernel_rfl) (by kernel_rfl)
                refine step_value (v := .bool true) (w' := wx) rfl (by simp [Region.wanted, yielded, q62]) ?_ (Below.refl _ _) (fun d hd => by cases hd; exact rfl)
                go_simp
              · obtain ⟨_, q85, rfl⟩ := hG.new 85 (by kernel_rfl) (by kernel_rfl)
                refine step_past rfl (by simp [Region.wanted, yielded, q85]) (Below.refl _ _) (fun d hd => by cases hd; exact rfl)
              · obtain ⟨_, q85, rfl⟩ := hG.new 85 (by kernel_rfl) (by kernel_rfl)
                refine step_past rfl (by simp [Region.wanted, yielded, q85]) (Below.refl _ _) (fun d hd => by cases hd; exact rfl)
              · obtain ⟨_, q85, rfl⟩ := hG.new 85 (by kernel_rfl) (by kernel_rfl)
                refine step_past rfl (by simp [Region.wanted, yielded, q85]) (Below.refl _ _) (fun d hd => by cases hd; exact rfl)
              · obtain ⟨_, q85, rfl⟩ := hG.new 85 (by kernel_rfl) (by kernel_rfl)
                refine step_past rfl (by simp [Region.wanted, yielded, q85]) (Below.refl _ _) (fun d hd => by cases hd; exact rfl)
              · obtain ⟨_, q85, rfl⟩ := hG.new 85 (by kernel_rfl) (by kernel_rfl)
                obtain ⟨_, q89, rfl⟩ := hG.new 89 (by kernel_rfl) (by kernel_rfl)
                obtain ⟨_, q62, rfl⟩ := hG.new 62 (by kernel_rfl) (by kernel_rfl)
                refine step_value (v := .bool true) (w' := wx) rfl (by simp [Region.wanted, yielded, q62]) ?_ (Below.refl _ _) (fun d hd => by cases hd; exact rfl)
                go_simp
              · obtain ⟨_, q62, rfl⟩ := hG.new 62 (by kernel_rfl) (by kernel_rfl)
                obtain ⟨_, q90, rfl⟩ := hG.new 90 (by kernel_rfl) (by kernel_rfl)
                refine step_value (v := .bool true) (w' := wx) rfl rfl ?_ (Below.refl _ _) (fun d hd => by cases hd; exact rfl)
                go_simp
              · obtain ⟨_, q91, rfl⟩ := hG.new 91 (by kernel_rfl) (by kernel_rfl)
                refine step_value (v := .bool true) (w' := wx) rfl rfl ?_ (Below.refl _ _) (fun d hd => by cases hd; exact rfl)
                go_simp
              · obtain ⟨_, q92, rfl⟩ := hG.new 92 (by kernel_rfl) (by kernel_rfl)
                refine step_call (w1 := wx) (f := 8) (args := #[]) rfl (by simp [Region.wanted, yielded, q92]) ?_ ((awake_true wx).mono ?_)
                · go_simp
                · rintro e w' ⟨rfl, hq⟩
                  exact ⟨_, rfl, hq, fun d hd => by cases hd; exact rfl⟩
              · obtain ⟨_, q92, rfl⟩ := hG.new 92 (by kernel_rfl) (by kernel_rfl)
                obtain ⟨_, q93, rfl⟩ := hG.new 93 (by kernel_rfl) (by kernel_rfl)
                refine step_value (v := .bool true) (w' := wx) rfl rfl ?_ (Below.refl _ _) (fun d hd => by cases hd; exact rfl)
                go_simp
              · obtain ⟨_, q94, rfl⟩ := hG.new 94 (by kernel_rfl) (by kernel_rfl)
                refine step_value (v := .bool true) (w' := wx) rfl rfl ?_ (Below.refl _ _) (fun d hd => by cases hd; exact rfl)
                go_simp
            · intro f w' hS hV
              have h6 : f 6 = .bool true := hV 6 (by decide)
              simp only [puts, Act.put, List.setIfInBounds_toArray, List.set_cons_succ, List.set_cons_zero]
              go_wp2
              go_ret
              try rw [h6]
              exact ⟨rfl, hby.trans (hS.mono hby.size)⟩
          | false =>
            have hin : inB ⟨al, ah, ao⟩ key = false := by
              cases hi : inB ⟨al, ah, ao⟩ key with
              | false => rfl
              | true => exact absurd (by simpa using hd) (HP.out hl hi)
            have HIK := Lib.hid (show ∀ w' : World, Calls Try.prog 13 #[.agg #[.string al, .string ah, .bool ao], .string key] w' fun e w'' => e = .returned (.bool false) ∧ Below w'.heap.size w' w'' from fun w' => by have h := in_any al ah key ao w'; rwa [hin] at h)
            clear hin
            refine wp_region_inv [60, 61, 62, 63, 64, 65, 66, 67, 68, 69, 70, 71, 72, 73, 74, 75, 76, 77, 78, 79, 80, 81, 82, 83, 84, 85, 86, 87, 88, 89, 90, 91, 92, 93, 94, 6] (by kernel_rfl) (by kernel_rfl) (fun w' => Below wy.heap.size wy w') (fun w1 w2 => Below w1.heap.size w1 w2) (NoneVTFF w al ah bl ml mh key ao mo p q) (by kernel_rfl) (fun w1 w2 h1 h2 => h2.trans (h1.mono h2.size)) (fun t v w1 w2 h1 h2 => h2) (Below.refl _ _).drew (steps_of ?_) ?_
            · refine Steps1.cons (fun ax wx hS hG => ?_) (Steps1.cons (fun ax wx hS hG => ?_) (Steps1.cons (fun ax wx hS hG => ?_) (Steps1.cons (fun ax wx hS hG => ?_) (Steps1.cons (fun ax wx hS hG => ?_) (Steps1.cons (fun ax wx hS hG => ?_) (Steps1.cons (fun ax wx hS hG => ?_) (Steps1.cons (fun ax wx hS hG => ?_) (Steps1.cons (fun ax wx hS hG => ?_) (Steps1.cons (fun ax wx hS hG => ?_) (Steps1.cons (fun ax wx hS hG => ?_) (Steps1.cons (fun ax wx hS hG => ?_) (Steps1.cons (fun ax wx hS hG => ?_) (Steps1.cons (fun ax wx hS hG => ?_) (Steps1.cons (fun ax wx hS hG => ?_) (Steps1.cons (fun ax wx hS hG => ?_) (Steps1.cons (fun ax wx hS hG => ?_) (Steps1.cons (fun ax wx hS hG => ?_) (Steps1.cons (fun ax wx hS hG => ?_) (Steps1.cons (fun ax wx hS hG => ?_) (Steps1.cons (fun ax wx hS hG => ?_) (Steps1.cons (fun ax wx hS hG => ?_) (Steps1.cons (fun ax wx hS hG => ?_) (Steps1.cons (fun ax wx hS hG => ?_) (Steps1.cons (fun ax wx hS hG => ?_) (Steps1.cons (fun ax wx hS hG => ?_) (Steps1.cons (fun ax wx hS hG => ?_) (Steps1.cons (fun ax wx hS hG => ?_) (Steps1.cons (fun ax wx hS hG => ?_) (Steps1.cons (fun ax wx hS hG => ?_) (Steps1.cons (fun ax wx hS hG => ?_) (Steps1.cons (fun ax wx hS hG => ?_) (Steps1.cons (fun ax wx hS hG => ?_) (Steps1.cons (fun ax wx hS hG => ?_) (Steps1.cons (fun ax wx hS hG => ?_) (Steps1.cons (fun ax wx hS hG => ?_) Steps1.nil)))))))))))))))))))))))))))))))))))
              · have q9 := hG.old 9 (by kernel_rfl) (by kernel_rfl)
                obtain ⟨z0, z1, z2⟩ := HCM.out wx hS
                refine step_value (v := (.agg #[.string ml, .string mh, .bool mo])) (w' := wx) rfl rfl ?_ (Below.refl _ _) (fun d hd => by cases hd; exact rfl)
                go_simp
              · obtain ⟨_, q60, rfl⟩ := hG.new 60 (by kernel_rfl) (by kernel_rfl)
                refine step_call (w1 := wx) (f := 16) (args := #[.agg #[.string ml, .string mh, .bool mo]]) rfl rfl ?_ ((HEA.out wx).mono ?_)
                · go_simp
                · rintro e w' ⟨rfl, hq⟩
                  exact ⟨_, rfl, hq, fun d hd => by cases hd; exact rfl⟩
              · obtain ⟨_, q61, rfl⟩ := hG.new 61 (by kernel_rfl) (by kernel_rfl)
                refine step_value (v := .bool true) (w' := wx) rfl rfl ?_ (Below.refl _ _) (fun d hd => by cases hd; exact rfl)
                go_simp
              · have q3 := hG.old 3 (by kernel_rfl) (by kernel_rfl)
                obtain ⟨_, q62, rfl⟩ := hG.new 62 (by kernel_rfl) (by kernel_rfl)
                obtain ⟨z0, z1, z2⟩ := HCA.out wx hS
                refine step_value (v := (.agg #[.string al, .string ah, .bool ao])) (w' := wx) rfl (by simp [Region.wanted, yielded, q62]) ?_ (Below.refl _ _) (fun d hd => by cases hd; exact rfl)
                go_simp
              · have q4 := hG.old 4 (by kernel_rfl) (by kernel_rfl)
                obtain ⟨_, q62, rfl⟩ := hG.new 62 (by kernel_rfl) (by kernel_rfl)
                refine step_value (v := .pointer (some ⟨w.heap.size + 1, 0, none⟩)) (w' := wx) rfl (by simp [Region.wanted, yielded, q62]) ?_ (Below.refl _ _) (fun d hd => by cases hd; exact rfl)
                go_simp
              · obtain ⟨_, q64, rfl⟩ := hG.new 64 (by kernel_rfl) (by kernel_rfl)
                obtain ⟨_, q62, rfl⟩ := hG.new 62 (by kernel_rfl) (by kernel_rfl)
                obtain ⟨z0, z1, z2⟩ := HCB.out wx hS
                refine step_value (v := .string bl) (w' := wx) rfl (by simp [Region.wanted, yielded, q62]) ?_ (Below.refl _ _) (fun d hd => by cases hd; exact rfl)
                go_simp
              · obtain ⟨_, q63, rfl⟩ := hG.new 63 (by kernel_rfl) (by kernel_rfl)
                obtain ⟨_, q65, rfl⟩ := hG.new 65 (by kernel_rfl) (by kernel_rfl)
                obtain ⟨_, q62, rfl⟩ := hG.new 62 (by kernel_rfl) (by kernel_rfl)
                refine step_call (w1 := wx) (f := 13) (args := #[.agg #[.string al, .string ah, .bool ao], .string bl]) rfl (by simp [Region.wanted, yielded, q62]) ?_ ((HIX.out wx).mono ?_)
                · go_simp
                · rintro e w' ⟨rfl, hq⟩
                  exact ⟨_, rfl, hq, fun d hd => by cases hd; exact rfl⟩
              · obtain ⟨_, q66, rfl⟩ := hG.new 66 (by kernel_rfl) (by kernel_rfl)
                obtain ⟨_, q62, rfl⟩ := hG.new 62 (by kernel_rfl) (by kernel_rfl)
                refine step_value (v := .bool false) (w' := wx) rfl (by simp [Region.wanted, yielded, q62]) ?_ (Below.refl _ _) (fun d hd => by cases hd; exact rfl)
                go_simp
              · obtain ⟨_, q67, rfl⟩ := hG.new 67 (by kernel_rfl) (by kernel_rfl)
                obtain ⟨_, q62, rfl⟩ := hG.new 62 (by kernel_rfl) (by kernel_rfl)
                refine step_value (v := .bool false) (w' := wx) rfl (by simp [Region.wanted, yielded, q62]) ?_ (Below.refl _ _) (fun d hd => by cases hd; exact rfl)
                go_simp
              · have q7 := hG.old 7 (by kernel_rfl) (by kernel_rfl)
                obtain ⟨_, q68, rfl⟩ := hG.new 68 (by kernel_rfl) (by kernel_rfl)
                obtain ⟨z0, z1, z2⟩ := HCL.out wx hS
                refine step_value (v := (.agg #[.string al, .string key, .bool false])) (w' := wx) rfl (by simp [Region.wanted, yielded, q68]) ?_ (Below.refl _ _) (fun d hd => by cases hd; exact rfl)
                go_simp
              · have q4 := hG.old 4 (by kernel_rfl) (by kernel_rfl)
                obtain ⟨_, q68, rfl⟩ := hG.new 68 (by kernel_rfl) (by kernel_rfl)
                refine step_value (v := .pointer (some ⟨w.heap.size + 1, 0, none⟩)) (w' := wx) rfl (by simp [Region.wanted, yielded, q68]) ?_ (Below.refl _ _) (fun d hd => by cases hd; exact rfl)
                go_simp
              · obtain ⟨_, q70, rfl⟩ := hG.new 70 (by kernel_rfl) (by kernel_rfl)
                obtain ⟨_, q68, rfl⟩ := hG.new 68 (by kernel_rfl) (by kernel_rfl)
                obtain ⟨z0, z1, z2⟩ := HCB.out wx hS
                refine step_value (v := .string bl) (w' := wx) rfl (by simp [Region.wanted, yielded, q68]) ?_ (Below.refl _ _) (fun d hd => by cases hd; exact rfl)
                go_simp
              · obtain ⟨_, q69, rfl⟩ := hG.new 69 (by kernel_rfl) (by kernel_rfl)
                obtain ⟨_, q71, rfl⟩ := hG.new 71 (by kernel_rfl) (by kernel_rfl)
                obtain ⟨_, q68, rfl⟩ := hG.new 68 (by kernel_rfl) (by kernel_rfl)
                refine step_call (w1 := wx) (f := 13) (args := #[.agg #[.string al, .string key, .bool false], .string bl]) rfl (by simp [Region.wanted, yielded, q68]) ?_ ((HIL.out wx).mono ?_)
                · go_simp
                · rintro e w' ⟨rfl, hq⟩
                  exact ⟨_, rfl, hq, fun d hd => by cases hd; exact rfl⟩
              · have q8 := hG.old 8 (by kernel_rfl) (by kernel_rfl)
                obtain ⟨_, q68, rfl⟩ := hG.new 68 (by kernel_rfl) (by kernel_rfl)
                obtain ⟨z0, z1, z2⟩ := HCG.out wx hS
                refine step_value (v := (.agg #[.string key, .string ah, .bool ao])) (w' := wx) rfl (by simp [Region.wanted, yielded, q68]) ?_ (Below.refl _ _) (fun d hd => by cases hd; exact rfl)
                go_simp
              · have q4 := hG.old 4 (by kernel_rfl) (by kernel_rfl)
                obtain ⟨_, q68, rfl⟩ := hG.new 68 (by kernel_rfl) (by kernel_rfl)
                refine step_value (v := .pointer (some ⟨w.heap.size + 1, 0, none⟩)) (w' := wx) rfl (by simp [Region.wanted, yielded, q68]) ?_ (Below.refl _ _) (fun d hd => by cases hd; exact rfl)
                go_simp
              · obtain ⟨_, q74, rfl⟩ := hG.new 74 (by kernel_rfl) (by kernel_rfl)
                obtain ⟨_, q68, rfl⟩ := hG.new 68 (by kernel_rfl) (by kernel_rfl)
                obtain ⟨z0, z1, z2⟩ := HCB.out wx hS
                refine step_value (v := .string bl) (w' := wx) rfl (by simp [Region.wanted, yielded, q68]) ?_ (Below.refl _ _) (fun d hd => by cases hd; exact rfl)
                go_simp
              · obtain ⟨_, q73, rfl⟩ := hG.new 73 (by kernel_rfl) (by kernel_rfl)
                obtain ⟨_, q75, rfl⟩ := hG.new 75 (by kernel_rfl) (by kernel_rfl)
                obtain ⟨_, q68, rfl⟩ := hG.new 68 (by kernel_rfl) (by kernel_rfl)
                refine step_call (w1 := wx) (f := 13) (args := #[.agg #[.string key, .string ah, .bool ao], .string bl]) rfl (by simp [Region.wanted, yielded, q68]) ?_ ((HIG.out wx).mono ?_)
                · go_simp
                · rintro e w' ⟨rfl, hq⟩
                  exact ⟨_, rfl, hq, fun d hd => by cases hd; exact rfl⟩
              · obtain ⟨_, q72, rfl⟩ := hG.new 72 (by kernel_rfl) (by kernel_rfl)
                obtain ⟨_, q76, rfl⟩ := hG.new 76 (by kernel_rfl) (by kernel_rfl)
                obtain ⟨_, q68, rfl⟩ := hG.new 68 (by kernel_rfl) (by kernel_rfl)
                refine step_value (v := .bool false) (w' := wx) rfl (by simp [Region.wanted, yielded, q68]) ?_ (Below.refl _ _) (fun d hd => by cases hd; exact rfl)
                (go_simp; simpa using hd)
              · obtain ⟨_, q68, rfl⟩ := hG.new 68 (by kernel_rfl) (by kernel_rfl)
                obtain ⟨_, q77, rfl⟩ := hG.new 77 (by kernel_rfl) (by kernel_rfl)
                obtain ⟨_, q62, rfl⟩ := hG.new 62 (by kernel_rfl) (by kernel_rfl)
                refine step_value (v := .bool false) (w' := wx) rfl (by simp [Region.wanted, yielded, q62]) ?_ (Below.refl _ _) (fun d hd => by cases hd; exact rfl)
                go_simp
              · obtain ⟨_, q78, rfl⟩ := hG.new 78 (by kernel_rfl) (by kernel_rfl)
                obtain ⟨_, q62, rfl⟩ := hG.new 62 (by kernel_rfl) (by kernel_rfl)
                refine step_value (v := .bool false) (w' := wx) rfl (by simp [Region.wanted, yielded, q62]) ?_ (Below.refl _ _) (fun d hd => by cases hd; exact rfl)
                go_simp
              · have q2 := hG.old 2 (by kernel_rfl) (by kernel_rfl)
                obtain ⟨_, q79, rfl⟩ := hG.new 79 (by kernel_rfl) (by kernel_rfl)
                refine step_value (v := .string key) (w' := wx) rfl (by simp [Region.wanted, yielded, q79]) ?_ (Below.refl _ _) (fun d hd => by cases hd; exact rfl)
                go_simp
              · have q3 := hG.old 3 (by kernel_rfl) (by kernel_rfl)
                obtain ⟨_, q79, rfl⟩ := hG.new 79 (by kernel_rfl) (by kernel_rfl)
                refine step_value (v := .pointer (some ⟨w.heap.size, 0, none⟩)) (w' := wx) rfl (by simp [Region.wanted, yielded, q79]) ?_ (Below.refl _ _) (fun d hd => by cases hd; exact rfl)
                go_simp
              · obtain ⟨_, q81, rfl⟩ := hG.new 81 (by kernel_rfl) (by kernel_rfl)
                obtain ⟨_, q79, rfl⟩ := hG.new 79 (by kernel_rfl) (by kernel_rfl)
                obtain ⟨z0, z1, z2⟩ := HCA.out wx hS
                refine step_value (v := .string al) (w' := wx) rfl (by simp [Region.wanted, yielded, q79]) ?_ (Below.refl _ _) (fun d hd => by cases hd; exact rfl)
                go_simp
              · obtain ⟨_, q80, rfl⟩ := hG.new 80 (by kernel_rfl) (by kernel_rfl)
                obtain ⟨_, q82, rfl⟩ := hG.new 82 (by kernel_rfl) (by kernel_rfl)
                obtain ⟨_, q79, rfl⟩ := hG.new 79 (by kernel_rfl) (by kernel_rfl)
                refine step_value (v := .bool false) (w' := wx) rfl (by simp [Region.wanted, yielded, q79]) ?_ (Below.refl _ _) (fun d hd => by cases hd; exact rfl)
                go_simp
              · obtain ⟨_, q79, rfl⟩ := hG.new 79 (by kernel_rfl) (by kernel_rfl)
                obtain ⟨_, q83, rfl⟩ := hG.new 83 (by kernel_rfl) (by kernel_rfl)
                obtain ⟨_, q62, rfl⟩ := hG.new 62 (by kernel_rfl) (by kernel_rfl)
                refine step_value (v := .bool false) (w' := wx) rfl (by simp [Region.wanted, yielded, q62]) ?_ (Below.refl _ _) (fun d hd => by cases hd; exact rfl)
                go_simp
              · obtain ⟨_, q84, rfl⟩ := hG.new 84 (by kernel_rfl) (by kernel_rfl)
                obtain ⟨_, q62, rfl⟩ := hG.new 62 (by kernel_rfl) (by kernel_rfl)
                refine step_value (v := .bool false) (w' := wx) rfl (by simp [Region.wanted, yielded, q62]) ?_ (Below.refl _ _) (fun d hd => by cases hd; exact rfl)
                go_simp
              · have q3 := hG.old 3 (by kernel_rfl) (by kernel_rfl)
                obtain ⟨_, q85, rfl⟩ := hG.new 85 (by kernel_rfl) (by kernel_rfl)
                obtain ⟨z0, z1, z2⟩ := HCA.out wx hS
                refine step_value (v := (.agg #[.string al, .string ah, .bool ao])) (w' := wx) rfl (by simp [Region.wanted, yielded, q85]) ?_ (Below.refl _ _) (fun d hd => by cases hd; exact rfl)
                go_simp
              · have q2 := hG.old 2 (by kernel_rfl) (by kernel_rfl)
                obtain ⟨_, q85, rfl⟩ := hG.new 85 (by kernel_rfl) (by kernel_rfl)
                refine step_value (v := .string key) (w' := wx) rfl (by simp [Region.wanted, yielded, q85]) ?_ (Below.refl _ _) (fun d hd => by cases hd; exact rfl)
                go_simp
              · obtain ⟨_, q86, rfl⟩ := hG.new 86 (by kernel_rfl) (by kernel_rfl)
                obtain ⟨_, q87, rfl⟩ := hG.new 87 (by kernel_rfl) (by kernel_rfl)
                obtain ⟨_, q85, rfl⟩ := hG.new 85 (by kernel_rfl) (by kernel_rfl)
                refine step_call (w1 := wx) (f := 13) (args := #[.agg #[.string al, .string ah, .bool ao], .string key]) rfl (by simp [Region.wanted, yielded, q85]) ?_ ((HIK.out wx).mono ?_)
                · go_simp
                · rintro e w' ⟨rfl, hq⟩
                  exact ⟨_, rfl, hq, fun d hd => by cases hd; exact rfl⟩
              · obtain ⟨_, q88, rfl⟩ := hG.new 88 (by kernel_rfl) (by kernel_rfl)
                obtain ⟨_, q85, rfl⟩ := hG.new 85 (by kernel_rfl) (by kernel_rfl)
                refine step_value (v := .bool true) (w' := wx) rfl (by simp [Region.wanted, yielded, q85]) ?_ (Below.refl _ _) (fun d hd => by cases hd; exact rfl)
                go_simp
              · obtain ⟨_, q85, rfl⟩ := hG.new 85 (by kernel_rfl) (by kernel_rfl)
                obtain ⟨_, q89, rfl⟩ := hG.new 89 (by kernel_rfl) (by kernel_rfl)
                obtain ⟨_, q62, rfl⟩ := hG.new 62 (by kernel_rfl) (by kernel_rfl)
                refine step_value (v := .bool true) (w' := wx) rfl (by simp [Region.wanted, yielded, q62]) ?_ (Below.refl _ _) (fun d hd => by cases hd; exact rfl)
                go_simp
              · obtain ⟨_, q62, rfl⟩ := hG.new 62 (by kernel_rfl) (by kernel_rfl)
                obtain ⟨_, q90, rfl⟩ := hG.new 90 (by kernel_rfl) (by kernel_rfl)
                refine step_value (v := .bool true) (w' := wx) rfl rfl ?_ (Below.refl _ _) (fun d hd => by cases hd; exact rfl)
                go_simp
              · obtain ⟨_, q91, rfl⟩ := hG.new 91 (by kernel_rfl) (by kernel_rfl)
                refine step_value (v := .bool true) (w' := wx) rfl rfl ?_ (Below.refl _ _) (fun d hd => by cases hd; exact rfl)
                go_simp
              · obtain ⟨_, q92, rfl⟩ := hG.new 92 (by kernel_rfl) (by kernel_rfl)
                refine step_call (w1 := wx) (f := 8) (args := #[]) rfl (by simp [Region.wanted, yielded, q92]) ?_ ((awake_true wx).mono ?_)
                · go_simp
                · rintro e w' ⟨rfl, hq⟩
                  exact ⟨_, rfl, hq, fun d hd => by cases hd; exact rfl⟩
              · obtain ⟨_, q92, rfl⟩ := hG.new 92 (by kernel_rfl) (by kernel_rfl)
                obtain ⟨_, q93, rfl⟩ := hG.new 93 (by kernel_rfl) (by kernel_rfl)
                refine step_value (v := .bool true) (w' := wx) rfl rfl ?_ (Below.refl _ _) (fun d hd => by cases hd; exact rfl)
                go_simp
              · obtain ⟨_, q94, rfl⟩ := hG.new 94 (by kernel_rfl) (by kernel_rfl)
                refine step_value (v := .bool true) (w' := wx) rfl rfl ?_ (Below.refl _ _) (fun d hd => by cases hd; exact rfl)
                go_simp
            · intro f w' hS hV
              have h6 : f 6 = .bool true := hV 6 (by decide)
              simp only [puts, Act.put, List.setIfInBounds_toArray, List.set_cons_succ, List.set_cons_zero]
              go_wp2
              go_ret
              try rw [h6]
              exact ⟨rfl, hby.trans (hS.mono hby.size)⟩

end Go.Proofs.Ytmbcmacegncnmaa
