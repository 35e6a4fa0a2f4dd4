/- The walk of the law NoteBoth. -/
import Derived.Test.YtifemajgdbihnaaNv
import Derived.Test.YtifemajgdbihnaaAwake
import Derived.Test.YtifemajgdbihnaaInv
namespace Go.Proofs.Ytifemajgdbihnaa
open Go.RowKit

def Bo5V (s0 d1 : ByteArray) (has d2 : Bool) (AG BG CG MG NG : Value) (XG : Nt) (t : Nat) (v : Value) (w : World) : Prop :=
  match t with
  | 51 => v = .string s0
  | 52 => v = .bool has
  | 53 => v = AG
  | 54 => v = BG
  | 55 => v = MG
  | 56 => v = CG
  | 57 => v = NG
  | 58 => NV w v [XG]
  | 59 => v = .tuple #[.string d1, .bool d2]
  | 50 => v = .tuple #[.string d1, .bool d2]
  | 60 => v = .string d1
  | 61 => v = .bool d2
  | 15 => v = .string d1
  | 16 => v = .bool d2
  | _ => True
theorem Bo5V.on {s0 d1 : ByteArray} {has d2 : Bool} {AG BG CG MG NG : Value} {XG : Nt} {t : Nat} {v : Value} {w w' : World} (h : Bo5V s0 d1 has d2 AG BG CG MG NG XG t v w) (hb : Below w.heap.size w w') : Bo5V s0 d1 has d2 AG BG CG MG NG XG t v w' := by
  unfold Bo5V at *
  split at h <;> first | exact h | exact NV.on h hb

def Bo6V (s0 d1 : ByteArray) (has d2 : Bool) (AG BG CG MG NG : Value) (XG : Nt) (t : Nat) (v : Value) (w : World) : Prop :=
  match t with
  | 63 => v = .string s0
  | 64 => v = .bool has
  | 65 => v = AG
  | 66 => v = BG
  | 67 => v = CG
  | 68 => v = MG
  | 69 => v = NG
  | 70 => NV w v [XG]
  | 71 => v = .tuple #[.string d1, .bool d2]
  | 62 => v = .tuple #[.string d1, .bool d2]
  | 72 => v = .string d1
  | 73 => v = .bool d2
  | 17 => v = .string d1
  | 18 => v = .bool d2
  | _ => True
theorem Bo6V.on {s0 d1 : ByteArray} {has d2 : Bool} {AG BG CG MG NG : Value} {XG : Nt} {t : Nat} {v : Value} {w w' : World} (h : Bo6V s0 d1 has d2 AG BG CG MG NG XG t v w) (hb : Below w.heap.size w w') : Bo6V s0 d1 has d2 AG BG CG MG NG XG t v w' := by
  unfold Bo6V at *
  split at h <;> first | exact h | exact NV.on h hb

def Bo9V (p1 d1 be : ByteArray) (p2 d2 : Bool) (AG BG MG : Value) (gb : Nat) (t : Nat) (v : Value) (w : World) : Prop :=
  match t with
  | 87 => v = .string p1
  | 88 => v = .string p1
  | 89 => v = .bool true
  | 90 => v = .bool true
  | 91 => v = .bool p2
  | 92 => v = .bool p2
  | 93 => v = .bool true
  | 94 => v = .bool true
  | 95 => v = .bool true
  | 96 => v = .string d1
  | 97 => v = .string d1
  | 98 => v = .bool true
  | 99 => v = .bool true
  | 100 => v = .bool true
  | 101 => v = .bool d2
  | 102 => v = .bool d2
  | 103 => v = .bool true
  | 104 => v = .bool true
  | 105 => v = .bool true
  | 106 => v = AG
  | 107 => v = BG
  | 108 => v = MG
  | 109 => v = .string be
  | 110 => v = .pointer (some ⟨gb, 1, none⟩)
  | 111 => v = .string be
  | 112 => v = .bool true
  | 113 => v = .bool true
  | 114 => v = .bool true
  | 115 => v = .bool true
  | 116 => v = .bool true
  | 10 => v = .bool true
  | _ => True
theorem Bo9V.on {p1 d1 be : ByteArray} {p2 d2 : Bool} {AG BG MG : Value} {gb : Nat} {t : Nat} {v : Value} {w w' : World} (h : Bo9V p1 d1 be p2 d2 AG BG MG gb t v w) (hb : Below w.heap.size w w') : Bo9V p1 d1 be p2 d2 AG BG MG gb t v w' := by
  unfold Bo9V at *
  split at h <;> first | exact h

set_option maxHeartbeats 8000000 in
set_option maxRecDepth 100000 in
theorem both_walk (s0 : ByteArray) (has : Bool) (ak : Int) (ae av : ByteArray) (an : UInt64) (bk : Int) (be bv : ByteArray) (bn : UInt64) (ck : Int) (ce cv : ByteArray) (cn : UInt64) (w : World) :
    Calls Try.prog 3 #[.string s0, .bool has, .agg #[.int .i64 ak, .string ae, .string av, .int .u64 (an.toNat : Int)], .agg #[.int .i64 bk, .string be, .string bv, .int .u64 (bn.toNat : Int)], .agg #[.int .i64 ck, .string ce, .string cv, .int .u64 (cn.toNat : Int)]] w fun e w' => e = .returned (.bool true) ∧ Below w.heap.size w w' := by
  obtain ⟨w3, hw3⟩ : ∃ w3, w3 = (((w.alloc (.cells #[.int .i64 ak, .string ae, .string av, .int .u64 (an.toNat : Int)] 24)).alloc (.cells #[.int .i64 bk, .string be, .string bv, .int .u64 (bn.toNat : Int)] 24)).alloc (.cells #[.int .i64 ck, .string ce, .string cv, .int .u64 (cn.toNat : Int)] 24)) := ⟨_, rfl⟩
  have hs3 : w3.heap.size = w.heap.size + 1 + 1 + 1 := by rw [hw3]; simp
  have hb3 : Below w.heap.size w w3 := by rw [hw3]; exact (((Below.refl _ _).alloc (Nat.le_refl _) _).alloc (by simp) _).alloc (by simp; omega) _
  have nc : NBlk w3 (w.heap.size + 1 + 1) ⟨ck, ce, cv, cn⟩ := by rw [hw3]; exact NBlk.fresh _ ⟨ck, ce, cv, cn⟩ (by simp)
  have nb : NBlk w3 (w.heap.size + 1) ⟨bk, be, bv, bn⟩ := by rw [hw3]; exact NBlk.push (NBlk.fresh _ ⟨bk, be, bv, bn⟩ (by simp)) _
  have na : NBlk w3 w.heap.size ⟨ak, ae, av, an⟩ := by rw [hw3]; exact NBlk.push (NBlk.push (NBlk.fresh _ ⟨ak, ae, av, an⟩ rfl) _) _
  have W3 := Lib.hid hw3
  have S3 := Lib.hid hs3
  have NA := Lib.hid na
  have NB := Lib.hid nb
  have NC := Lib.hid nc
  clear hw3 hs3 na nb nc
  by_cases hsz : s0.size ≤ 300
  · have hd1 : decide (300 < (s0.size : Int)) = false := by simp; omega
    have hshort := fun w g hg => short_lit3 ⟨ak, ae, av, an⟩ ⟨bk, be, bv, bn⟩ ⟨ck, ce, cv, cn⟩ w g hg
    generalize ([⟨ak, ae, av, an⟩, ⟨bk, be, bv, bn⟩, ⟨ck, ce, cv, cn⟩] : List Nt).all shortN = sh at hshort
    go_enter Try.func3, Try.ntmps3
    go_wp2_with fail
    rw [← W3.out]
    refine (hshort w3 _ S3.out.symm).mono ?_
    clear hshort
    rintro e w4 ⟨rfl, hb4⟩
    have NA4 := Lib.hid (NBlk.on NA.out hb4)
    have NB4 := Lib.hid (NBlk.on NB.out hb4)
    have NC4 := Lib.hid (NBlk.on NC.out hb4)
    have hb04 : Below w.heap.size w w4 := hb3.trans (hb4.mono hb3.size)
    clear hb3 hb4 NA NB NC S3 W3 hsz hd1
    obtain ⟨k0, k1, k2, k3⟩ := NBlk.cells NA4.out
    obtain ⟨l0, l1, l2, l3⟩ := NBlk.cells NB4.out
    obtain ⟨m0, m1, m2, m3⟩ := NBlk.cells NC4.out
    cases sh with
    | false =>
      go_wp2_with fail
      refine (awake_true _).mono ?_
      rintro e w9 ⟨rfl, hb9⟩
      go_wp2
      go_ret
      exact ⟨rfl, hb04.trans (hb9.mono hb04.size)⟩
    | true =>
      -- the notes, put together
      have hra := fun w => right_any ak ae av an w
      have hrb := fun w => right_any bk be bv bn w
      have hre := both_right ⟨ak, ae, av, an⟩ ⟨bk, be, bv, bn⟩
      have hDD := done_two s0 has ⟨ak, ae, av, an⟩ ⟨bk, be, bv, bn⟩
      have h3D := done_three s0 has ⟨ak, ae, av, an⟩ ⟨bk, be, bv, bn⟩ ⟨ck, ce, cv, cn⟩
      have hdone := fun w g hg => done_lit2 s0 has ⟨ak, ae, av, an⟩ ⟨bk, be, bv, bn⟩ w g hg
      have HAB := Lib.hid (fun w => both_any ak ae av an bk be bv bn w)
      have HBC := Lib.hid (fun w => both_any bk be bv bn ck ce cv cn w)
      obtain ⟨mk, mv, mn, hM⟩ : ∃ mk mv mn, bothN ⟨ak, ae, av, an⟩ ⟨bk, be, bv, bn⟩ = ⟨mk, be, mv, mn⟩ := ⟨_, _, _, rfl⟩
      obtain ⟨yk, yv, yn, hY⟩ : ∃ yk yv yn, bothN ⟨bk, be, bv, bn⟩ ⟨ck, ce, cv, cn⟩ = ⟨yk, ce, yv, yn⟩ := ⟨_, _, _, rfl⟩
      rw [hM] at hre hDD h3D HAB
      rw [hY] at h3D HBC
      have HMC := Lib.hid (fun w => both_any mk be mv mn ck ce cv cn w)
      have HAY := Lib.hid (fun w => both_any ak ae av an yk ce yv yn w)
      obtain ⟨xk, xv, xn, hX⟩ : ∃ xk xv xn, bothN ⟨mk, be, mv, mn⟩ ⟨ck, ce, cv, cn⟩ = ⟨xk, ce, xv, xn⟩ := ⟨_, _, _, rfl⟩
      obtain ⟨zk, zv, zn, hZ⟩ : ∃ zk zv zn, bothN ⟨ak, ae, av, an⟩ ⟨yk, ce, yv, yn⟩ = ⟨zk, ce, zv, zn⟩ := ⟨_, _, _, rfl⟩
      rw [hX, hZ] at h3D
      rw [hX] at HMC
      rw [hZ] at HAY
      have hrm := fun w => right_any mk be mv mn w
      have hdm := fun w g hg => done_lit1 s0 has ⟨mk, be, mv, mn⟩ w g hg
      have HDX := Lib.hid (fun w u (h : NV w u [⟨xk, ce, xv, xn⟩]) => done_nv s0 has h (by simp [maxLen]))
      have HDZ := Lib.hid (fun w u (h : NV w u [⟨zk, ce, zv, zn⟩]) => done_nv s0 has h (by simp [maxLen]))
      rw [← hDD] at hdm
      rw [← h3D] at HDZ
      generalize doneL s0 has [⟨ak, ae, av, an⟩, ⟨bk, be, bv, bn⟩] = P at *
      generalize doneL s0 has [⟨xk, ce, xv, xn⟩] = D at *
      generalize rightN ⟨ak, ae, av, an⟩ = ra at *
      generalize rightN ⟨bk, be, bv, bn⟩ = rb at *
      generalize rightN ⟨mk, be, mv, mn⟩ = rm at *
      obtain ⟨p1, p2⟩ := P
      obtain ⟨d1, d2⟩ := D
      simp only at hdone hdm HDX HDZ
      unfold Nt.v at HAB HBC HMC HAY
      simp only at HAB HBC HMC HAY
      have HRE := Lib.hid hre
      have hab := HAB.out
      clear hM hY hX hZ hDD h3D hre
      go_wp2_with fail
      refine (hdone _ _ rfl).mono ?_
      clear hdone
      rintro e w5 ⟨rfl, hb5⟩
      have NA5 := Lib.hid (NBlk.on NA4.out hb5)
      have NB5 := Lib.hid (NBlk.on NB4.out hb5)
      have NC5 := Lib.hid (NBlk.on NC4.out hb5)
      have hb05 : Below w.heap.size w w5 := hb04.trans (hb5.mono hb04.size)
      clear hb04 hb5 NA4 NB4 NC4 k0 k1 k2 k3 l0 l1 l2 l3 m0 m1 m2 m3
      obtain ⟨k0, k1, k2, k3⟩ := NBlk.cells NA5.out
      obtain ⟨l0, l1, l2, l3⟩ := NBlk.cells NB5.out
      go_wp2_with fail
      refine (hab _).mono ?_
      clear hab
      rintro e w6 ⟨rfl, hb6⟩
      have NA6 := Lib.hid (NBlk.on NA5.out hb6)
      have NB6 := Lib.hid (NBlk.on NB5.out hb6)
      have NC6 := Lib.hid (NBlk.on NC5.out hb6)
      have hb06 : Below w.heap.size w w6 := hb05.trans (hb6.mono hb05.size)
      clear hb05 hb6 NA5 NB5 NC5 k0 k1 k2 k3 l0 l1 l2 l3
      go_wp2_with fail
      refine (hdm _ _ rfl).mono ?_
      clear hdm
      rintro e w7 ⟨rfl, hb7⟩
      have NA7 := Lib.hid (NBlk.on NA6.out hb7)
      have NB7 := Lib.hid (NBlk.on NB6.out hb7)
      have NC7 := Lib.hid (NBlk.on NC6.out hb7)
      have hb07 : Below w.heap.size w w7 := hb06.trans (hb7.mono hb06.size)
      clear hb06 hb7 NA6 NB6 NC6
      go_wp2_with fail
      -- region 5
      have HCA := Lib.hid (fun (wx : World) (h : Below w7.heap.size w7 wx) => NBlk.cells (NBlk.on NA7.out h))
      have HCB := Lib.hid (fun (wx : World) (h : Below w7.heap.size w7 wx) => NBlk.cells (NBlk.on NB7.out h))
      have HCC := Lib.hid (fun (wx : World) (h : Below w7.heap.size w7 wx) => NBlk.cells (NBlk.on NC7.out h))
      simp only at HCA HCB HCC
      refine wp_region_inv [51, 52, 53, 54, 55, 56, 57, 58, 59, 50, 60, 61, 15, 16] (by kernel_rfl) (by kernel_rfl) (fun w' => Below w7.heap.size w7 w') (fun wa wb => Below wa.heap.size wa wb) (Bo5V s0 d1 has d2 (.agg #[.int .i64 ak, .string ae, .string av, .int .u64 (an.toNat : Int)]) (.agg #[.int .i64 bk, .string be, .string bv, .int .u64 (bn.toNat : Int)]) (.agg #[.int .i64 ck, .string ce, .string cv, .int .u64 (cn.toNat : Int)]) (.agg #[.int .i64 mk, .string be, .string mv, .int .u64 (mn.toNat : Int)]) (.agg #[.int .i64 xk, .string ce, .string xv, .int .u64 (xn.toNat : Int)]) (⟨xk, ce, xv, xn⟩)) (by kernel_rfl) (fun wa wb h1 h2 => h2.trans (h1.mono h2.size)) (fun t v wa wb h1 h2 => h2.on h1) (Below.refl _ _).drew (steps_of ?_) ?_
      · skip
        refine Steps1.cons (fun ax wx hS hG => ?_) (Steps1.cons (fun ax wx hS hG => ?_) (Steps1.cons (fun ax wx hS hG => ?_) (Steps1.cons (fun ax wx hS hG => ?_) (Steps1.cons (fun ax wx hS hG => ?_) (Steps1.cons (fun ax wx hS hG => ?_) (Steps1.cons (fun ax wx hS hG => ?_) (Steps1.cons (fun ax wx hS hG => ?_) (Steps1.cons (fun ax wx hS hG => ?_) (Steps1.cons (fun ax wx hS hG => ?_) (Steps1.cons (fun ax wx hS hG => ?_) (Steps1.cons (fun ax wx hS hG => ?_) (Steps1.cons (fun ax wx hS hG => ?_) (Steps1.cons (fun ax wx hS hG => ?_) Steps1.nil)))))))))))))
        · have q0 := hG.old 0 (by kernel_rfl) (by kernel_rfl)
          refine step_value (v := .string s0) (w' := wx) rfl rfl ?_ (Below.refl _ _) (fun d hd => by cases hd; exact rfl)
          go_simp
        · have q1 := hG.old 1 (by kernel_rfl) (by kernel_rfl)
          refine step_value (v := .bool has) (w' := wx) rfl rfl ?_ (Below.refl _ _) (fun d hd => by cases hd; exact rfl)
          go_simp
        · have q7 := hG.old 7 (by kernel_rfl) (by kernel_rfl)
          obtain ⟨z0, z1, z2, z3⟩ := HCA.out wx hS
          refine step_value (v := .agg #[.int .i64 ak, .string ae, .string av, .int .u64 (an.toNat : Int)]) (w' := wx) rfl rfl ?_ (Below.refl _ _) (fun d hd => by cases hd; exact rfl)
          go_simp
        · have q8 := hG.old 8 (by kernel_rfl) (by kernel_rfl)
          obtain ⟨z0, z1, z2, z3⟩ := HCB.out wx hS
          refine step_value (v := .agg #[.int .i64 bk, .string be, .string bv, .int .u64 (bn.toNat : Int)]) (w' := wx) rfl rfl ?_ (Below.refl _ _) (fun d hd => by cases hd; exact rfl)
          go_simp
        · obtain ⟨_, q53, rfl⟩ := hG.new 53 (by kernel_rfl) (by kernel_rfl)
          obtain ⟨_, q54, rfl⟩ := hG.new 54 (by kernel_rfl) (by kernel_rfl)
          refine step_call (w1 := wx) (f := 11) (args := #[.agg #[.int .i64 ak, .string ae, .string av, .int .u64 (an.toNat : Int)], .agg #[.int .i64 bk, .string be, .string bv, .int .u64 (bn.toNat : Int)]]) rfl rfl ?_ ((HAB.out wx).mono ?_)
          · skip
            go_simp
          · rintro e w' ⟨rfl, hq⟩
            exact ⟨_, rfl, hq, fun d hd => by cases hd; exact rfl⟩
        · have q9 := hG.old 9 (by kernel_rfl) (by kernel_rfl)
          obtain ⟨z0, z1, z2, z3⟩ := HCC.out wx hS
          refine step_value (v := .agg #[.int .i64 ck, .string ce, .string cv, .int .u64 (cn.toNat : Int)]) (w' := wx) rfl rfl ?_ (Below.refl _ _) (fun d hd => by cases hd; exact rfl)
          go_simp
        · obtain ⟨_, q55, rfl⟩ := hG.new 55 (by kernel_rfl) (by kernel_rfl)
          obtain ⟨_, q56, rfl⟩ := hG.new 56 (by kernel_rfl) (by kernel_rfl)
          refine step_call (w1 := wx) (f := 11) (args := #[.agg #[.int .i64 mk, .string be, .string mv, .int .u64 (mn.toNat : Int)], .agg #[.int .i64 ck, .string ce, .string cv, .int .u64 (cn.toNat : Int)]]) rfl rfl ?_ ((HMC.out wx).mono ?_)
          · skip
            go_simp
          · rintro e w' ⟨rfl, hq⟩
            exact ⟨_, rfl, hq, fun d hd => by cases hd; exact rfl⟩
        · obtain ⟨_, q57, rfl⟩ := hG.new 57 (by kernel_rfl) (by kernel_rfl)
          refine step_value (v := .slice (some ⟨wx.heap.size, 0, none⟩) 1 1) (w' := wx.alloc (.cells #[.int .i64 xk, .string ce, .string xv, .int .u64 (xn.toNat : Int)] 24)) rfl rfl ?_ ((Below.refl _ _).alloc (Nat.le_refl _) _) (fun d hd => by cases hd; exact NV.lit1 wx ⟨xk, ce, xv, xn⟩)
          go_simp
        · obtain ⟨_, q51, rfl⟩ := hG.new 51 (by kernel_rfl) (by kernel_rfl)
          obtain ⟨_, q52, rfl⟩ := hG.new 52 (by kernel_rfl) (by kernel_rfl)
          obtain ⟨v58, q58, h58⟩ := hG.new 58 (by kernel_rfl) (by kernel_rfl)
          have p58 : NV wx v58 [⟨xk, ce, xv, xn⟩] := h58
          refine step_call (w1 := wx) (f := 10) (args := #[.string s0, .bool has, v58]) rfl rfl ?_ ((HDX.out wx v58 p58).mono ?_)
          · clear h58 p58
            go_simp
          · rintro e w' ⟨rfl, hq⟩
            exact ⟨_, rfl, hq, fun d hd => by cases hd; exact rfl⟩
        · obtain ⟨_, q59, rfl⟩ := hG.new 59 (by kernel_rfl) (by kernel_rfl)
          refine step_value (v := .tuple #[.string d1, .bool d2]) (w' := wx) rfl rfl ?_ (Below.refl _ _) (fun d hd => by cases hd; exact rfl)
          go_simp
        · obtain ⟨_, q50, rfl⟩ := hG.new 50 (by kernel_rfl) (by kernel_rfl)
          refine step_value (v := .string d1) (w' := wx) rfl rfl ?_ (Below.refl _ _) (fun d hd => by cases hd; exact rfl)
          go_simp
        · obtain ⟨_, q50, rfl⟩ := hG.new 50 (by kernel_rfl) (by kernel_rfl)
          refine step_value (v := .bool d2) (w' := wx) rfl rfl ?_ (Below.refl _ _) (fun d hd => by cases hd; exact rfl)
          go_simp
        · obtain ⟨_, q60, rfl⟩ := hG.new 60 (by kernel_rfl) (by kernel_rfl)
          refine step_value (v := .string d1) (w' := wx) rfl rfl ?_ (Below.refl _ _) (fun d hd => by cases hd; exact rfl)
          go_simp
        · obtain ⟨_, q61, rfl⟩ := hG.new 61 (by kernel_rfl) (by kernel_rfl)
          refine step_value (v := .bool d2) (w' := wx) rfl rfl ?_ (Below.refl _ _) (fun d hd => by cases hd; exact rfl)
          go_simp
      intro fv w8 hS8 hV8
      have e15 : fv 15 = .string d1 := hV8 15 (by decide)
      have e16 : fv 16 = .bool d2 := hV8 16 (by decide)
      simp only [puts, Act.put, List.setIfInBounds_toArray, List.set_cons_succ, List.set_cons_zero]
      clear hV8
      rw [e15, e16]
      have NA8 := Lib.hid (NBlk.on NA7.out hS8)
      have NB8 := Lib.hid (NBlk.on NB7.out hS8)
      have NC8 := Lib.hid (NBlk.on NC7.out hS8)
      have hb08 : Below w.heap.size w w8 := hb07.trans (hS8.mono hb07.size)
      clear hb07 hS8 NA7 NB7 NC7 HCA HCB HCC e15 e16
      generalize fv 50 = f50
      generalize fv 51 = f51
      generalize fv 52 = f52
      generalize fv 53 = f53
      generalize fv 54 = f54
      generalize fv 55 = f55
      generalize fv 56 = f56
      generalize fv 57 = f57
      generalize fv 58 = f58
      generalize fv 59 = f59
      generalize fv 60 = f60
      generalize fv 61 = f61
      clear fv
      go_wp2_with fail
      -- region 6
      have HCA := Lib.hid (fun (wx : World) (h : Below w8.heap.size w8 wx) => NBlk.cells (NBlk.on NA8.out h))
      have HCB := Lib.hid (fun (wx : World) (h : Below w8.heap.size w8 wx) => NBlk.cells (NBlk.on NB8.out h))
      have HCC := Lib.hid (fun (wx : World) (h : Below w8.heap.size w8 wx) => NBlk.cells (NBlk.on NC8.out h))
      simp only at HCA HCB HCC
      refine wp_region_inv [63, 64, 65, 66, 67, 68, 69, 70, 71, 62, 72, 73, 17, 18] (by kernel_rfl) (by kernel_rfl) (fun w' => Below w8.heap.size w8 w') (fun wa wb => Below wa.heap.size wa wb) (Bo6V s0 d1 has d2 (.agg #[.int .i64 ak, .string ae, .string av, .int .u64 (an.toNat : Int)]) (.agg #[.int .i64 bk, .string be, .string bv, .int .u64 (bn.toNat : Int)]) (.agg #[.int .i64 ck, .string ce, .string cv, .int .u64 (cn.toNat : Int)]) (.agg #[.int .i64 yk, .string ce, .string yv, .int .u64 (yn.toNat : Int)]) (.agg #[.int .i64 zk, .string ce, .string zv, .int .u64 (zn.toNat : Int)]) (⟨zk, ce, zv, zn⟩)) (by kernel_rfl) (fun wa wb h1 h2 => h2.trans (h1.mono h2.size)) (fun t v wa wb h1 h2 => h2.on h1) (Below.refl _ _).drew (steps_of ?_) ?_
      · skip
        refine Steps1.cons (fun ax wx hS hG => ?_) (Steps1.cons (fun ax wx hS hG => ?_) (Steps1.cons (fun ax wx hS hG => ?_) (Steps1.cons (fun ax wx hS hG => ?_) (Steps1.cons (fun ax wx hS hG => ?_) (Steps1.cons (fun ax wx hS hG => ?_) (Steps1.cons (fun ax wx hS hG => ?_) (Steps1.cons (fun ax wx hS hG => ?_) (Steps1.cons (fun ax wx hS hG => ?_) (Steps1.cons (fun ax wx hS hG => ?_) (Steps1.cons (fun ax wx hS hG => ?_) (Steps1.cons (fun ax wx hS hG => ?_) (Steps1.cons (fun ax wx hS hG => ?_) (Steps1.cons (fun ax wx hS hG => ?_) Steps1.nil)))))))))))))
        · have q0 := hG.old 0 (by kernel_rfl) (by kernel_rfl)
          refine step_value (v := .string s0) (w' := wx) rfl rfl ?_ (Below.refl _ _) (fun d hd => by cases hd; exact rfl)
          go_simp
        · have q1 := hG.old 1 (by kernel_rfl) (by kernel_rfl)
          refine step_value (v := .bool has) (w' := wx) rfl rfl ?_ (Below.refl _ _) (fun d hd => by cases hd; exact rfl)
          go_simp
        · have q7 := hG.old 7 (by kernel_rfl) (by kernel_rfl)
          obtain ⟨z0, z1, z2, z3⟩ := HCA.out wx hS
          refine step_value (v := .agg #[.int .i64 ak, .string ae, .string av, .int .u64 (an.toNat : Int)]) (w' := wx) rfl rfl ?_ (Below.refl _ _) (fun d hd => by cases hd; exact rfl)
          go_simp
        · have q8 := hG.old 8 (by kernel_rfl) (by kernel_rfl)
          obtain ⟨z0, z1, z2, z3⟩ := HCB.out wx hS
          refine step_value (v := .agg #[.int .i64 bk, .string be, .string bv, .int .u64 (bn.toNat : Int)]) (w' := wx) rfl rfl ?_ (Below.refl _ _) (fun d hd => by cases hd; exact rfl)
          go_simp
        · have q9 := hG.old 9 (by kernel_rfl) (by kernel_rfl)
          obtain ⟨z0, z1, z2, z3⟩ := HCC.out wx hS
          refine step_value (v := .agg #[.int .i64 ck, .string ce, .string cv, .int .u64 (cn.toNat : Int)]) (w' := wx) rfl rfl ?_ (Below.refl _ _) (fun d hd => by cases hd; exact rfl)
          go_simp
        · obtain ⟨_, q66, rfl⟩ := hG.new 66 (by kernel_rfl) (by kernel_rfl)
          obtain ⟨_, q67, rfl⟩ := hG.new 67 (by kernel_rfl) (by kernel_rfl)
          refine step_call (w1 := wx) (f := 11) (args := #[.agg #[.int .i64 bk, .string be, .string bv, .int .u64 (bn.toNat : Int)], .agg #[.int .i64 ck, .string ce, .string cv, .int .u64 (cn.toNat : Int)]]) rfl rfl ?_ ((HBC.out wx).mono ?_)
          · skip
            go_simp
          · rintro e w' ⟨rfl, hq⟩
            exact ⟨_, rfl, hq, fun d hd => by cases hd; exact rfl⟩
        · obtain ⟨_, q65, rfl⟩ := hG.new 65 (by kernel_rfl) (by kernel_rfl)
          obtain ⟨_, q68, rfl⟩ := hG.new 68 (by kernel_rfl) (by kernel_rfl)
          refine step_call (w1 := wx) (f := 11) (args := #[.agg #[.int .i64 ak, .string ae, .string av, .int .u64 (an.toNat : Int)], .agg #[.int .i64 yk, .string ce, .string yv, .int .u64 (yn.toNat : Int)]]) rfl rfl ?_ ((HAY.out wx).mono ?_)
          · skip
            go_simp
          · rintro e w' ⟨rfl, hq⟩
            exact ⟨_, rfl, hq, fun d hd => by cases hd; exact rfl⟩
        · obtain ⟨_, q69, rfl⟩ := hG.new 69 (by kernel_rfl) (by kernel_rfl)
          refine step_value (v := .slice (some ⟨wx.heap.size, 0, none⟩) 1 1) (w' := wx.alloc (.cells #[.int .i64 zk, .string ce, .string zv, .int .u64 (zn.toNat : Int)] 24)) rfl rfl ?_ ((Below.refl _ _).alloc (Nat.le_refl _) _) (fun d hd => by cases hd; exact NV.lit1 wx ⟨zk, ce, zv, zn⟩)
          go_simp
        · obtain ⟨_, q63, rfl⟩ := hG.new 63 (by kernel_rfl) (by kernel_rfl)
          obtain ⟨_, q64, rfl⟩ := hG.new 64 (by kernel_rfl) (by kernel_rfl)
          obtain ⟨v70, q70, h70⟩ := hG.new 70 (by kernel_rfl) (by kernel_rfl)
          have p70 : NV wx v70 [⟨zk, ce, zv, zn⟩] := h70
          refine step_call (w1 := wx) (f := 10) (args := #[.string s0, .bool has, v70]) rfl rfl ?_ ((HDZ.out wx v70 p70).mono ?_)
          · clear h70 p70
            go_simp
          · rintro e w' ⟨rfl, hq⟩
            exact ⟨_, rfl, hq, fun d hd => by cases hd; exact rfl⟩
        · obtain ⟨_, q71, rfl⟩ := hG.new 71 (by kernel_rfl) (by kernel_rfl)
          refine step_value (v := .tuple #[.string d1, .bool d2]) (w' := wx) rfl rfl ?_ (Below.refl _ _) (fun d hd => by cases hd; exact rfl)
          go_simp
        · obtain ⟨_, q62, rfl⟩ := hG.new 62 (by kernel_rfl) (by kernel_rfl)
          refine step_value (v := .string d1) (w' := wx) rfl rfl ?_ (Below.refl _ _) (fun d hd => by cases hd; exact rfl)
          go_simp
        · obtain ⟨_, q62, rfl⟩ := hG.new 62 (by kernel_rfl) (by kernel_rfl)
          refine step_value (v := .bool d2) (w' := wx) rfl rfl ?_ (Below.refl _ _) (fun d hd => by cases hd; exact rfl)
          go_simp
        · obtain ⟨_, q72, rfl⟩ := hG.new 72 (by kernel_rfl) (by kernel_rfl)
          refine step_value (v := .string d1) (w' := wx) rfl rfl ?_ (Below.refl _ _) (fun d hd => by cases hd; exact rfl)
          go_simp
        · obtain ⟨_, q73, rfl⟩ := hG.new 73 (by kernel_rfl) (by kernel_rfl)
          refine step_value (v := .bool d2) (w' := wx) rfl rfl ?_ (Below.refl _ _) (fun d hd => by cases hd; exact rfl)
          go_simp
      intro fv w9 hS9 hV8
      have e17 : fv 17 = .string d1 := hV8 17 (by decide)
      have e18 : fv 18 = .bool d2 := hV8 18 (by decide)
      simp only [puts, Act.put, List.setIfInBounds_toArray, List.set_cons_succ, List.set_cons_zero]
      clear hV8
      rw [e17, e18]
      have NA9 := Lib.hid (NBlk.on NA8.out hS9)
      have NB9 := Lib.hid (NBlk.on NB8.out hS9)
      have hb09 : Below w.heap.size w w9 := hb08.trans (hS9.mono hb08.size)
      clear hb08 hS9 NA8 NB8 NC8 HCA HCB HCC e17 e18
      generalize fv 62 = f62
      generalize fv 63 = f63
      generalize fv 64 = f64
      generalize fv 65 = f65
      generalize fv 66 = f66
      generalize fv 67 = f67
      generalize fv 68 = f68
      generalize fv 69 = f69
      generalize fv 70 = f70
      generalize fv 71 = f71
      generalize fv 72 = f72
      generalize fv 73 = f73
      clear fv
      go_upto_region 7 with fail
      go_cut [86] (fun v wx => v = .bool false ∧ Below w9.heap.size w9 wx)
      case first =>
        obtain ⟨k0, k1, k2, k3⟩ := NBlk.cells NA9.out
        go_wp2_with fail
        refine (hra _).mono ?_
        rintro e wa ⟨rfl, hba⟩
        cases ra with
        | false =>
          clear k0 k1 k2 k3
          go_wp2
          go_meet
          case rel => exact ⟨by first | rfl | trivial, hba⟩
        | true =>
          have NAa := Lib.hid (NBlk.on NA9.out hba)
          have NBa := Lib.hid (NBlk.on NB9.out hba)
          clear k0 k1 k2 k3
          obtain ⟨l0, l1, l2, l3⟩ := NBlk.cells NBa.out
          go_wp2_with fail
          refine (hrb _).mono ?_
          rintro e wb ⟨rfl, hbb⟩
          have hbab := hba.trans (hbb.mono hba.size)
          cases rb with
          | false =>
            clear l0 l1 l2 l3
            go_wp2
            go_meet
            case rel => exact ⟨by first | rfl | trivial, hbab⟩
          | true =>
            have hrm1 : rm = true := by have h := HRE.out; simpa using h
            subst hrm1
            have NAb := Lib.hid (NBlk.on NAa.out hbb)
            have NBb := Lib.hid (NBlk.on NBa.out hbb)
            clear l0 l1 l2 l3
            obtain ⟨k0, k1, k2, k3⟩ := NBlk.cells NAb.out
            obtain ⟨l0, l1, l2, l3⟩ := NBlk.cells NBb.out
            have hab := HAB.out
            go_wp2_with fail
            refine (hab _).mono ?_
            clear hab
            rintro e wc1 ⟨rfl, hbc⟩
            have hbabc := hbab.trans (hbc.mono hbab.size)
            clear k0 k1 k2 k3 l0 l1 l2 l3
            go_wp2_with fail
            refine (hrm _).mono ?_
            rintro e wd ⟨rfl, hbd⟩
            have hbz := hbabc.trans (hbd.mono hbabc.size)
            go_wp2
            go_meet
            case rel => exact ⟨by first | rfl | trivial, hbz⟩
      case rest =>
        obtain ⟨rfl, hbc⟩ := hcut
        have NA10 := Lib.hid (NBlk.on NA9.out hbc)
        have NB10 := Lib.hid (NBlk.on NB9.out hbc)
        have hb10 : Below w.heap.size w wc := hb09.trans (hbc.mono hb09.size)
        clear hb09 hbc NA9 NB9 hra hrb hrm HRE
        go_wp2_with fail
        have HCA := Lib.hid (fun (wx : World) (h : Below wc.heap.size wc wx) => NBlk.cells (NBlk.on NA10.out h))
        have HCB := Lib.hid (fun (wx : World) (h : Below wc.heap.size wc wx) => NBlk.cells (NBlk.on NB10.out h))
        simp only at HCA HCB
        have HSP := Lib.hid (str_eq (rfl : p1 = p1))
        have HSD := Lib.hid (str_eq (rfl : d1 = d1))
        have HSB := Lib.hid (str_eq (rfl : be = be))
        have HBP := Lib.hid (show (p2 == p2) = true by simp)
        have HBD := Lib.hid (show (d2 == d2) = true by simp)
        have HFD := Lib.hid (fun w : World => show (Instr.field 24 (.agg #[.int .i64 mk, .string be, .string mv, .int .u64 (mn.toNat : Int)]) 1).run Try.prog w = .ok (.string be) w from by kernel_rfl)
        refine wp_region_inv [87, 88, 89, 90, 91, 92, 93, 94, 95, 96, 97, 98, 99, 100, 101, 102, 103, 104, 105, 106, 107, 108, 109, 110, 111, 112, 113, 114, 115, 116, 10] (by kernel_rfl) (by kernel_rfl) (fun w' => Below wc.heap.size wc w') (fun wa wb => Below wa.heap.size wa wb) (Bo9V p1 d1 be p2 d2 (.agg #[.int .i64 ak, .string ae, .string av, .int .u64 (an.toNat : Int)]) (.agg #[.int .i64 bk, .string be, .string bv, .int .u64 (bn.toNat : Int)]) (.agg #[.int .i64 mk, .string be, .string mv, .int .u64 (mn.toNat : Int)]) (w.heap.size + 1)) (by kernel_rfl) (fun wa wb h1 h2 => h2.trans (h1.mono h2.size)) (fun t v wa wb h1 h2 => h2.on h1) (Below.refl _ _).drew (steps_of ?_) ?_
        · skip
          refine Steps1.cons (fun ax wx hS hG => ?_) (Steps1.cons (fun ax wx hS hG => ?_) (Steps1.cons (fun ax wx hS hG => ?_) (Steps1.cons (fun ax wx hS hG => ?_) (Steps1.cons (fun ax wx hS hG => ?_) (Steps1.cons (fun ax wx hS hG => ?_) (Steps1.cons (fun ax wx hS hG => ?_) (Steps1.cons (fun ax wx hS hG => ?_) (Steps1.cons (fun ax wx hS hG => ?_) (Steps1.cons (fun ax wx hS hG => ?_) (Steps1.cons (fun ax wx hS hG => ?_) (Steps1.cons (fun ax wx hS hG => ?_) (Steps1.cons (fun ax wx hS hG => ?_) (Steps1.cons (fun ax wx hS hG => ?_) (Steps1.cons (fun ax wx hS hG => ?_) (Steps1.cons (fun ax wx hS hG => ?_) (Steps1.cons (fun ax wx hS hG => ?_) (Steps1.cons (fun ax wx hS hG => ?_) (Steps1.cons (fun ax wx hS hG => ?_) (Steps1.cons (fun ax wx hS hG => ?_) (Steps1.cons (fun ax wx hS hG => ?_) (Steps1.cons (fun ax wx hS hG => ?_) (Steps1.cons (fun ax wx hS hG => ?_) (Steps1.cons (fun ax wx hS hG => ?_) (Steps1.cons (fun ax wx hS hG => ?_) (Steps1.cons (fun ax wx hS hG => ?_) (Steps1.cons (fun ax wx hS hG => ?_) (Steps1.cons (fun ax wx hS hG => ?_) (Steps1.cons (fun ax wx hS hG => ?_) (Steps1.cons (fun ax wx hS hG => ?_) (Steps1.cons (fun ax wx hS hG => ?_) Steps1.nil))))))))))))))))))))))))))))))
          · have q11 := hG.old 11 (by kernel_rfl) (by kernel_rfl)
            refine step_value (v := .string p1) (w' := wx) rfl rfl ?_ (Below.refl _ _) (fun d hd => by cases hd; exact rfl)
            go_simp
          · have q13 := hG.old 13 (by kernel_rfl) (by kernel_rfl)
            refine step_value (v := .string p1) (w' := wx) rfl rfl ?_ (Below.refl _ _) (fun d hd => by cases hd; exact rfl)
            go_simp
          · obtain ⟨_, q87, rfl⟩ := hG.new 87 (by kernel_rfl) (by kernel_rfl)
            obtain ⟨_, q88, rfl⟩ := hG.new 88 (by kernel_rfl) (by kernel_rfl)
            refine step_value (v := .bool true) (w' := wx) rfl rfl ?_ (Below.refl _ _) (fun d hd => by cases hd; exact rfl)
            have hss := HSP.out
            go_simp
          · obtain ⟨_, q89, rfl⟩ := hG.new 89 (by kernel_rfl) (by kernel_rfl)
            refine step_value (v := .bool true) (w' := wx) rfl rfl ?_ (Below.refl _ _) (fun d hd => by cases hd; exact rfl)
            go_simp
          · have q12 := hG.old 12 (by kernel_rfl) (by kernel_rfl)
            obtain ⟨_, q90, rfl⟩ := hG.new 90 (by kernel_rfl) (by kernel_rfl)
            refine step_value (v := .bool p2) (w' := wx) rfl (by simp [Region.wanted, yielded, q90]) ?_ (Below.refl _ _) (fun d hd => by cases hd; exact rfl)
            go_simp
          · have q14 := hG.old 14 (by kernel_rfl) (by kernel_rfl)
            obtain ⟨_, q90, rfl⟩ := hG.new 90 (by kernel_rfl) (by kernel_rfl)
            refine step_value (v := .bool p2) (w' := wx) rfl (by simp [Region.wanted, yielded, q90]) ?_ (Below.refl _ _) (fun d hd => by cases hd; exact rfl)
            go_simp
          · obtain ⟨_, q91, rfl⟩ := hG.new 91 (by kernel_rfl) (by kernel_rfl)
            obtain ⟨_, q92, rfl⟩ := hG.new 92 (by kernel_rfl) (by kernel_rfl)
            obtain ⟨_, q90, rfl⟩ := hG.new 90 (by kernel_rfl) (by kernel_rfl)
            refine step_value (v := .bool true) (w' := wx) rfl (by simp [Region.wanted, yielded, q90]) ?_ (Below.refl _ _) (fun d hd => by cases hd; exact rfl)
            have hss := HBP.out
            go_simp
          · obtain ⟨_, q90, rfl⟩ := hG.new 90 (by kernel_rfl) (by kernel_rfl)
            obtain ⟨_, q93, rfl⟩ := hG.new 93 (by kernel_rfl) (by kernel_rfl)
            refine step_value (v := .bool true) (w' := wx) rfl rfl ?_ (Below.refl _ _) (fun d hd => by cases hd; exact rfl)
            go_simp
          · obtain ⟨_, q94, rfl⟩ := hG.new 94 (by kernel_rfl) (by kernel_rfl)
            refine step_value (v := .bool true) (w' := wx) rfl rfl ?_ (Below.refl _ _) (fun d hd => by cases hd; exact rfl)
            go_simp
          · have q15 := hG.old 15 (by kernel_rfl) (by kernel_rfl)
            obtain ⟨_, q95, rfl⟩ := hG.new 95 (by kernel_rfl) (by kernel_rfl)
            refine step_value (v := .string d1) (w' := wx) rfl (by simp [Region.wanted, yielded, q95]) ?_ (Below.refl _ _) (fun d hd => by cases hd; exact rfl)
            go_simp
          · have q17 := hG.old 17 (by kernel_rfl) (by kernel_rfl)
            obtain ⟨_, q95, rfl⟩ := hG.new 95 (by kernel_rfl) (by kernel_rfl)
            refine step_value (v := .string d1) (w' := wx) rfl (by simp [Region.wanted, yielded, q95]) ?_ (Below.refl _ _) (fun d hd => by cases hd; exact rfl)
            go_simp
          · obtain ⟨_, q96, rfl⟩ := hG.new 96 (by kernel_rfl) (by kernel_rfl)
            obtain ⟨_, q97, rfl⟩ := hG.new 97 (by kernel_rfl) (by kernel_rfl)
            obtain ⟨_, q95, rfl⟩ := hG.new 95 (by kernel_rfl) (by kernel_rfl)
            refine step_value (v := .bool true) (w' := wx) rfl (by simp [Region.wanted, yielded, q95]) ?_ (Below.refl _ _) (fun d hd => by cases hd; exact rfl)
            have hss := HSD.out
            go_simp
          · obtain ⟨_, q95, rfl⟩ := hG.new 95 (by kernel_rfl) (by kernel_rfl)
            obtain ⟨_, q98, rfl⟩ := hG.new 98 (by kernel_rfl) (by kernel_rfl)
            refine step_value (v := .bool true) (w' := wx) rfl rfl ?_ (Below.refl _ _) (fun d hd => by cases hd; exact rfl)
            go_simp
          · obtain ⟨_, q99, rfl⟩ := hG.new 99 (by kernel_rfl) (by kernel_rfl)
            refine step_value (v := .bool true) (w' := wx) rfl rfl ?_ (Below.refl _ _) (fun d hd => by cases hd; exact rfl)
            go_simp
          · have q16 := hG.old 16 (by kernel_rfl) (by kernel_rfl)
            obtain ⟨_, q100, rfl⟩ := hG.new 100 (by kernel_rfl) (by kernel_rfl)
            refine step_value (v := .bool d2) (w' := wx) rfl (by simp [Region.wanted, yielded, q100]) ?_ (Below.refl _ _) (fun d hd => by cases hd; exact rfl)
            go_simp
          · have q18 := hG.old 18 (by kernel_rfl) (by kernel_rfl)
            obtain ⟨_, q100, rfl⟩ := hG.new 100 (by kernel_rfl) (by kernel_rfl)
            refine step_value (v := .bool d2) (w' := wx) rfl (by simp [Region.wanted, yielded, q100]) ?_ (Below.refl _ _) (fun d hd => by cases hd; exact rfl)
            go_simp
          · obtain ⟨_, q101, rfl⟩ := hG.new 101 (by kernel_rfl) (by kernel_rfl)
            obtain ⟨_, q102, rfl⟩ := hG.new 102 (by kernel_rfl) (by kernel_rfl)
            obtain ⟨_, q100, rfl⟩ := hG.new 100 (by kernel_rfl) (by kernel_rfl)
            refine step_value (v := .bool true) (w' := wx) rfl (by simp [Region.wanted, yielded, q100]) ?_ (Below.refl _ _) (fun d hd => by cases hd; exact rfl)
            have hss := HBD.out
            go_simp
          · obtain ⟨_, q100, rfl⟩ := hG.new 100 (by kernel_rfl) (by kernel_rfl)
            obtain ⟨_, q103, rfl⟩ := hG.new 103 (by kernel_rfl) (by kernel_rfl)
            refine step_value (v := .bool true) (w' := wx) rfl rfl ?_ (Below.refl _ _) (fun d hd => by cases hd; exact rfl)
            go_simp
          · obtain ⟨_, q104, rfl⟩ := hG.new 104 (by kernel_rfl) (by kernel_rfl)
            refine step_value (v := .bool true) (w' := wx) rfl rfl ?_ (Below.refl _ _) (fun d hd => by cases hd; exact rfl)
            go_simp
          · have q7 := hG.old 7 (by kernel_rfl) (by kernel_rfl)
            obtain ⟨_, q105, rfl⟩ := hG.new 105 (by kernel_rfl) (by kernel_rfl)
            obtain ⟨z0, z1, z2, z3⟩ := HCA.out wx hS
            refine step_value (v := .agg #[.int .i64 ak, .string ae, .string av, .int .u64 (an.toNat : Int)]) (w' := wx) rfl (by simp [Region.wanted, yielded, q105]) ?_ (Below.refl _ _) (fun d hd => by cases hd; exact rfl)
            go_simp
          · have q8 := hG.old 8 (by kernel_rfl) (by kernel_rfl)
            obtain ⟨_, q105, rfl⟩ := hG.new 105 (by kernel_rfl) (by kernel_rfl)
            obtain ⟨z0, z1, z2, z3⟩ := HCB.out wx hS
            refine step_value (v := .agg #[.int .i64 bk, .string be, .string bv, .int .u64 (bn.toNat : Int)]) (w' := wx) rfl (by simp [Region.wanted, yielded, q105]) ?_ (Below.refl _ _) (fun d hd => by cases hd; exact rfl)
            go_simp
          · obtain ⟨_, q106, rfl⟩ := hG.new 106 (by kernel_rfl) (by kernel_rfl)
            obtain ⟨_, q107, rfl⟩ := hG.new 107 (by kernel_rfl) (by kernel_rfl)
            obtain ⟨_, q105, rfl⟩ := hG.new 105 (by kernel_rfl) (by kernel_rfl)
            refine step_call (w1 := wx) (f := 11) (args := #[.agg #[.int .i64 ak, .string ae, .string av, .int .u64 (an.toNat : Int)], .agg #[.int .i64 bk, .string be, .string bv, .int .u64 (bn.toNat : Int)]]) rfl (by simp [Region.wanted, yielded, q105]) ?_ ((HAB.out wx).mono ?_)
            · skip
              go_simp
            · rintro e w' ⟨rfl, hq⟩
              exact ⟨_, rfl, hq, fun d hd => by cases hd; exact rfl⟩
          · obtain ⟨_, q108, rfl⟩ := hG.new 108 (by kernel_rfl) (by kernel_rfl)
            obtain ⟨_, q105, rfl⟩ := hG.new 105 (by kernel_rfl) (by kernel_rfl)
            refine step_value (v := .string be) (w' := wx) rfl (by simp [Region.wanted, yielded, q105]) ?_ (Below.refl _ _) (fun d hd => by cases hd; exact rfl)
            have hfd := HFD.out wx
            go_simp
          · have q8 := hG.old 8 (by kernel_rfl) (by kernel_rfl)
            obtain ⟨_, q105, rfl⟩ := hG.new 105 (by kernel_rfl) (by kernel_rfl)
            refine step_value (v := .pointer (some ⟨w.heap.size + 1, 1, none⟩)) (w' := wx) rfl (by simp [Region.wanted, yielded, q105]) ?_ (Below.refl _ _) (fun d hd => by cases hd; exact rfl)
            go_simp
          · obtain ⟨_, q110, rfl⟩ := hG.new 110 (by kernel_rfl) (by kernel_rfl)
            obtain ⟨_, q105, rfl⟩ := hG.new 105 (by kernel_rfl) (by kernel_rfl)
            obtain ⟨z0, z1, z2, z3⟩ := HCB.out wx hS
            refine step_value (v := .string be) (w' := wx) rfl (by simp [Region.wanted, yielded, q105]) ?_ (Below.refl _ _) (fun d hd => by cases hd; exact rfl)
            go_simp
          · obtain ⟨_, q109, rfl⟩ := hG.new 109 (by kernel_rfl) (by kernel_rfl)
            obtain ⟨_, q111, rfl⟩ := hG.new 111 (by kernel_rfl) (by kernel_rfl)
            obtain ⟨_, q105, rfl⟩ := hG.new 105 (by kernel_rfl) (by kernel_rfl)
            refine step_value (v := .bool true) (w' := wx) rfl (by simp [Region.wanted, yielded, q105]) ?_ (Below.refl _ _) (fun d hd => by cases hd; exact rfl)
            have hss := HSB.out
            go_simp
          · obtain ⟨_, q105, rfl⟩ := hG.new 105 (by kernel_rfl) (by kernel_rfl)
            obtain ⟨_, q112, rfl⟩ := hG.new 112 (by kernel_rfl) (by kernel_rfl)
            refine step_value (v := .bool true) (w' := wx) rfl rfl ?_ (Below.refl _ _) (fun d hd => by cases hd; exact rfl)
            go_simp
          · obtain ⟨_, q113, rfl⟩ := hG.new 113 (by kernel_rfl) (by kernel_rfl)
            refine step_value (v := .bool true) (w' := wx) rfl rfl ?_ (Below.refl _ _) (fun d hd => by cases hd; exact rfl)
            go_simp
          · obtain ⟨_, q114, rfl⟩ := hG.new 114 (by kernel_rfl) (by kernel_rfl)
            refine step_call (w1 := wx) (f := 9) (args := #[]) rfl (by simp [Region.wanted, yielded, q114]) ?_ ((awake_true wx).mono ?_)
            · skip
              go_simp
            · rintro e w' ⟨rfl, hq⟩
              exact ⟨_, rfl, hq, fun d hd => by cases hd; exact rfl⟩
          · obtain ⟨_, q114, rfl⟩ := hG.new 114 (by kernel_rfl) (by kernel_rfl)
            obtain ⟨_, q115, rfl⟩ := hG.new 115 (by kernel_rfl) (by kernel_rfl)
            refine step_value (v := .bool true) (w' := wx) rfl rfl ?_ (Below.refl _ _) (fun d hd => by cases hd; exact rfl)
            go_simp
          · obtain ⟨_, q116, rfl⟩ := hG.new 116 (by kernel_rfl) (by kernel_rfl)
            refine step_value (v := .bool true) (w' := wx) rfl rfl ?_ (Below.refl _ _) (fun d hd => by cases hd; exact rfl)
            go_simp
        intro fv w8 hS8 hV8
        have e10 : fv 10 = .bool true := hV8 10 (by decide)
        simp only [puts, Act.put, List.setIfInBounds_toArray, List.set_cons_succ, List.set_cons_zero]
        clear hV8
        rw [e10]
        go_wp2
        go_ret
        exact ⟨rfl, hb10.trans (hS8.mono hb10.size)⟩
  · have hd1 : decide (300 < (s0.size : Int)) = true := by simp; omega
    go_enter Try.func3, Try.ntmps3
    go_wp2_with fail
    rw [← W3.out]
    refine (awake_true _).mono ?_
    rintro e w9 ⟨rfl, hb9⟩
    go_wp2
    go_ret
    exact ⟨rfl, hb3.trans (hb9.mono hb3.size)⟩

end Go.Proofs.Ytifemajgdbihnaa
