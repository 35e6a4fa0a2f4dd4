/- The walk of small. -/
import Derived.Test.YtgpjbajfkagdbaaPh
import Derived.Test.YtgpjbajfkagdbaaWAt
set_option linter.unusedVariables false
set_option linter.unusedSimpArgs false
namespace Go.Proofs.Ytgpjbajfkagdbaa
open Go.RowKit

set_option maxHeartbeats 4000000 in
set_option maxRecDepth 100000 in
theorem small_v {v u : Value} {l : List Pr} {t : List Ch} {w : World} (hv : PV w v l) (hu : CV w u t) :
    Calls Try.prog 8 #[v, u] w fun e w' => ∃ R, e = .returned (.bool R) ∧ (R = true → l.length ≤ 60 ∧ t.length ≤ 60) ∧ Below w.heap.size w w' := by
  obtain ⟨A, n, c, rfl, hl⟩ : ∃ A n c, v = .slice A n c ∧ l.length = n := by obtain ⟨A, c, e, _⟩ := hv; exact ⟨A, _, c, e, rfl⟩
  obtain ⟨B, m, d, rfl, hm⟩ : ∃ A n c, u = .slice A n c ∧ t.length = n := by obtain ⟨A, c, e, _⟩ := hu; exact ⟨A, _, c, e, rfl⟩
  have HA := Lib.hid (show Prs w w.heap.size A l from by
    obtain ⟨A', c', e', h, _⟩ := hv
    injection e' with e1 e2 e3
    rw [e1]; exact h)
  have HB := Lib.hid (show Chs w w.heap.size B t from by
    obtain ⟨A', c', e', h, _⟩ := hu
    injection e' with e1 e2 e3
    rw [e1]; exact h)
  have HL := Lib.hid hl
  have HM := Lib.hid hm
  rw [hl, hm]
  clear hl hm hv hu
  by_cases h60 : n ≤ 60
  case neg =>
    have hd : decide (60 < (n : Int)) = true := by simp; omega
    have hd' : decide (60 < n) = true := by simp; omega
    clear h60
    go_enter Try.func8, Try.ntmps8
    go_wp2
    go_ret
    exact ⟨_, rfl, fun h => (by cases h), Below.refl _ _⟩
  have hd : decide (60 < (n : Int)) = false := by simp; omega
  have hd' : decide (60 < n) = false := by simp; omega
  by_cases m60 : m ≤ 60
  case neg =>
    have he : decide (60 < (m : Int)) = true := by simp; omega
    have he' : decide (60 < m) = true := by simp; omega
    clear h60 m60
    go_enter Try.func8, Try.ntmps8
    go_wp2
    go_ret
    exact ⟨_, rfl, fun h => (by cases h), Below.refl _ _⟩
  have he : decide (60 < (m : Int)) = false := by simp; omega
  have he' : decide (60 < m) = false := by simp; omega
  have H60 := Lib.hid (And.intro h60 m60)
  go_enter Try.func8, Try.ntmps8
  go_wp2
  clear hd hd' he he'
  go_loopw [19] (fun i wr => ∃ (k : Nat), i = .int .i64 k ∧ k ≤ n ∧ Below w.heap.size w wr) (fun i _ => (n - intOf i).toNat)
  case atStart => exact ⟨0, rfl, by omega, Below.refl _ _⟩
  case round =>
    obtain ⟨k, rfl, hk, hbr⟩ := hrel
    by_cases hlt : k < n
    · obtain ⟨ad, rfl, hab, hca⟩ := (HA.out.below hbr).seeP (by rw [HL.out]; omega)
      obtain ⟨c1, c2⟩ := hca k (by rw [HL.out]; omega)
      obtain ⟨x, hx⟩ : ∃ x, x = l[k]'(by rw [HL.out]; omega) := ⟨_, rfl⟩
      rw [← hx] at c1 c2
      clear hx hca
      obtain ⟨xk, xv⟩ := x
      simp only at c1 c2
      have hlt3 : (ad.add (k * 2)).block < w.heap.size := by rw [block_of_add]; exact hab
      by_cases h1 : xk.size ≤ 300
      · have hd1 : decide (300 < (xk.size : Int)) = false := by simp; omega
        by_cases h2 : xv.size ≤ 300
        · have hd2 : decide (300 < (xv.size : Int)) = false := by simp; omega
          go_wp2
          go_roundw
          case rel => exact ⟨k + 1, by go_num, by omega, hbr.alloc hbr.size _⟩
          case measure => simp [intOf]; omega
        · have hd2 : decide (300 < (xv.size : Int)) = true := by simp; omega
          go_wp2
          go_ret
          exact ⟨_, rfl, fun h => (by cases h), hbr.alloc hbr.size _⟩
      · have hd1 : decide (300 < (xk.size : Int)) = true := by simp; omega
        go_wp2
        go_ret
        exact ⟨_, rfl, fun h => (by cases h), hbr.alloc hbr.size _⟩
    · go_wp2
      clear hk hlt
      rename_i wq
      obtain ⟨wq', hwq⟩ : ∃ q, q = wr := ⟨_, rfl⟩
      rw [← hwq] at hbr ⊢
      clear hwq
      go_loopw [36] (fun i wr => ∃ (k : Nat), i = .int .i64 k ∧ k ≤ m ∧ Below w.heap.size w wr) (fun i _ => (m - intOf i).toNat)
      case atStart => exact ⟨0, rfl, by omega, hbr⟩
      case round =>
        obtain ⟨j, rfl, hj, hbs⟩ := hrel
        by_cases hlt : j < m
        · obtain ⟨ad, rfl, hab, hca⟩ := (HB.out.below hbs).seeC (by rw [HM.out]; omega)
          obtain ⟨c0, c1, c2, c3, c4, c5⟩ := hca j (by rw [HM.out]; omega)
          obtain ⟨x, hx⟩ : ∃ x, x = t[j]'(by rw [HM.out]; omega) := ⟨_, rfl⟩
          rw [← hx] at c0 c1 c2 c3 c4 c5
          clear hx hca
          obtain ⟨s, key, mm, b, dd, a⟩ := x
          simp only at c0 c1 c2 c3 c4 c5
          have hlt3 : (ad.add (j * 6)).block < w.heap.size := by rw [block_of_add]; exact hab
          by_cases h1 : key.size ≤ 300
          · have hd1 : decide (300 < (key.size : Int)) = false := by simp; omega
            by_cases h2 : b.size ≤ 300
            · have hd2 : decide (300 < (b.size : Int)) = false := by simp; omega
              by_cases h3 : a.size ≤ 300
              · have hd3 : decide (300 < (a.size : Int)) = false := by simp; omega
                go_wp2
                go_roundw
                case rel => exact ⟨j + 1, by go_num, by omega, hbs.alloc hbs.size _⟩
                case measure => simp [intOf]; omega
              · have hd3 : decide (300 < (a.size : Int)) = true := by simp; omega
                go_wp2
                go_ret
                exact ⟨_, rfl, fun h => (by cases h), hbs.alloc hbs.size _⟩
            · have hd2 : decide (300 < (b.size : Int)) = true := by simp; omega
              go_wp2
              go_ret
              exact ⟨_, rfl, fun h => (by cases h), hbs.alloc hbs.size _⟩
          · have hd1 : decide (300 < (key.size : Int)) = true := by simp; omega
            go_wp2
            go_ret
            exact ⟨_, rfl, fun h => (by cases h), hbs.alloc hbs.size _⟩
        · go_wp2
          go_ret
          exact ⟨_, rfl, fun _ => H60.out, hbs⟩

end Go.Proofs.Ytgpjbajfkagdbaa

namespace Go.Proofs.Ytgpjbajfkagdbaa
open Go.RowKit

def aB : ByteArray := ⟨#[97]⟩
def oneB : ByteArray := ⟨#[49]⟩
def twoB : ByteArray := ⟨#[50]⟩
def awP : List Pr := [⟨aB, twoB⟩]
def awT : List Ch := [⟨1, aB, false, noB, true, oneB⟩, ⟨2, aB, true, oneB, true, twoB⟩]
theorem aw1 : pastE awP awT 0 1 = 0 ∧ pastL awP awT 0 1 = [⟨aB, oneB⟩] := ⟨by kernel_rfl, by kernel_rfl⟩
theorem aw2 : pastE awP awT 0 0 = 0 ∧ pastL awP awT 0 0 = [] := ⟨by kernel_rfl, by kernel_rfl⟩
theorem aw3 : pastE awP awT 1 0 = 8 := by kernel_rfl
theorem aw4 : pastE awP awT 0 2 = 0 ∧ pastL awP awT 0 2 = awP := ⟨by kernel_rfl, by kernel_rfl⟩
theorem aw5 : getA [⟨aB, oneB⟩] aB = (oneB, true) := by kernel_rfl
theorem aw6 : pageL ⟨noB, noB, true⟩ 0 awP = [] ∧ moreB ⟨noB, noB, true⟩ 0 awP = true := ⟨by kernel_rfl, by kernel_rfl⟩
theorem PV.head {w : World} {v : Value} {x : Pr} (h : PV w v [x]) : ∃ (ad : Addr) (c : Nat), v = .slice (some ad) 1 c ∧ ad.block < w.heap.size ∧ w.cell? ⟨ad.block, ad.off + 1, none⟩ = some (.string x.v) := by
  obtain ⟨A, c, rfl, hA, _⟩ := h
  obtain ⟨ad, rfl, hb, hc⟩ := hA.seeP (by simp)
  obtain ⟨h0, h1⟩ := hc 0 (by simp)
  simp only [List.getElem_cons_zero, Nat.zero_mul, Addr.add_zero'] at h0 h1
  exact ⟨ad, c, rfl, hb, h1⟩
theorem PV.none_len {w : World} {v : Value} (h : PV w v []) : ∃ (A : Option Addr) (c : Nat), v = .slice A 0 c := by
  obtain ⟨A, c, rfl, _⟩ := h
  exact ⟨A, c, rfl⟩

set_option maxRecDepth 100000 in
set_option maxHeartbeats 8000000 in
theorem awake_true (w : World) : Calls Try.prog 9 #[] w fun e w' => e = .returned (.bool true) ∧ Below w.heap.size w w' := by
  obtain ⟨g, hg⟩ : ∃ q, q = w.heap.size := ⟨_, rfl⟩
  obtain ⟨wa, hwa⟩ : ∃ q, q = w.alloc (.cells #[.string ⟨#[97]⟩, .string ⟨#[50]⟩] 41) := ⟨_, rfl⟩
  obtain ⟨wb, hwb⟩ : ∃ q, q = wa.alloc (.cells #[.int .i64 1, .string ⟨#[97]⟩, .bool false, .string ⟨#[]⟩, .bool true, .string ⟨#[49]⟩, .int .i64 2, .string ⟨#[97]⟩, .bool true, .string ⟨#[49]⟩, .bool true, .string ⟨#[50]⟩] 55) := ⟨_, rfl⟩
  have ea : wa.heap.size = g + 1 := by rw [hwa, hg]; simp
  have hba : Below w.heap.size w wa := by rw [hwa]; exact (Below.refl _ _).alloc (Nat.le_refl _) _
  have hbb : Below wa.heap.size wa wb := by rw [hwb]; exact (Below.refl _ _).alloc (Nat.le_refl _) _
  have VL1 := Lib.hid (show PV wb (.slice (some ⟨g, 0, none⟩) 1 1) awP from PV.on (by rw [hwa]; exact PV.lit hg rfl rfl) hbb)
  have VT1 := Lib.hid (show CV wb (.slice (some ⟨g + 1, 0, none⟩) 2 2) awT from by rw [hwb]; exact CV.lit ea.symm rfl rfl)
  have HB1 := Lib.hid (hba.trans (hbb.mono hba.size))
  have HW := Lib.hid (And.intro hwb (And.intro hwa hg))
  clear ea hba hbb hwb hwa hg
  go_enter Try.func9, Try.ntmps9
  go_upto_region 3 with fail
  rw [← HW.out.2.2, ← HW.out.2.1, ← HW.out.1]
  have hk := past_v 0 1 VL1.out VT1.out (by decide) (by decide)
  rw [aw1.1, aw1.2] at hk
  go_wp2_with fail
  refine hk.mono ?_
  clear hk
  rintro e w2 ⟨p, rfl, hp, hb⟩
  have VP2 := Lib.hid hp
  have VL2 := Lib.hid (VL1.out.on hb)
  have VT2 := Lib.hid (VT1.out.on hb)
  have HB2 := Lib.hid (HB1.out.trans (hb.mono HB1.out.size))
  clear hp hb VL1 VT1 HB1
  have hk := past_v 0 0 VL2.out VT2.out (by decide) (by decide)
  rw [aw2.1, aw2.2] at hk
  go_wp2_with fail
  refine hk.mono ?_
  clear hk
  rintro e w3 ⟨q, rfl, hq, hb⟩
  have VP3 := Lib.hid (VP2.out.on hb)
  have VL3 := Lib.hid (VL2.out.on hb)
  have VT3 := Lib.hid (VT2.out.on hb)
  have HB3 := Lib.hid (HB2.out.trans (hb.mono HB2.out.size))
  obtain ⟨QA, qc, rfl⟩ := hq.none_len
  clear hq hb VP2 VL2 VT2 HB2
  have hk := past_v 1 0 VL3.out VT3.out (by decide) (by decide)
  rw [aw3] at hk
  go_wp2_with fail
  refine hk.mono ?_
  clear hk
  rintro e w4 ⟨z, rfl, _, hb⟩
  have VP4 := Lib.hid (VP3.out.on hb)
  have VL4 := Lib.hid (VL3.out.on hb)
  have VT4 := Lib.hid (VT3.out.on hb)
  have HB4 := Lib.hid (HB3.out.trans (hb.mono HB3.out.size))
  clear hb VP3 VL3 VT3 HB3
  have hk := pget_v 0 1 ⟨#[97]⟩ VL4.out VT4.out (by decide) (by decide)
  rw [aw1.1, aw1.2, show getA [⟨aB, oneB⟩] ⟨#[97]⟩ = (⟨#[49]⟩, true) from aw5] at hk
  go_wp2_with fail
  refine hk.mono ?_
  clear hk
  rintro e w5 ⟨rfl, hb⟩
  have VP5 := Lib.hid (VP4.out.on hb)
  have VL5 := Lib.hid (VL4.out.on hb)
  have VT5 := Lib.hid (VT4.out.on hb)
  have HB5 := Lib.hid (HB4.out.trans (hb.mono HB4.out.size))
  clear hb VP4 VL4 VT4 HB4
  have hk := pages_v 0 2 0 ⟨⟨#[]⟩, ⟨#[]⟩, true⟩ VL5.out VT5.out (by decide) (by decide)
  rw [aw4.1, aw4.2, show pageL ⟨⟨#[]⟩, ⟨#[]⟩, true⟩ 0 awP = [] from aw6.1, show moreB ⟨⟨#[]⟩, ⟨#[]⟩, true⟩ 0 awP = true from aw6.2] at hk
  go_wp2_with fail
  refine hk.mono ?_
  clear hk
  rintro e w6 ⟨r, rfl, hr, hb⟩
  obtain ⟨RA, rc, rfl⟩ := hr.none_len
  obtain ⟨ad, pc, rfl, hab, hc⟩ := (VP5.out.on hb).head
  have HB6 := Lib.hid (HB5.out.trans (hb.mono HB5.out.size))
  have hc : w6.cell? ⟨ad.block, ad.off + 1, none⟩ = some (.string ⟨#[49]⟩) := hc
  clear hb VP5 VL5 VT5 HB5 hr
  have hoB : (ByteArray.mk #[49]).toList = [49] := by rw [ByteArray.toList_eq]
  go_wp2
  go_ret
  exact ⟨rfl, HB6.out⟩

/-- A range in a block, where it stands. -/
structure XB (g : Nat) (lo hi : ByteArray) (op : Bool) (w : World) : Prop where
  box : Box w g 25 #[.string lo, .string hi, .bool op]
theorem XB.on {g : Nat} {lo hi : ByteArray} {op : Bool} {w w' : World} (h : XB g lo hi op w) (hb : Below w.heap.size w w') : XB g lo hi op w' := ⟨h.box.on hb⟩

end Go.Proofs.Ytgpjbajfkagdbaa
