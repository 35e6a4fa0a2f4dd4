/- The walk of the law CheckTable. -/
import Derived.Test.YteobphighbdjaaaLEasy
import Derived.Test.YteobphighbdjaaaBytes
import Derived.Laws.OwnMore
import Derived.OwnWalk
import Derived.Deep.RegionHeld3
namespace Go.Proofs.Yteobphighbdjaaa
open Go.RowKit

theorem tab_at (i : Nat) (h : i < 256) : (tabArr 256)[i]? = some (.int .u32 (tabN i : Int)) := by
  rw [tabArr_at 256 i h, if_pos h]

theorem tabN_lt (i : Nat) : tabN i < 16777216 := (addB _ _).isLt
theorem tabN_more (i : Nat) : moreN 0 ⟨#[UInt8.ofNat i]⟩ = tabN i := rfl
theorem tabN_zero (i : Nat) (h : i < 256) : tabN i = 0 ↔ i = 0 := by
  have H : ∀ i : Fin 256, tabN i.val = 0 ↔ i.val = 0 := by decide +kernel
  exact H ⟨i, h⟩
theorem tabN_xor (i k : Nat) (hi : i < 256) (hk : k < 256) : tabN (i ^^^ k) = tabN i ^^^ tabN k := by
  unfold tabN
  rw [← BitVec.toNat_xor, ← addB_xor]
  congr 2
  apply UInt8.toNat_inj.1
  have : i ^^^ k < 2 ^ 8 := Nat.xor_lt_two_pow hi hk
  simp [UInt8.toNat_xor]

/-- What stays while the law's last line is told: three places of the table, and all that was there ahead of the call. -/
abbrev TabS (w : World) (B i k x : Nat) (w' : World) : Prop :=
  w'.cell? ⟨B, i, none⟩ = some (.int .u32 (tabN i : Int)) ∧ w'.cell? ⟨B, k, none⟩ = some (.int .u32 (tabN k : Int)) ∧ w'.cell? ⟨B, x, none⟩ = some (.int .u32 (tabN x : Int)) ∧ Below w.heap.size w w' ∧ B < w'.heap.size
theorem TabS.drew {w w' : World} {B i k x : Nat} (h : TabS w B i k x w') : TabS w B i k x w'.drew := ⟨h.1, h.2.1, h.2.2.1, h.2.2.2.1.drew, h.2.2.2.2⟩
theorem TabS.below {w w' w2 : World} {B i k x : Nat} (h : TabS w B i k x w') (hb : Below w'.heap.size w' w2) : TabS w B i k x w2 :=
  ⟨(hb.cell h.2.2.2.2).trans h.1, (hb.cell h.2.2.2.2).trans h.2.1, (hb.cell h.2.2.2.2).trans h.2.2.1, h.2.2.2.1.trans (hb.mono h.2.2.2.1.size), by have := h.2.2.2.2; have := hb.size; omega⟩
theorem TabS.alloc {w w' : World} {B i k x : Nat} (h : TabS w B i k x w') (o : Obj) : TabS w B i k x (w'.alloc o) := h.below ((Below.refl _ _).alloc (Nat.le_refl _) _)

theorem conv_byte (w : World) (c : Nat) (h1 : c < 256) : (convert 31 9 (.slice (some ⟨w.heap.size, 0, none⟩) 1 1)).run Try.prog (w.alloc (.cells #[.int .u8 (c : Int)] 5)) = .ok (.string ⟨#[UInt8.ofNat c]⟩) (w.alloc (.cells #[.int .u8 (c : Int)] 5)) := by
  have h := World.ownsRow_lit (base := w.heap.size) (e := 5) (size := 1) w #[.int .u8 (c : Int)] 1 (Nat.le_refl _) (by unfold maxLen; omega) rfl
  have hc : Lib.byteCells [UInt8.ofNat c] = [.int .u8 (c : Int)] := by
    simp [Lib.byteCells]; omega
  exact conv_row (P := Try.prog) (ts := 31) (te := 5) (tt := 9) (base := w.heap.size) (g := w.heap.size) (cap := 1) (l := [UInt8.ofNat c]) Try.underlying31 Try.underlying5 Try.underlying9 (by rw [hc]; exact h)

theorem more_byte (i : Nat) (w : World) : Calls Try.prog 14 #[.int .u32 0, .string ⟨#[UInt8.ofNat i]⟩] w fun e w' => e = .returned (.int .u32 (tabN i : Int)) ∧ w = w' := by
  rw [← tabN_more]
  exact more_any 0 _ w (by omega) (by unfold maxLen; show 1 ≤ _; omega)

theorem more_none (n : Nat) (w : World) (hn : n < 4294967296) : Calls Try.prog 14 #[.int .u32 n, .string ⟨#[]⟩] w fun e w' => e = .returned (.int .u32 ((n : Int) % 16777216)) ∧ w = w' := by
  have h := more_any n ⟨#[]⟩ w hn (by unfold maxLen; show 0 ≤ _; omega)
  have e : moreN n ⟨#[]⟩ = n % 16777216 := first24 n
  rw [e] at h
  exact h

set_option maxHeartbeats 1000000 in
set_option maxRecDepth 100000 in
theorem table_walk (i k n : Nat) (w : World) (hi : i < 256) (hk : k < 256) (hn : n < 4294967296) :
    Calls Try.prog 7 #[.int .u8 i, .int .u8 k, .int .u32 n] w fun e w' => e = .returned (.bool true) ∧ Below w.heap.size w w' := by
  obtain ⟨hz, hin⟩ := zero_of_info tab_info
  rw [← tabArr_zero] at hz
  have HI := Lib.hid hin
  clear hin
  obtain ⟨b, hb1, hb2⟩ : ∃ b : Bool, (((tabN i : Nat) : Int) == 0) = b ∧ ((i : Int) == 0) = b := by
    refine ⟨_, rfl, ?_⟩
    have h := tabN_zero i hi
    rw [Bool.eq_iff_iff, beq_iff_eq, beq_iff_eq]
    omega
  go_enter Try.func7, Try.ntmps7
  go_wp2_with fail
  refine (table_any w).mono ?_
  rintro e w1 ⟨rfl, hbw⟩
  have H0 := Lib.hid (tabArr_size 0)
  have H1 := Lib.hid (tabArr_size 256)
  have H2 := Lib.hid (tabArr_one 256)
  have ht0 := tab_at i hi
  have ht1 := tab_at k hk
  have hik : i ^^^ k < 2 ^ 8 := Nat.xor_lt_two_pow hi hk
  have ht2 := tab_at (i ^^^ k) hik
  have hxb := u8_xor_nat i k hi hk
  generalize tabArr 0 = t0 at *
  generalize tabArr 256 = tk at *
  go_wp2_with (first | (refine wpList_store_row rfl 34 (.tmp 7) (.tmp 8) rfl w1.heap.size tk rfl rfl 34 t0 (heap_alloc_new _ _) (by rw [H1.out]; exact HI.out) (by rw [H0.out, H1.out]) H2.out ?_; rw [World.setRow_alloc_new]))
  have hS : TabS w w1.heap.size i k (i ^^^ k) (w1.alloc (.cells tk 34)) := by
    refine ⟨?_, ?_, ?_, hbw.alloc hbw.size _, by simp⟩ <;> simp [ht0, ht1, ht2]
  generalize w1.alloc (.cells tk 34) = w2 at *
  generalize w1.heap.size = B at *
  clear H0 H1 H2 ht0 ht1 ht2 hz HI hbw
  have hx3 := tabN_xor i k hi hk
  have hx4 := u32_xor_nat (tabN i) (tabN k) (by have := tabN_lt i; omega) (by have := tabN_lt k; omega)
  rw [← hx3] at hx4
  clear hx3
  have hcv : (convert 31 9 (.slice (some ⟨w2.heap.size, 0, none⟩) 1 1)).run Try.prog (w2.alloc (.cells #[.int .u8 (i : Int)] 5)).drew = .ok (.string ⟨#[UInt8.ofNat i]⟩) (w2.alloc (.cells #[.int .u8 (i : Int)] 5)).drew := conv_byte w2.drew i hi
  have hiI : (i : Int) < 256 := by omega
  have hkI : (k : Int) < 256 := by omega
  have hxI : ((i ^^^ k : Nat) : Int) < 256 := by omega
  have hm : ((n : Int)).tmod 16777216 = (n : Int) % 16777216 := Int.tmod_eq_emod_of_nonneg (by omega)
  go_region_held (fun w' => w'.cell? ⟨B, i, none⟩ = some (.int .u32 (tabN i : Int)) ∧ w'.cell? ⟨B, k, none⟩ = some (.int .u32 (tabN k : Int)) ∧ w'.cell? ⟨B, i ^^^ k, none⟩ = some (.int .u32 (tabN (i ^^^ k) : Int)) ∧ Below w.heap.size w w' ∧ B < w'.heap.size)
    (first | exact TabS.drew hS | exact TabS.alloc (by assumption) _ | exact TabS.below (by assumption) (by assumption) | assumption)
    (first | (go_at_call 14; (first | (with_reducible refine (more_byte i _).mono ?_) | (with_reducible refine (more_none n _ hn).mono ?_)); rintro e w' ⟨rfl, rfl⟩) | (go_at_call 11; refine (awake_true _).mono ?_; rintro e w' ⟨rfl, hbq⟩))
  rename_i hh
  have hbel := hh.2.2.2.1
  clear hh
  go_wp2
  go_ret
  exact ⟨rfl, hbel⟩

end Go.Proofs.Yteobphighbdjaaa
