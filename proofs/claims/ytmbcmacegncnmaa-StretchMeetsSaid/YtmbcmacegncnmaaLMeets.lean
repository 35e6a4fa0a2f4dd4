/- The walk of the law StretchMeets. -/
import Derived.Test.YtmbcmacegncnmaaWRef
import Derived.Test.YtmbcmacegncnmaaAwake
import Derived.Test.YtmbcmacegncnmaaInv
namespace Go.Proofs.Ytmbcmacegncnmaa
open Go.RowKit

/-- What each slot of the law's last line holds. -/
def MeetsV (A : Option Addr) (n c : Nat) (ml mh key : ByteArray) (mo b : Bool) (t : Nat) (v : Value) (_w : World) : Prop :=
  match t with
  | 37 => v = (.agg #[.string ml, .string mh, .bool mo])
  | 38 => v = .slice A n c
  | 39 => v = (.agg #[.string ml, .string mh, .bool mo])
  | 40 => v = .bool true
  | 41 => v = .bool true
  | 42 => v = (.agg #[.string ml, .string mh, .bool mo])
  | 43 => v = .string key
  | 44 => v = .bool b
  | 45 => v = .bool b
  | 46 => v = .bool true
  | 47 => v = .bool true
  | 48 => v = .bool true
  | 49 => v = .bool true
  | 50 => v = .bool true
  | 4 => v = .bool true
  | _ => True

theorem all_take (l : List Rng) (k : Nat) (key : ByteArray) (h : k < l.length) : (l.take (k + 1)).all (inB · key) = ((l.take k).all (inB · key) && inB l[k] key) := by
  rw [List.take_succ_eq_append_getElem h, List.all_append]; simp

set_option maxHeartbeats 2000000 in
set_option maxRecDepth 100000 in
theorem meets_walk (A : Option Addr) (c : Nat) (l : List Rng) (key : ByteArray) (w : World) (hA : Rngs w w.heap.size A l) (hn : l.length ≤ maxLen) (hz : ∀ r ∈ l, r.lo.size ≤ maxLen ∧ r.hi.size ≤ maxLen) (hkm : key.size ≤ maxLen) :
    Calls Try.prog 3 #[.slice A l.length c, .string key] w fun e w' => e = .returned (.bool true) ∧ Below w.heap.size w w' := by
  unfold maxLen at hn hkm
  generalize hl : l.length = n at *
  have HL := Lib.hid hl
  have HA := Lib.hid hA
  have HZ := Lib.hid hz
  clear hl hA hz
  by_cases h1 : 20 < n
  · go_enter Try.func3, Try.ntmps3
    go_wp2_with fail
    refine (awake_true _).mono ?_
    rintro e w1 ⟨rfl, hb1⟩
    go_wp2
    go_ret
    exact ⟨rfl, hb1⟩
  by_cases h2 : 300 < key.size
  · go_enter Try.func3, Try.ntmps3
    go_wp2_with fail
    refine (awake_true _).mono ?_
    rintro e w1 ⟨rfl, hb1⟩
    go_wp2
    go_ret
    exact ⟨rfl, hb1⟩
  go_enter Try.func3, Try.ntmps3
  go_wp2
  go_loopw [5, 20] (fun v i wr => ∃ (k : Nat), i = .int .i64 k ∧ k ≤ n ∧ v = .bool ((l.take k).all (inB · key)) ∧ Below w.heap.size w wr) (fun _ i _ => (n - intOf i).toNat)
  case atStart => exact ⟨0, rfl, by omega, rfl, Below.refl _ _⟩
  case round =>
    obtain ⟨k, rfl, hk, rfl, hbr⟩ := hrel
    by_cases hlt : k < n
    · obtain ⟨ad, rfl, hab, hca⟩ := (HA.out.below hbr).seeR (by rw [HL.out]; omega)
      obtain ⟨c1, c2, c3⟩ := hca k (by rw [HL.out]; omega)
      obtain ⟨z1, z2⟩ := HZ.out _ (List.getElem_mem (by rw [HL.out]; omega : k < l.length))
      have HT := Lib.hid (all_take l k key (by rw [HL.out]; omega))
      obtain ⟨x, hx⟩ : ∃ x, x = l[k]'(by rw [HL.out]; omega) := ⟨_, rfl⟩
      rw [← hx] at c1 c2 c3 z1 z2 HT
      have Z := Lib.hid (And.intro z1 z2)
      have hlt3 : (ad.add (k * 3)).block < w.heap.size := by rw [block_of_add]; exact hab
      clear hx hca z1 z2
      obtain ⟨xl, xh, xo⟩ := x
      simp only at c1 c2 c3
      generalize (l.take k).all (inB · key) = b at *
      go_wp2_with fail
      refine (small_any xl xh xo _ Z.out.1 Z.out.2).mono ?_
      rintro e w1 ⟨rfl, hb1⟩
      have hbr1 : Below w.heap.size w w1 := (hbr.alloc hbr.size _).trans (hb1.mono (by have := hbr.size; simp; omega))
      have HR := Lib.hid (show RBlk w1 wr.heap.size ⟨xl, xh, xo⟩ from cells_of (Box.fresh wr _ _) hb1)
      obtain ⟨y1, y2, y3⟩ := RBlk.cells HR.out
      simp only at y1 y2 y3
      clear hb1 c1 c2 c3
      generalize smallB ⟨xl, xh, xo⟩ = s
      cases s with
      | false =>
        go_wp2_with fail
        refine (awake_true _).mono ?_
        rintro e w2 ⟨rfl, hb2⟩
        go_wp2
        go_ret
        exact ⟨rfl, hbr1.trans (hb2.mono hbr1.size)⟩
      | true =>
        cases b with
        | false =>
          go_wp2
          go_roundw
          case rel => exact ⟨k + 1, by go_num, by omega, by rw [HT.out]; rfl, hbr1⟩
          case measure => simp [intOf]; omega
        | true =>
          go_wp2_with fail
          refine (rin_any xl xh key xo _).mono ?_
          rintro e w2 ⟨rfl, hb2⟩
          rw [Bool.true_and] at HT
          generalize inB ⟨xl, xh, xo⟩ key = b2 at *
          go_wp2
          go_roundw
          case rel => exact ⟨k + 1, by go_num, by omega, by rw [HT.out], hbr1.trans (hb2.mono hbr1.size)⟩
          case measure => simp [intOf]; omega
    · have hkn : k = n := by omega
      subst hkn
      have hin := in_meetL l key
      rw [List.take_of_length_le (by rw [HL.out]; omega)]
      rw [← hin]
      have hA2 := (HA.out.below hbr).more hbr.size
      have h0 := meet_any A c l wr hA2 (by rw [HL.out]; unfold maxLen; omega)
      have HM0 : ∀ w', Below wr.heap.size wr w' → Calls Try.prog 12 #[.slice A k c] w' fun e w'' => e = .returned (meetL l).v ∧ Below w'.heap.size w' w'' := fun w' hb' => by
        have h := rmeet_any A c l w' ((hA2.below hb').more hb'.size) (by rw [HL.out]; unfold maxLen; omega)
        rw [HL.out] at h
        exact h
      rw [HL.out] at h0
      have HI0 : ∀ w' : World, Calls Try.prog 13 #[(meetL l).v, .string key] w' fun e w'' => e = .returned (.bool (inB (meetL l) key)) ∧ Below w'.heap.size w' w'' := fun w' => in_any _ _ key _ w'
      generalize inB (meetL l) key = b at *
      generalize meetL l = m at *
      obtain ⟨ml, mh, mo⟩ := m
      unfold Rng.v at h0 HM0 HI0
      have H0 := Lib.hid h0
      have HM := Lib.hid HM0
      have HI := Lib.hid HI0
      clear h0 HM0 HI0 hin hA2 hlt hk
      go_wp2_with fail
      refine H0.out.mono ?_
      rintro e w1 ⟨rfl, hb1⟩
      have hbr1 : Below w.heap.size w w1 := hbr.trans (hb1.mono hbr.size)
      have HB1 := Lib.hid hb1
      clear hb1
      go_wp2
      have HC := Lib.hid (show ∀ w', Below (w1.alloc (rcells ml mh mo)).heap.size (w1.alloc (rcells ml mh mo)) w' → w'.cell? ⟨w1.heap.size, 0, none⟩ = some (.string ml) ∧ w'.cell? ⟨w1.heap.size, 1, none⟩ = some (.string mh) ∧ w'.cell? ⟨w1.heap.size, 2, none⟩ = some (.bool mo) from fun w' h => RBlk.cells (r := ⟨ml, mh, mo⟩) (cells_of (Box.fresh w1 _ _) h))
      have HRM := Lib.hid (show ∀ w', Below (w1.alloc (rcells ml mh mo)).heap.size (w1.alloc (rcells ml mh mo)) w' → Calls Try.prog 12 #[.slice A k c] w' fun e w'' => e = .returned (.agg #[.string ml, .string mh, .bool mo]) ∧ Below w'.heap.size w' w'' from fun w' h => HM.out w' ((HB1.out.alloc HB1.out.size _).trans (h.mono (by have := HB1.out.size; simp; omega))))
      have HIN := Lib.hid (show ∀ w', Below (w1.alloc (rcells ml mh mo)).heap.size (w1.alloc (rcells ml mh mo)) w' → Calls Try.prog 13 #[.agg #[.string ml, .string mh, .bool mo], .string key] w' fun e w'' => e = .returned (.bool b) ∧ Below w'.heap.size w' w'' from fun w' _ => HI.out w')
      refine wp_region_inv [37, 38, 39, 40, 41, 42, 43, 44, 45, 46, 47, 48, 49, 50, 4] (by kernel_rfl) (by kernel_rfl) (fun w' => Below (w1.alloc (rcells ml mh mo)).heap.size (w1.alloc (rcells ml mh mo)) w') (fun w1 w2 => Below w1.heap.size w1 w2) (MeetsV A k c ml mh key mo b) (by kernel_rfl) (fun w1 w2 h1 h2 => h2.trans (h1.mono h2.size)) (fun t v w1 w2 h1 h2 => h2) (Below.refl _ _).drew (steps_of ?_) ?_
      · refine Steps1.cons (fun ax wx hS hG => ?_) (Steps1.cons (fun ax wx hS hG => ?_) (Steps1.cons (fun ax wx hS hG => ?_) (Steps1.cons (fun ax wx hS hG => ?_) (Steps1.cons (fun ax wx hS hG => ?_) (Steps1.cons (fun ax wx hS hG => ?_) (Steps1.cons (fun ax wx hS hG => ?_) (Steps1.cons (fun ax wx hS hG => ?_) (Steps1.cons (fun ax wx hS hG => ?_) (Steps1.cons (fun ax wx hS hG => ?_) (Steps1.cons (fun ax wx hS hG => ?_) (Steps1.cons (fun ax wx hS hG => ?_) (Steps1.cons (fun ax wx hS hG => ?_) (Steps1.cons (fun ax wx hS hG => ?_) (Steps1.cons (fun ax wx hS hG => ?_) Steps1.nil))))))))))))))
        · have q8 := hG.old 8 (by kernel_rfl) (by kernel_rfl)
          obtain ⟨z0, z1, z2⟩ := HC.out wx hS
          refine step_value (v := (.agg #[.string ml, .string mh, .bool mo])) (w' := wx) rfl rfl ?_ (Below.refl _ _) (fun d hd => by cases hd; exact rfl)
          go_simp
        · have q0 := hG.old 0 (by kernel_rfl) (by kernel_rfl)
          refine step_value (v := .slice A k c) (w' := wx) rfl rfl ?_ (Below.refl _ _) (fun d hd => by cases hd; exact rfl)
          go_simp
        · obtain ⟨_, q38, rfl⟩ := hG.new 38 (by kernel_rfl) (by kernel_rfl)
          refine step_call (w1 := wx) (f := 12) (args := #[.slice A k c]) rfl rfl ?_ ((HRM.out wx hS).mono ?_)
          · go_simp
          · rintro e w' ⟨rfl, hq⟩
            exact ⟨_, rfl, hq, fun d hd => by cases hd; exact rfl⟩
        · obtain ⟨_, q37, rfl⟩ := hG.new 37 (by kernel_rfl) (by kernel_rfl)
          obtain ⟨_, q39, rfl⟩ := hG.new 39 (by kernel_rfl) (by kernel_rfl)
          refine step_value (v := .bool true) (w' := wx) rfl rfl ?_ (Below.refl _ _) (fun d hd => by cases hd; exact rfl)
          go_simp
        · obtain ⟨_, q40, rfl⟩ := hG.new 40 (by kernel_rfl) (by kernel_rfl)
          refine step_value (v := .bool true) (w' := wx) rfl rfl ?_ (Below.refl _ _) (fun d hd => by cases hd; exact rfl)
          go_simp
        · have q8 := hG.old 8 (by kernel_rfl) (by kernel_rfl)
          obtain ⟨_, q41, rfl⟩ := hG.new 41 (by kernel_rfl) (by kernel_rfl)
          obtain ⟨z0, z1, z2⟩ := HC.out wx hS
          refine step_value (v := (.agg #[.string ml, .string mh, .bool mo])) (w' := wx) rfl (by simp [Region.wanted, yielded, q41]) ?_ (Below.refl _ _) (fun d hd => by cases hd; exact rfl)
          go_simp
        · have q1 := hG.old 1 (by kernel_rfl) (by kernel_rfl)
          obtain ⟨_, q41, rfl⟩ := hG.new 41 (by kernel_rfl) (by kernel_rfl)
          refine step_value (v := .string key) (w' := wx) rfl (by simp [Region.wanted, yielded, q41]) ?_ (Below.refl _ _) (fun d hd => by cases hd; exact rfl)
          go_simp
        · obtain ⟨_, q42, rfl⟩ := hG.new 42 (by kernel_rfl) (by kernel_rfl)
          obtain ⟨_, q43, rfl⟩ := hG.new 43 (by kernel_rfl) (by kernel_rfl)
          obtain ⟨_, q41, rfl⟩ := hG.new 41 (by kernel_rfl) (by kernel_rfl)
          refine step_call (w1 := wx) (f := 13) (args := #[.agg #[.string ml, .string mh, .bool mo], .string key]) rfl (by simp [Region.wanted, yielded, q41]) ?_ ((HIN.out wx hS).mono ?_)
          · go_simp
          · rintro e w' ⟨rfl, hq⟩
            exact ⟨_, rfl, hq, fun d hd => by cases hd; exact rfl⟩
        · have q5 := hG.old 5 (by kernel_rfl) (by kernel_rfl)
          obtain ⟨_, q41, rfl⟩ := hG.new 41 (by kernel_rfl) (by kernel_rfl)
          refine step_value (v := .bool b) (w' := wx) rfl (by simp [Region.wanted, yielded, q41]) ?_ (Below.refl _ _) (fun d hd => by cases hd; exact rfl)
          go_simp
        · obtain ⟨_, q44, rfl⟩ := hG.new 44 (by kernel_rfl) (by kernel_rfl)
          obtain ⟨_, q45, rfl⟩ := hG.new 45 (by kernel_rfl) (by kernel_rfl)
          obtain ⟨_, q41, rfl⟩ := hG.new 41 (by kernel_rfl) (by kernel_rfl)
          refine step_value (v := .bool true) (w' := wx) rfl (by simp [Region.wanted, yielded, q41]) ?_ (Below.refl _ _) (fun d hd => by cases hd; exact rfl)
          go_simp
        · obtain ⟨_, q41, rfl⟩ := hG.new 41 (by kernel_rfl) (by kernel_rfl)
          obtain ⟨_, q46, rfl⟩ := hG.new 46 (by kernel_rfl) (by kernel_rfl)
          refine step_value (v := .bool true) (w' := wx) rfl rfl ?_ (Below.refl _ _) (fun d hd => by cases hd; exact rfl)
          go_simp
        · obtain ⟨_, q47, rfl⟩ := hG.new 47 (by kernel_rfl) (by kernel_rfl)
          refine step_value (v := .bool true) (w' := wx) rfl rfl ?_ (Below.refl _ _) (fun d hd => by cases hd; exact rfl)
          go_simp
        · obtain ⟨_, q48, rfl⟩ := hG.new 48 (by kernel_rfl) (by kernel_rfl)
          refine step_call (w1 := wx) (f := 8) (args := #[]) rfl (by simp [Region.wanted, yielded, q48]) ?_ ((awake_true wx).mono ?_)
          · go_simp
          · rintro e w' ⟨rfl, hq⟩
            exact ⟨_, rfl, hq, fun d hd => by cases hd; exact rfl⟩
        · obtain ⟨_, q48, rfl⟩ := hG.new 48 (by kernel_rfl) (by kernel_rfl)
          obtain ⟨_, q49, rfl⟩ := hG.new 49 (by kernel_rfl) (by kernel_rfl)
          refine step_value (v := .bool true) (w' := wx) rfl rfl ?_ (Below.refl _ _) (fun d hd => by cases hd; exact rfl)
          go_simp
        · obtain ⟨_, q50, rfl⟩ := hG.new 50 (by kernel_rfl) (by kernel_rfl)
          refine step_value (v := .bool true) (w' := wx) rfl rfl ?_ (Below.refl _ _) (fun d hd => by cases hd; exact rfl)
          go_simp
      · intro f w' hS hV
        have h4 : f 4 = .bool true := hV 4 (by decide)
        simp only [puts, Act.put, List.setIfInBounds_toArray, List.set_cons_succ, List.set_cons_zero]
        go_wp2
        go_ret
        rw [h4]
        exact ⟨rfl, (hbr1.alloc hbr1.size _).trans (hS.mono (by have := hbr1.size; simp; omega))⟩

end Go.Proofs.Ytmbcmacegncnmaa
