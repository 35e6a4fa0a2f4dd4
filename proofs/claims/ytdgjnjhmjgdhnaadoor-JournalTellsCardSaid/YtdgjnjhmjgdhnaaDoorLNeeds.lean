/- The walk of the law JournalNeeds. -/
import Derived.Test.YtdgjnjhmjgdhnaaDoorLOnce
import Derived.Test.YtdgjnjhmjgdhnaaDoorInv
namespace Go.Proofs.YtdgjnjhmjgdhnaaDoor
open Go.RowKit

def NeedsV (D : Value) (f : Int) (t : Nat) (v : Value) (w : World) : Prop :=
  match t with
  | 61 => v = .int .i64 6
  | 62 => v = .bool true
  | 63 => v = .bool true
  | 64 => v = .int .i64 f
  | 65 => v = .int .i64 f
  | 66 => v = .bool true
  | 67 => v = .bool true
  | 68 => v = .bool true
  | 69 => v = D
  | 70 => DV w v S0 []
  | 71 => v = D
  | 72 => DV w v S0 []
  | 73 => v = .bool true
  | 74 => v = .bool true
  | 75 => v = .bool true
  | 76 => v = .bool true
  | 77 => v = .bool true
  | 6 => v = .bool true
  | _ => True
theorem NeedsV.on {D : Value} {f : Int} {t : Nat} {v : Value} {w w' : World} (h : NeedsV D f t v w) (hb : Below w.heap.size w w') : NeedsV D f t v w' := by
  unfold NeedsV at *
  split at h <;> first | exact h | exact DV.on h hb

/-- A text that the walk of a bound met: none is longer. -/
theorem sizes_snoc {l : List ByteArray} {k b : Nat} (hk : k < l.length) (h : ∀ x ∈ l.take k, x.size ≤ b) (hx : l[k].size ≤ b) : ∀ x ∈ l.take (k + 1), x.size ≤ b := by
  rw [List.take_succ_eq_append_getElem hk]
  intro x hm
  rcases List.mem_append.1 hm with hm | hm
  · exact h x hm
  · rw [List.mem_singleton.1 hm]
    exact hx

set_option maxHeartbeats 8000000 in
set_option maxRecDepth 100000 in
theorem needs_walk (n0 n1 : Nat) (A : Option Addr) (c : Nat) (l : List ByteArray) (w : World) (h0 : n0 < 4294967296) (h1 : n1 < 256) (hv : AV w A c l) :
    Calls Tryd.prog 8 #[.int .u32 n0, .int .u8 n1, .slice A l.length c] w fun e w' => e = .returned (.bool true) ∧ Below w.heap.size w w' := by
  have hlen := hv.len
  obtain ⟨hA, hc, hc2, hs, hn0⟩ := hv
  unfold maxLen at hc2 hlen
  have HA := Lib.hid hA
  have HS := Lib.hid hs
  have HSV := Lib.hid (fun (wx : World) (hb : Below w.heap.size w wx) => show SV wx (.slice A l.length c) l from ⟨A, c, rfl, (hA.below hb).more hb.size⟩)
  have HTK := Lib.hid (fun k x (h : l[k]? = some x) => show needs (l.take (k + 1)) = needs (l.take k) + needJ x.size by
    obtain ⟨h1, rfl⟩ := List.getElem?_eq_some_iff.1 h
    exact needs_take l k h1)
  have HSN := Lib.hid (fun k x (h : l[k]? = some x) (h2 : ∀ x ∈ l.take k, x.size ≤ 300) (h3 : x.size ≤ 300) => show ∀ x ∈ l.take (k + 1), x.size ≤ 300 by
    obtain ⟨h1, rfl⟩ := List.getElem?_eq_some_iff.1 h
    exact sizes_snoc h1 h2 h3)
  generalize hl : l.length = n at *
  have HL := Lib.hid hl
  clear hA hs hl hlen
  by_cases h20 : n ≤ 20
  · have hd : decide ((20 : Int) < n) = false := decide_eq_false (by omega)
    have hd2 : decide (20 < n) = false := decide_eq_false (by omega)
    obtain ⟨p, hp⟩ : ∃ p : Nat, p = n0 % 2147483646 := ⟨_, rfl⟩
    obtain ⟨f, hf⟩ : ∃ f : Nat, f = n1 % 129 := ⟨_, rfl⟩
    have hp1 : p ≤ 2147483645 := by omega
    have hf1 : f ≤ 128 := by omega
    have e1 : (n0 : Int) % 2147483646 = p := by omega
    have e2 : (n1 : Int) % 129 = f := by omega
    have hw1 : IntKind.i64.wrap ((1 : Int) + p) = ((1 + p : Nat) : Int) := by rw [IntWalk.i64_in _ (by omega)]; omega
    clear hp hf
    go_enter Tryd.func8, Tryd.ntmps8
    go_wp2_with fail
    refine (aw_new w).mono ?_
    rintro e w1 ⟨v1, rfl, ⟨A1, c1, B1, d1, rfl, hA1, hB1⟩, hb1⟩
    have hv1 : DV w1 _ S0 [] := ⟨A1, c1, B1, d1, rfl, hA1, hB1⟩
    rw [S0_len, show ([] : List Wr).length = 0 from rfl] at hv1 ⊢
    have H1 := Lib.hid (Holds.fresh hv1 hb1)
    clear hv1 hb1 hA1 hB1
    go_wp2
    generalize hw2 : w1.alloc (.cells #[.slice A1 130 c1, .slice B1 0 d1] 36) = w2 at *
    clear hw2
    go_loopw [11, 34] (fun t i wr => ∃ k z : Nat, i = .int .i64 k ∧ t = .int .i64 z ∧ k ≤ n ∧ z = needs (l.take k) ∧ z ≤ 13 * k ∧ (∀ x ∈ l.take k, x.size ≤ 300) ∧ wr = w2) (fun _ i _ => (n - intOf i).toNat)
    case atStart => exact ⟨0, 0, rfl, rfl, by omega, rfl, by omega, by simp, rfl⟩
    case round =>
      obtain ⟨k, z, rfl, rfl, hk, hz, hz13, hall, rfl⟩ := hrel
      have HZ := Lib.hid hz
      have HALL := Lib.hid hall
      clear hz hall
      by_cases hlt : k < n
      · obtain ⟨a1, rfl, hab, hca⟩ := (HA.out.below H1.out.below) (by rw [HL.out]; omega)
        have c1' := hca k (by rw [HL.out]; omega)
        have hm := HS.out _ (List.getElem_mem (by rw [HL.out]; omega : k < l.length))
        have hgx := List.getElem?_eq_getElem (l := l) (i := k) (by rw [HL.out]; omega)
        generalize l[k]'(by rw [HL.out]; omega) = x at *
        unfold maxLen at hm
        clear hca
        by_cases hx : x.size ≤ 300
        · have hd3 : decide ((300 : Int) < x.size) = false := decide_eq_false (by omega)
          have hd4 : decide (300 < x.size) = false := decide_eq_false (by omega)
          have htk := HTK.out k x hgx
          rw [← HZ.out] at htk
          have HTK1 := Lib.hid htk
          have HSN1 := Lib.hid (HSN.out k x hgx HALL.out hx)
          have hnd := fun wx => needj_in x.size wx (by omega)
          have h13 := needJ_300 hx
          generalize needJ x.size = y at *
          have HND := Lib.hid hnd
          have hww : IntKind.i64.wrap ((z : Int) + y) = ((z + y : Nat) : Int) := by rw [IntWalk.i64_in _ (by omega)]; omega
          clear htk hnd hgx
          go_wp2_with fail
          refine (HND.out _).mono ?_
          rintro e w9 ⟨rfl, rfl⟩
          go_wp2
          go_roundw
          case rel => exact ⟨k + 1, z + y, by go_num, by go_num, by omega, HTK1.out.symm, by omega, HSN1.out, by trivial⟩
          case measure => simp [intOf]; omega
        · have hd3 : decide ((300 : Int) < x.size) = true := decide_eq_true (by omega)
          have hd4 : decide (300 < x.size) = true := decide_eq_true (by omega)
          go_wp2_with fail
          refine (awake_true _).mono ?_
          rintro e w9 ⟨rfl, hb9⟩
          go_wp2
          go_ret
          exact ⟨rfl, H1.out.below.trans (hb9.mono H1.out.below.size)⟩
      · obtain rfl : k = n := by omega
        have e3 : l.take k = l := by rw [← HL.out]; exact List.take_length
        have hzz := HZ.out
        have hall := HALL.out
        rw [e3] at hzz hall
        have HALL2 := Lib.hid (show ∀ x ∈ l, x.size ≤ 1000 from fun x hx => Nat.le_trans (hall x hx) (by decide))
        have HZ2 := Lib.hid hzz
        clear hzz hall e3
        obtain ⟨k0, k1⟩ := DBlk.cells H1.out.blk
        have hz := Box.lt H1.out.blk
        have hchg := gp_of (p := 1 + p) (q := f) (by omega) (by omega) hf1
        have hww : IntKind.i64.wrap ((f : Int) + z) = ((f + z : Nat) : Int) := by rw [IntWalk.i64_in _ (by omega)]; omega
        by_cases hfit : f + z ≤ 128
        · have hE : chE ((1 + p : Nat) : Int) (f : Int) l = 0 := by
            unfold chE
            rw [hchg, if_pos rfl, if_pos (by have := HZ2.out; omega)]
          have hap := append_ok ((1 + p : Nat) : Int) f l H1.out.dv (HSV.out _ H1.out.below) (by rw [HL.out]; omega) HALL2.out (by decide) aw_j0 hE
          rw [← HZ2.out, Int.toNat_natCast, Int.toNat_natCast] at hap
          obtain ⟨W3, hW3⟩ : ∃ W3, W3 = [] ++ putL (2 + (f : Int)) (chainL (1 + p) f l) := ⟨_, rfl⟩
          have HW3 := Lib.hid (show W3.length = z by rw [hW3, List.nil_append, put_len, chain_len, ← HZ2.out])
          rw [← hW3] at hap
          have hd6 : decide ((128 : Int) < f + z) = false := decide_eq_false (by omega)
          have hd7 : decide (128 < f + z) = false := decide_eq_false (by omega)
          clear hW3 hE hchg
          go_wp2_with fail
          refine hap.mono ?_
          clear hap k0 k1 hz
          rintro e w3 ⟨v3, rfl, ⟨A3, c3, B3, d3, rfl, hA3, hB3⟩, hb3⟩
          rw [S0_len, HW3.out]
          have HB3 := Lib.hid ((H1.out.below.trans (hb3.mono H1.out.below.size)).alloc (H1.out.below.trans (hb3.mono H1.out.below.size)).size (.cells #[.slice A3 130 c3, .slice B3 z d3] 36))
          have hee : (((f : Int) + z) == ((f : Int) + z)) = true := by simp
          clear hA3 hB3 hb3
          go_wp2_with fail
          refine (awake_true _).mono ?_
          rintro e w9 ⟨rfl, hb9⟩
          go_wp2
          go_ret
          exact ⟨rfl, HB3.out.trans (hb9.mono HB3.out.size)⟩
        · have hE : chE ((1 + p : Nat) : Int) (f : Int) l = 6 := by
            unfold chE
            rw [hchg, if_pos rfl, if_neg (by have := HZ2.out; omega)]
          have hap := append_bad ((1 + p : Nat) : Int) f l H1.out.dv (HSV.out _ H1.out.below) (by rw [HL.out]; omega) HALL2.out (by decide) aw_j0 (by rw [hE]; decide)
          rw [hE] at hap
          have hd6 : decide ((128 : Int) < f + z) = true := decide_eq_true (by omega)
          have hd7 : decide (128 < f + z) = true := decide_eq_true (by omega)
          clear hE hchg
          go_wp2_with fail
          refine hap.mono ?_
          clear hap k0 k1 hz
          rintro e w3 ⟨rfl, hb3⟩
          have H2 := Lib.hid (H1.out.on hb3)
          have H3 := Lib.hid (H2.out.on ((Below.refl _ _).alloc (Nat.le_refl _) (.cells #[.slice A1 130 c1, .slice B1 0 d1] 36)))
          have HE3 := Lib.hid (show DBlk (w3.alloc (.cells #[.slice A1 130 c1, .slice B1 0 d1] 36)) w3.heap.size A1 130 c1 B1 0 d1 from Box.fresh _ _ _)
          clear hb3 H2
          go_wp2
          generalize hw4 : w3.alloc (.cells #[.slice A1 130 c1, .slice B1 0 d1] 36) = w4 at *
          clear hw4
          have HC9 := Lib.hid (fun (wx : World) (h : Below w4.heap.size w4 wx) => DBlk.cells (Box.on H3.out.blk h))
          have HC14 := Lib.hid (fun (wx : World) (h : Below w4.heap.size w4 wx) => DBlk.cells (show DBlk wx w3.heap.size A1 130 c1 B1 0 d1 from Box.on HE3.out h))
          have HREF := Lib.hid (fun (wx : World) (h : Below w4.heap.size w4 wx) => ref_dv (H3.out.dv.on h) (by decide))
          refine wp_region_inv [61, 62, 63, 64, 65, 66, 67, 68, 69, 70, 71, 72, 73, 74, 75, 76, 77, 6] (by kernel_rfl) (by kernel_rfl) (fun w' => Below w4.heap.size w4 w') (fun wa wb => Below wa.heap.size wa wb) (NeedsV (.agg #[.slice A1 130 c1, .slice B1 0 d1]) f) (by kernel_rfl) (fun wa wb h1 h2 => h2.trans (h1.mono h2.size)) (fun t v wa wb h1 h2 => h2.on h1) (Below.refl _ _).drew (steps_of ?_) ?_
          · skip
            refine Steps1.cons (fun ax wx hS hG => ?_) (Steps1.cons (fun ax wx hS hG => ?_) (Steps1.cons (fun ax wx hS hG => ?_) (Steps1.cons (fun ax wx hS hG => ?_) (Steps1.cons (fun ax wx hS hG => ?_) (Steps1.cons (fun ax wx hS hG => ?_) (Steps1.cons (fun ax wx hS hG => ?_) (Steps1.cons (fun ax wx hS hG => ?_) (Steps1.cons (fun ax wx hS hG => ?_) (Steps1.cons (fun ax wx hS hG => ?_) (Steps1.cons (fun ax wx hS hG => ?_) (Steps1.cons (fun ax wx hS hG => ?_) (Steps1.cons (fun ax wx hS hG => ?_) (Steps1.cons (fun ax wx hS hG => ?_) (Steps1.cons (fun ax wx hS hG => ?_) (Steps1.cons (fun ax wx hS hG => ?_) (Steps1.cons (fun ax wx hS hG => ?_) (Steps1.cons (fun ax wx hS hG => ?_) Steps1.nil)))))))))))))))))
            · have q16 := hG.old 16 (by kernel_rfl) (by kernel_rfl)
              refine step_value (v := .int .i64 6) (w' := wx) rfl rfl ?_ (Below.refl _ _) (fun d hd => by cases hd; exact rfl)
              go_simp
            · obtain ⟨_, q61, rfl⟩ := hG.new 61 (by kernel_rfl) (by kernel_rfl)
              refine step_value (v := .bool true) (w' := wx) rfl rfl ?_ (Below.refl _ _) (fun d hd => by cases hd; exact rfl)
              go_simp
            · obtain ⟨_, q62, rfl⟩ := hG.new 62 (by kernel_rfl) (by kernel_rfl)
              refine step_value (v := .bool true) (w' := wx) rfl rfl ?_ (Below.refl _ _) (fun d hd => by cases hd; exact rfl)
              go_simp
            · have q15 := hG.old 15 (by kernel_rfl) (by kernel_rfl)
              obtain ⟨_, q63, rfl⟩ := hG.new 63 (by kernel_rfl) (by kernel_rfl)
              refine step_value (v := .int .i64 f) (w' := wx) rfl (by simp [Region.wanted, yielded, q63]) ?_ (Below.refl _ _) (fun d hd => by cases hd; exact rfl)
              go_simp
            · have q8 := hG.old 8 (by kernel_rfl) (by kernel_rfl)
              obtain ⟨_, q63, rfl⟩ := hG.new 63 (by kernel_rfl) (by kernel_rfl)
              refine step_value (v := .int .i64 f) (w' := wx) rfl (by simp [Region.wanted, yielded, q63]) ?_ (Below.refl _ _) (fun d hd => by cases hd; exact rfl)
              go_simp
            · obtain ⟨_, q64, rfl⟩ := hG.new 64 (by kernel_rfl) (by kernel_rfl)
              obtain ⟨_, q65, rfl⟩ := hG.new 65 (by kernel_rfl) (by kernel_rfl)
              obtain ⟨_, q63, rfl⟩ := hG.new 63 (by kernel_rfl) (by kernel_rfl)
              refine step_value (v := .bool true) (w' := wx) rfl (by simp [Region.wanted, yielded, q63]) ?_ (Below.refl _ _) (fun d hd => by cases hd; exact rfl)
              go_simp
            · obtain ⟨_, q63, rfl⟩ := hG.new 63 (by kernel_rfl) (by kernel_rfl)
              obtain ⟨_, q66, rfl⟩ := hG.new 66 (by kernel_rfl) (by kernel_rfl)
              refine step_value (v := .bool true) (w' := wx) rfl rfl ?_ (Below.refl _ _) (fun d hd => by cases hd; exact rfl)
              go_simp
            · obtain ⟨_, q67, rfl⟩ := hG.new 67 (by kernel_rfl) (by kernel_rfl)
              refine step_value (v := .bool true) (w' := wx) rfl rfl ?_ (Below.refl _ _) (fun d hd => by cases hd; exact rfl)
              go_simp
            · have q14 := hG.old 14 (by kernel_rfl) (by kernel_rfl)
              obtain ⟨_, q68, rfl⟩ := hG.new 68 (by kernel_rfl) (by kernel_rfl)
              obtain ⟨z0, z1⟩ := HC14.out wx hS
              refine step_value (v := .agg #[.slice A1 130 c1, .slice B1 0 d1]) (w' := wx) rfl (by simp [Region.wanted, yielded, q68]) ?_ (Below.refl _ _) (fun d hd => by cases hd; exact rfl)
              go_simp
            · obtain ⟨_, q69, rfl⟩ := hG.new 69 (by kernel_rfl) (by kernel_rfl)
              obtain ⟨_, q68, rfl⟩ := hG.new 68 (by kernel_rfl) (by kernel_rfl)
              refine step_call (w1 := wx) (f := 18) (args := #[.agg #[.slice A1 130 c1, .slice B1 0 d1]]) rfl (by simp [Region.wanted, yielded, q68]) ?_ ((HREF.out wx hS).mono ?_)
              · skip
                go_simp
              · rintro e w' ⟨v', rfl, hv, hq⟩
                exact ⟨_, rfl, hq, fun d hd => by cases hd; exact hv⟩
            · have q9 := hG.old 9 (by kernel_rfl) (by kernel_rfl)
              obtain ⟨_, q68, rfl⟩ := hG.new 68 (by kernel_rfl) (by kernel_rfl)
              obtain ⟨z0, z1⟩ := HC9.out wx hS
              refine step_value (v := .agg #[.slice A1 130 c1, .slice B1 0 d1]) (w' := wx) rfl (by simp [Region.wanted, yielded, q68]) ?_ (Below.refl _ _) (fun d hd => by cases hd; exact rfl)
              go_simp
            · obtain ⟨_, q71, rfl⟩ := hG.new 71 (by kernel_rfl) (by kernel_rfl)
              obtain ⟨_, q68, rfl⟩ := hG.new 68 (by kernel_rfl) (by kernel_rfl)
              refine step_call (w1 := wx) (f := 18) (args := #[.agg #[.slice A1 130 c1, .slice B1 0 d1]]) rfl (by simp [Region.wanted, yielded, q68]) ?_ ((HREF.out wx hS).mono ?_)
              · skip
                go_simp
              · rintro e w' ⟨v', rfl, hv, hq⟩
                exact ⟨_, rfl, hq, fun d hd => by cases hd; exact hv⟩
            · obtain ⟨v70, q70, h70⟩ := hG.new 70 (by kernel_rfl) (by kernel_rfl)
              have p70 : DV wx v70 S0 [] := h70
              obtain ⟨v72, q72, h72⟩ := hG.new 72 (by kernel_rfl) (by kernel_rfl)
              have p72 : DV wx v72 S0 [] := h72
              obtain ⟨_, q68, rfl⟩ := hG.new 68 (by kernel_rfl) (by kernel_rfl)
              refine step_call (w1 := wx) (f := 23) (args := #[v70, v72]) rfl (by simp [Region.wanted, yielded, q68]) ?_ ((same2_eq v70 v72 S0 [] wx p70 p72 (by rw [S0_len]; decide) (by decide)).mono ?_)
              · clear h70 p70 h72 p72
                go_simp
              · rintro e w' ⟨rfl, hq⟩
                exact ⟨_, rfl, hq, fun d hd => by cases hd; exact rfl⟩
            · obtain ⟨_, q68, rfl⟩ := hG.new 68 (by kernel_rfl) (by kernel_rfl)
              obtain ⟨_, q73, rfl⟩ := hG.new 73 (by kernel_rfl) (by kernel_rfl)
              refine step_value (v := .bool true) (w' := wx) rfl rfl ?_ (Below.refl _ _) (fun d hd => by cases hd; exact rfl)
              go_simp
            · obtain ⟨_, q74, rfl⟩ := hG.new 74 (by kernel_rfl) (by kernel_rfl)
              refine step_value (v := .bool true) (w' := wx) rfl rfl ?_ (Below.refl _ _) (fun d hd => by cases hd; exact rfl)
              go_simp
            · obtain ⟨_, q75, rfl⟩ := hG.new 75 (by kernel_rfl) (by kernel_rfl)
              refine step_call (w1 := wx) (f := 10) (args := #[]) rfl (by simp [Region.wanted, yielded, q75]) ?_ ((awake_true wx).mono ?_)
              · skip
                go_simp
              · rintro e w' ⟨rfl, hq⟩
                exact ⟨_, rfl, hq, fun d hd => by cases hd; exact rfl⟩
            · obtain ⟨_, q75, rfl⟩ := hG.new 75 (by kernel_rfl) (by kernel_rfl)
              obtain ⟨_, q76, rfl⟩ := hG.new 76 (by kernel_rfl) (by kernel_rfl)
              refine step_value (v := .bool true) (w' := wx) rfl rfl ?_ (Below.refl _ _) (fun d hd => by cases hd; exact rfl)
              go_simp
            · obtain ⟨_, q77, rfl⟩ := hG.new 77 (by kernel_rfl) (by kernel_rfl)
              refine step_value (v := .bool true) (w' := wx) rfl rfl ?_ (Below.refl _ _) (fun d hd => by cases hd; exact rfl)
              go_simp
          intro fv w5 hS5 hV5
          have e6 : fv 6 = .bool true := hV5 6 (by decide)
          simp only [puts, Act.put, List.setIfInBounds_toArray, List.set_cons_succ, List.set_cons_zero]
          clear hV5
          rw [e6]
          go_wp2
          go_ret
          exact ⟨rfl, H3.out.below.trans (hS5.mono H3.out.below.size)⟩
  · have hd : decide ((20 : Int) < n) = true := decide_eq_true (by omega)
    have hd2 : decide (20 < n) = true := decide_eq_true (by omega)
    go_enter Tryd.func8, Tryd.ntmps8
    go_wp2_with fail
    refine (awake_true _).mono ?_
    rintro e w1 ⟨rfl, hb1⟩
    go_wp2
    go_ret
    exact ⟨rfl, hb1⟩

end Go.Proofs.YtdgjnjhmjgdhnaaDoor
