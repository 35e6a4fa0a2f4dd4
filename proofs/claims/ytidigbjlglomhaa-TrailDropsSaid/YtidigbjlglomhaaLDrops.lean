/- The walk of TrailDrops: what is dropped does not matter to what comes behind. -/
import Derived.Test.YtidigbjlglomhaaLMeets
import Derived.Lib.MinMax
set_option linter.unusedVariables false
set_option linter.unusedSimpArgs false
namespace Go.Proofs.Ytidigbjlglomhaa
open Go.RowKit

theorem aw_in : inB ⟨noB, noB, true⟩ noB = true := by kernel_rfl
def DrV (A : Option Addr) (n c : Nat) (x y m : Int) (rl rh : ByteArray) (ro : Bool) (Ad : Option Addr) (nd cd : Nat) (X E : List Ch) (p t : Nat) (v : Value) (w : World) : Prop :=
  match t with
  | 32 => v = (.slice Ad nd cd)
  | 33 => v = (.int .i64 y)
  | 34 => v = (.int .i64 m)
  | 35 => v = (.agg #[.string rl, .string rh, .bool ro])
  | 36 => ∃ g, v = .slice (some ⟨g, 0, none⟩) 1 1 ∧ Box w g 35 #[.string rl, .string rh, .bool ro]
  | 37 => CV w v X
  | 38 => v = (.slice A n c)
  | 39 => v = (.int .i64 y)
  | 40 => v = (.int .i64 m)
  | 41 => v = (.agg #[.string rl, .string rh, .bool ro])
  | 42 => ∃ g, v = .slice (some ⟨g, 0, none⟩) 1 1 ∧ Box w g 35 #[.string rl, .string rh, .bool ro]
  | 43 => CV w v X
  | 44 => v = .bool true
  | 45 => v = .bool true
  | 46 => v = (.slice Ad nd cd)
  | 47 => v = (.int .i64 y)
  | 48 => CV w v E
  | 49 => v = (.slice A n c)
  | 50 => v = (.int .i64 y)
  | 51 => CV w v E
  | 52 => v = .bool true
  | 53 => v = .bool true
  | 54 => v = .bool true
  | 55 => v = (.slice A n c)
  | 56 => v = (.int .i64 y)
  | 57 => CV w v E
  | 58 => v = (.int .i64 x)
  | 59 => CV w v E
  | 60 => v = (.slice A n c)
  | 61 => v = (.int .i64 y)
  | 62 => CV w v E
  | 63 => v = .bool true
  | 64 => v = .bool true
  | 65 => v = .bool true
  | 66 => v = (.agg #[.string ⟨#[]⟩, .string ⟨#[]⟩, .bool true])
  | 67 => v = .bool true
  | 68 => v = .bool true
  | 69 => v = .bool true
  | 70 => v = .bool true
  | 71 => v = .bool true
  | 10 => v = .bool true
  | _ => True
theorem DrV.on {A : Option Addr} {n c : Nat} {x y m : Int} {rl rh : ByteArray} {ro : Bool} {Ad : Option Addr} {nd cd : Nat} {X E : List Ch} {p t : Nat} {v : Value} {w w' : World} (h : DrV A n c x y m rl rh ro Ad nd cd X E p t v w) (hb : Below w.heap.size w w') : DrV A n c x y m rl rh ro Ad nd cd X E p t v w' := by
  unfold DrV at *
  split at h <;> first | exact h | exact (let ⟨g, e1, h1⟩ := h; ⟨g, e1, h1.on hb⟩) | exact (CV.on h hb)


set_option maxRecDepth 100000 in
set_option maxHeartbeats 8000000 in
theorem drops_walk (v : Value) (l : List Ch) (a b m : Int) (rl rh : ByteArray) (ro : Bool) (w : World) (hv : CV w v l) (hn : l.length ≤ maxLen) :
    Calls Try.prog 6 #[v, .int .i64 a, .int .i64 b, .int .i64 m, .agg #[.string rl, .string rh, .bool ro]] w fun e w' => e = .returned (.bool true) ∧ Below w.heap.size w w' := by
  obtain ⟨A, n, c, rfl, hnl⟩ : ∃ A n c, v = .slice A n c ∧ l.length = n := by obtain ⟨A, c, e, _⟩ := hv; exact ⟨A, _, c, e, rfl⟩
  obtain ⟨ga, hga⟩ : ∃ g, g = w.heap.size := ⟨_, rfl⟩
  obtain ⟨w1, hw1⟩ : ∃ q, q = w.alloc (.cells #[.string rl, .string rh, .bool ro] 35) := ⟨_, rfl⟩
  have hb0 : Below w.heap.size w w1 := by rw [hw1]; exact (Below.refl _ _).alloc (Nat.le_refl _) _
  have BR1 := Lib.hid (show Box w1 ga 35 #[.string rl, .string rh, .bool ro] from by rw [hw1]; exact Box.at_ w _ _ hga)
  have HLN := Lib.hid hnl
  have HMX := Lib.hid hn
  have VL1 := Lib.hid (hv.on hb0)
  have HB1 := Lib.hid hb0
  clear hv hn hnl hb0
  go_enter Try.func6, Try.ntmps6
  go_upto_region 1 with fail
  rw [← hga, ← hw1]
  clear hga hw1
  go_wp2_with fail
  refine (few_v VL1.out).mono ?_
  rintro e w2 ⟨R1, rfl, h1, hb⟩
  have HB2 := Lib.hid (HB1.out.trans (hb.mono HB1.out.size))
  have VL2 := Lib.hid (VL1.out.on hb)
  have BR2 := Lib.hid (BR1.out.on hb)
  clear hb HB1 VL1 BR1 
  have H1 := Lib.hid h1
  clear h1
  cases R1 with
  | false =>
    go_wp2_with fail
    refine (awake_true _).mono ?_
    rintro e w3 ⟨rfl, hb⟩
    have HB3 := Lib.hid (HB2.out.trans (hb.mono HB2.out.size))
    clear hb HB2 
    go_wp2
    go_ret
    exact ⟨rfl, HB3.out⟩
  | true =>
    have HL := Lib.hid (H1.out (by simp)).1
    have HL2 := Lib.hid (show l.length ≤ 1000 from by have := HL.out; omega)
    clear H1
    obtain ⟨R, hR⟩ : ∃ R, trailB l = R := ⟨_, rfl⟩
    have hk := right_v VL2.out HMX.out
    rw [hR] at hk
    go_wp2_with fail
    refine (hk).mono ?_
    rintro e w4 ⟨rfl, hb⟩
    have HB4 := Lib.hid (HB2.out.trans (hb.mono HB2.out.size))
    have VL4 := Lib.hid (VL2.out.on hb)
    have BR4 := Lib.hid (BR2.out.on hb)
    clear hb HB2 VL2 BR2 hk
    cases R with
    | false =>
      go_wp2_with fail
      refine (awake_true _).mono ?_
      rintro e w5 ⟨rfl, hb⟩
      have HB5 := Lib.hid (HB4.out.trans (hb.mono HB4.out.size))
      clear hb HB4 
      go_wp2
      go_ret
      exact ⟨rfl, HB5.out⟩
    | true =>
      have HT := Lib.hid (trail_t.1 hR)
      clear hR
      go_upto_region 4 with fail
      obtain ⟨x, hx⟩ : ∃ x, x = min a b := ⟨_, rfl⟩
      obtain ⟨y, hy⟩ : ∃ y, y = max a b := ⟨_, rfl⟩
      have HXY := Lib.hid (show x ≤ y from by rw [hx, hy]; omega)
      rw [← hx, ← hy]
      clear hx hy
      go_wp2_with fail
      refine (drop_v x VL4.out (by have := HL.out; omega)).mono ?_
      rintro e w6 ⟨vd, rfl, hp, hb⟩
      have VD6 := Lib.hid hp
      clear hp
      have HB6 := Lib.hid (HB4.out.trans (hb.mono HB4.out.size))
      have VL6 := Lib.hid (VL4.out.on hb)
      have BR6 := Lib.hid (BR4.out.on hb)
      clear hb HB4 VL4 BR4 
      obtain ⟨Ad, nd, cd, rfl⟩ : ∃ A n c, vd = .slice A n c := by obtain ⟨A, c, e, _⟩ := VD6.out; exact ⟨A, _, c, e⟩
      obtain ⟨X, hX⟩ : ∃ X, sinceL l y m [⟨rl, rh, ro⟩] = X := ⟨_, rfl⟩
      obtain ⟨E, hE⟩ : ∃ E, dropL l y = E := ⟨_, rfl⟩
      have hxl : X.length ≤ maxLen := by rw [← hX]; have := since_len l y m [⟨rl, rh, ro⟩]; have := HL.out; unfold maxLen; omega
      have hel : E.length ≤ 60 := by rw [← hE]; have := drop_len l y; have := HL.out; omega
      have HSX := Lib.hid (fun wx (u z : Value) (h1 : CV wx u X) (h2 : CV wx z X) => show Calls Try.prog 17 #[u, z] wx (fun e w' => e = .returned (.bool true) ∧ Below wx.heap.size wx w') from by have h := dsame_v h1 h2 hxl; rw [decide_eq_true rfl] at h; exact h)
      have HSE := Lib.hid (fun wx (u z : Value) (h1 : CV wx u E) (h2 : CV wx z E) => show Calls Try.prog 17 #[u, z] wx (fun e w' => e = .returned (.bool true) ∧ Below wx.heap.size wx w') from by have h := dsame_v h1 h2 (by unfold maxLen; omega); rw [decide_eq_true rfl] at h; exact h)
      have hc1 := fun wx (h1 : Below w6.heap.size w6 wx) rv (h2 : RgV wx rv [⟨rl, rh, ro⟩]) => since_v y m (VD6.out.on h1) h2 (by have := drop_len l x; have := HL.out; omega) (by simp [maxLen])
      rw [drop_since HT.out HXY.out, hX] at hc1
      have hc2 := fun wx (h1 : Below w6.heap.size w6 wx) rv (h2 : RgV wx rv [⟨rl, rh, ro⟩]) => since_v y m (VL6.out.on h1) h2 HL2.out (by simp [maxLen])
      rw [hX] at hc2
      have hd1 := fun wx (h1 : Below w6.heap.size w6 wx) => drop_v y (VD6.out.on h1) (by have := drop_len l x; have := HL.out; omega)
      rw [(drop_drop HT.out HXY.out).1, hE] at hd1
      have hd2 := fun wx (h1 : Below w6.heap.size w6 wx) => drop_v y (VL6.out.on h1) (by have := HL.out; omega)
      rw [hE] at hd2
      have hd3 := fun wx u (h1 : CV wx u E) => drop_v x h1 (by omega)
      rw [show dropL E x = E from by rw [← hE]; exact (drop_drop HT.out HXY.out).2] at hd3
      have hin := fun wx => rin_any noB noB noB true wx
      rw [aw_in] at hin
      have HC1 := Lib.hid hc1
      have HC2 := Lib.hid hc2
      have HD1 := Lib.hid hd1
      have HD2 := Lib.hid hd2
      have HD3 := Lib.hid hd3
      have HIN := Lib.hid hin
      have BR := Lib.hid BR6.out
      clear hc1 hc2 hd1 hd2 hd3 hin hX hE hxl hel
      go_upto_region 5 with fail
      refine wp_region_phase 45 [32, 33, 34, 35, 36, 37, 38, 39, 40, 41, 42, 43, 44, 45, 46, 47, 48, 49, 50, 51, 52, 53, 54, 55, 56, 57, 58, 59, 60, 61, 62, 63, 64, 65, 66, 67, 68, 69, 70, 71, 10] (by kernel_rfl) [] [] (fun _ _ => True) 0 rfl (by kernel_rfl) (SP (fun wx => Below w6.heap.size w6 wx) (fun _ => True) (fun _ => True)) (fun wa wb => Below wa.heap.size wa wb) (DrV A n c x y m rl rh ro Ad nd cd X E) (by kernel_rfl) (SP.on below_grow (fun _ _ _ _ => trivial) (fun _ _ _ _ => trivial)) (fun _ t v wa wb h1 h2 => h2.on h1) (fun _ _ _ _ _ _ _ => trivial) (Below.refl _ _).drew trivial (phase0 ?_) ?_
      · refine Steps1.cons (fun _ ax wx hS _ hG => ?_) (Steps1.cons (fun _ ax wx hS _ hG => ?_) (Steps1.cons (fun _ ax wx hS _ hG => ?_) (Steps1.cons (fun _ ax wx hS _ hG => ?_) (Steps1.cons (fun _ ax wx hS _ hG => ?_) (Steps1.cons (fun _ ax wx hS _ hG => ?_) (Steps1.cons (fun _ ax wx hS _ hG => ?_) (Steps1.cons (fun _ ax wx hS _ hG => ?_) (Steps1.cons (fun _ ax wx hS _ hG => ?_) (Steps1.cons (fun _ ax wx hS _ hG => ?_) (Steps1.cons (fun _ ax wx hS _ hG => ?_) (Steps1.cons (fun _ ax wx hS _ hG => ?_) (Steps1.cons (fun _ ax wx hS _ hG => ?_) (Steps1.cons (fun _ ax wx hS _ hG => ?_) (Steps1.cons (fun _ ax wx hS _ hG => ?_) (Steps1.cons (fun _ ax wx hS _ hG => ?_) (Steps1.cons (fun _ ax wx hS _ hG => ?_) (Steps1.cons (fun _ ax wx hS _ hG => ?_) (Steps1.cons (fun _ ax wx hS _ hG => ?_) (Steps1.cons (fun _ ax wx hS _ hG => ?_) (Steps1.cons (fun _ ax wx hS _ hG => ?_) (Steps1.cons (fun _ ax wx hS _ hG => ?_) (Steps1.cons (fun _ ax wx hS _ hG => ?_) (Steps1.cons (fun _ ax wx hS _ hG => ?_) (Steps1.cons (fun _ ax wx hS _ hG => ?_) (Steps1.cons (fun _ ax wx hS _ hG => ?_) (Steps1.cons (fun _ ax wx hS _ hG => ?_) (Steps1.cons (fun _ ax wx hS _ hG => ?_) (Steps1.cons (fun _ ax wx hS _ hG => ?_) (Steps1.cons (fun _ ax wx hS _ hG => ?_) (Steps1.cons (fun _ ax wx hS _ hG => ?_) (Steps1.cons (fun _ ax wx hS _ hG => ?_) (Steps1.cons (fun _ ax wx hS _ hG => ?_) (Steps1.cons (fun _ ax wx hS _ hG => ?_) (Steps1.cons (fun _ ax wx hS _ hG => ?_) (Steps1.cons (fun _ ax wx hS _ hG => ?_) (Steps1.cons (fun _ ax wx hS _ hG => ?_) (Steps1.cons (fun _ ax wx hS _ hG => ?_) (Steps1.cons (fun _ ax wx hS _ hG => ?_) (Steps1.cons (fun _ ax wx hS _ hG => ?_) (Steps1.cons (fun _ ax wx hS _ hG => ?_) Steps1.nil))))))))))))))))))))))))))))))))))))))))
        · have q13 := hG.old 13 (by kernel_rfl) (by kernel_rfl)
          refine step_slot rfl rfl rfl (step_value (v := (.slice Ad nd cd)) (w' := wx) rfl rfl ?_ (Below.refl _ _) (fun d hd => by cases hd; exact rfl))
          go_simp
        · have q12 := hG.old 12 (by kernel_rfl) (by kernel_rfl)
          refine step_slot rfl rfl rfl (step_value (v := (.int .i64 y)) (w' := wx) rfl rfl ?_ (Below.refl _ _) (fun d hd => by cases hd; exact rfl))
          go_simp
        · have q3 := hG.old 3 (by kernel_rfl) (by kernel_rfl)
          refine step_slot rfl rfl rfl (step_value (v := (.int .i64 m)) (w' := wx) rfl rfl ?_ (Below.refl _ _) (fun d hd => by cases hd; exact rfl))
          go_simp
        · have q9 := hG.old 9 (by kernel_rfl) (by kernel_rfl)
          obtain ⟨z0, z1, z2⟩ := (⟨Box.cell (BR.out.on hS) 0 rfl, Box.cell (BR.out.on hS) 1 rfl, Box.cell (BR.out.on hS) 2 rfl⟩ : _ ∧ _ ∧ _)
          refine step_slot rfl rfl rfl (step_value (v := (.agg #[.string rl, .string rh, .bool ro])) (w' := wx) rfl rfl ?_ (Below.refl _ _) (fun d hd => by cases hd; exact rfl))
          go_simp
        · obtain ⟨_, q35, rfl⟩ := hG.new 35 (by kernel_rfl) (by kernel_rfl)
          refine step_slot rfl rfl rfl (step_value (v := .slice (some ⟨wx.heap.size, 0, none⟩) 1 1) (w' := wx.alloc (.cells #[.string rl, .string rh, .bool ro] 35)) rfl rfl ?_ ((Below.refl _ _).alloc (Nat.le_refl _) _) (fun d hd => by cases hd; exact ⟨_, rfl, Box.fresh _ _ _⟩))
          go_simp
        · obtain ⟨_, q32, rfl⟩ := hG.new 32 (by kernel_rfl) (by kernel_rfl)
          obtain ⟨_, q33, rfl⟩ := hG.new 33 (by kernel_rfl) (by kernel_rfl)
          obtain ⟨_, q34, rfl⟩ := hG.new 34 (by kernel_rfl) (by kernel_rfl)
          obtain ⟨v36, q36, h36⟩ := hG.new 36 (by kernel_rfl) (by kernel_rfl)
          have p36 : ∃ g, v36 = .slice (some ⟨g, 0, none⟩) 1 1 ∧ Box wx g 35 #[.string rl, .string rh, .bool ro] := h36
          obtain ⟨g36, rfl, hb36⟩ := p36
          refine step_slot rfl rfl rfl (step_call (w1 := wx) (f := 11) (args := #[.slice Ad nd cd, .int .i64 y, .int .i64 m, .slice (some ⟨g36, 0, none⟩) 1 1]) rfl rfl ?_ ((HC1.out wx (show Below _ _ _ from hS) _ (rg_box (r := ⟨rl, rh, ro⟩) hb36)).mono ?_))
          · clear h36 hb36
            go_simp
          · rintro e w' ⟨u, rfl, hp, hq⟩
            exact ⟨_, rfl, hq, fun d hd => by cases hd; exact hp⟩
        · have q0 := hG.old 0 (by kernel_rfl) (by kernel_rfl)
          refine step_slot rfl rfl rfl (step_value (v := (.slice A n c)) (w' := wx) rfl rfl ?_ (Below.refl _ _) (fun d hd => by cases hd; exact rfl))
          go_simp
        · have q12 := hG.old 12 (by kernel_rfl) (by kernel_rfl)
          refine step_slot rfl rfl rfl (step_value (v := (.int .i64 y)) (w' := wx) rfl rfl ?_ (Below.refl _ _) (fun d hd => by cases hd; exact rfl))
          go_simp
        · have q3 := hG.old 3 (by kernel_rfl) (by kernel_rfl)
          refine step_slot rfl rfl rfl (step_value (v := (.int .i64 m)) (w' := wx) rfl rfl ?_ (Below.refl _ _) (fun d hd => by cases hd; exact rfl))
          go_simp
        · have q9 := hG.old 9 (by kernel_rfl) (by kernel_rfl)
          obtain ⟨z0, z1, z2⟩ := (⟨Box.cell (BR.out.on hS) 0 rfl, Box.cell (BR.out.on hS) 1 rfl, Box.cell (BR.out.on hS) 2 rfl⟩ : _ ∧ _ ∧ _)
          refine step_slot rfl rfl rfl (step_value (v := (.agg #[.string rl, .string rh, .bool ro])) (w' := wx) rfl rfl ?_ (Below.refl _ _) (fun d hd => by cases hd; exact rfl))
          go_simp
        · obtain ⟨_, q41, rfl⟩ := hG.new 41 (by kernel_rfl) (by kernel_rfl)
          refine step_slot rfl rfl rfl (step_value (v := .slice (some ⟨wx.heap.size, 0, none⟩) 1 1) (w' := wx.alloc (.cells #[.string rl, .string rh, .bool ro] 35)) rfl rfl ?_ ((Below.refl _ _).alloc (Nat.le_refl _) _) (fun d hd => by cases hd; exact ⟨_, rfl, Box.fresh _ _ _⟩))
          go_simp
        · obtain ⟨_, q38, rfl⟩ := hG.new 38 (by kernel_rfl) (by kernel_rfl)
          obtain ⟨_, q39, rfl⟩ := hG.new 39 (by kernel_rfl) (by kernel_rfl)
          obtain ⟨_, q40, rfl⟩ := hG.new 40 (by kernel_rfl) (by kernel_rfl)
          obtain ⟨v42, q42, h42⟩ := hG.new 42 (by kernel_rfl) (by kernel_rfl)
          have p42 : ∃ g, v42 = .slice (some ⟨g, 0, none⟩) 1 1 ∧ Box wx g 35 #[.string rl, .string rh, .bool ro] := h42
          obtain ⟨g42, rfl, hb42⟩ := p42
          refine step_slot rfl rfl rfl (step_call (w1 := wx) (f := 11) (args := #[.slice A n c, .int .i64 y, .int .i64 m, .slice (some ⟨g42, 0, none⟩) 1 1]) rfl rfl ?_ ((HC2.out wx (show Below _ _ _ from hS) _ (rg_box (r := ⟨rl, rh, ro⟩) hb42)).mono ?_))
          · clear h42 hb42
            go_simp
          · rintro e w' ⟨u, rfl, hp, hq⟩
            exact ⟨_, rfl, hq, fun d hd => by cases hd; exact hp⟩
        · obtain ⟨v37, q37, h37⟩ := hG.new 37 (by kernel_rfl) (by kernel_rfl)
          have p37 : CV wx v37 X := h37
          obtain ⟨v43, q43, h43⟩ := hG.new 43 (by kernel_rfl) (by kernel_rfl)
          have p43 : CV wx v43 X := h43
          refine step_slot rfl rfl rfl (step_call (w1 := wx) (f := 17) (args := #[v37, v43]) rfl rfl ?_ ((HSX.out wx _ _ p37 p43).mono ?_))
          · clear h37 p37 h43 p43
            go_simp
          · rintro e w' ⟨rfl, hq⟩
            exact ⟨_, rfl, hq, fun d hd => by cases hd; exact rfl⟩
        · obtain ⟨_, q44, rfl⟩ := hG.new 44 (by kernel_rfl) (by kernel_rfl)
          refine step_slot rfl rfl rfl (step_value (v := .bool true) (w' := wx) rfl rfl ?_ (Below.refl _ _) (fun d hd => by cases hd; exact rfl))
          go_simp
        · obtain ⟨_, q45, rfl⟩ := hG.new 45 (by kernel_rfl) (by kernel_rfl)
          have q13 := hG.old 13 (by kernel_rfl) (by kernel_rfl)
          refine step_slot rfl rfl rfl (step_value (v := (.slice Ad nd cd)) (w' := wx) rfl (by simp [Region.wanted, yielded, q45, undef]) ?_ (Below.refl _ _) (fun d hd => by cases hd; exact rfl))
          go_simp
        · obtain ⟨_, q45, rfl⟩ := hG.new 45 (by kernel_rfl) (by kernel_rfl)
          have q12 := hG.old 12 (by kernel_rfl) (by kernel_rfl)
          refine step_slot rfl rfl rfl (step_value (v := (.int .i64 y)) (w' := wx) rfl (by simp [Region.wanted, yielded, q45, undef]) ?_ (Below.refl _ _) (fun d hd => by cases hd; exact rfl))
          go_simp
        · obtain ⟨_, q45, rfl⟩ := hG.new 45 (by kernel_rfl) (by kernel_rfl)
          obtain ⟨_, q46, rfl⟩ := hG.new 46 (by kernel_rfl) (by kernel_rfl)
          obtain ⟨_, q47, rfl⟩ := hG.new 47 (by kernel_rfl) (by kernel_rfl)
          refine step_slot rfl rfl rfl (step_call (w1 := wx) (f := 12) (args := #[(.slice Ad nd cd), (.int .i64 y)]) rfl (by simp [Region.wanted, yielded, q45, undef]) ?_ ((HD1.out wx (show Below _ _ _ from hS)).mono ?_))
          · skip
            go_simp
          · rintro e w' ⟨u, rfl, hp, hq⟩
            exact ⟨_, rfl, hq, fun d hd => by cases hd; exact hp⟩
        · obtain ⟨_, q45, rfl⟩ := hG.new 45 (by kernel_rfl) (by kernel_rfl)
          have q0 := hG.old 0 (by kernel_rfl) (by kernel_rfl)
          refine step_slot rfl rfl rfl (step_value (v := (.slice A n c)) (w' := wx) rfl (by simp [Region.wanted, yielded, q45, undef]) ?_ (Below.refl _ _) (fun d hd => by cases hd; exact rfl))
          go_simp
        · obtain ⟨_, q45, rfl⟩ := hG.new 45 (by kernel_rfl) (by kernel_rfl)
          have q12 := hG.old 12 (by kernel_rfl) (by kernel_rfl)
          refine step_slot rfl rfl rfl (step_value (v := (.int .i64 y)) (w' := wx) rfl (by simp [Region.wanted, yielded, q45, undef]) ?_ (Below.refl _ _) (fun d hd => by cases hd; exact rfl))
          go_simp
        · obtain ⟨_, q45, rfl⟩ := hG.new 45 (by kernel_rfl) (by kernel_rfl)
          obtain ⟨_, q49, rfl⟩ := hG.new 49 (by kernel_rfl) (by kernel_rfl)
          obtain ⟨_, q50, rfl⟩ := hG.new 50 (by kernel_rfl) (by kernel_rfl)
          refine step_slot rfl rfl rfl (step_call (w1 := wx) (f := 12) (args := #[(.slice A n c), (.int .i64 y)]) rfl (by simp [Region.wanted, yielded, q45, undef]) ?_ ((HD2.out wx (show Below _ _ _ from hS)).mono ?_))
          · skip
            go_simp
          · rintro e w' ⟨u, rfl, hp, hq⟩
            exact ⟨_, rfl, hq, fun d hd => by cases hd; exact hp⟩
        · obtain ⟨_, q45, rfl⟩ := hG.new 45 (by kernel_rfl) (by kernel_rfl)
          obtain ⟨v48, q48, h48⟩ := hG.new 48 (by kernel_rfl) (by kernel_rfl)
          have p48 : CV wx v48 E := h48
          obtain ⟨v51, q51, h51⟩ := hG.new 51 (by kernel_rfl) (by kernel_rfl)
          have p51 : CV wx v51 E := h51
          refine step_slot rfl rfl rfl (step_call (w1 := wx) (f := 17) (args := #[v48, v51]) rfl (by simp [Region.wanted, yielded, q45, undef]) ?_ ((HSE.out wx _ _ p48 p51).mono ?_))
          · clear h48 p48 h51 p51
            go_simp
          · rintro e w' ⟨rfl, hq⟩
            exact ⟨_, rfl, hq, fun d hd => by cases hd; exact rfl⟩
        · obtain ⟨_, q45, rfl⟩ := hG.new 45 (by kernel_rfl) (by kernel_rfl)
          obtain ⟨_, q52, rfl⟩ := hG.new 52 (by kernel_rfl) (by kernel_rfl)
          refine step_slot rfl rfl rfl (step_value (v := .bool true) (w' := wx) rfl rfl ?_ (Below.refl _ _) (fun d hd => by cases hd; exact rfl))
          go_simp
        · obtain ⟨_, q53, rfl⟩ := hG.new 53 (by kernel_rfl) (by kernel_rfl)
          refine step_slot rfl rfl rfl (step_value (v := .bool true) (w' := wx) rfl rfl ?_ (Below.refl _ _) (fun d hd => by cases hd; exact rfl))
          go_simp
        · obtain ⟨_, q54, rfl⟩ := hG.new 54 (by kernel_rfl) (by kernel_rfl)
          have q0 := hG.old 0 (by kernel_rfl) (by kernel_rfl)
          refine step_slot rfl rfl rfl (step_value (v := (.slice A n c)) (w' := wx) rfl (by simp [Region.wanted, yielded, q54, undef]) ?_ (Below.refl _ _) (fun d hd => by cases hd; exact rfl))
          go_simp
        · obtain ⟨_, q54, rfl⟩ := hG.new 54 (by kernel_rfl) (by kernel_rfl)
          have q12 := hG.old 12 (by kernel_rfl) (by kernel_rfl)
          refine step_slot rfl rfl rfl (step_value (v := (.int .i64 y)) (w' := wx) rfl (by simp [Region.wanted, yielded, q54, undef]) ?_ (Below.refl _ _) (fun d hd => by cases hd; exact rfl))
          go_simp
        · obtain ⟨_, q54, rfl⟩ := hG.new 54 (by kernel_rfl) (by kernel_rfl)
          obtain ⟨_, q55, rfl⟩ := hG.new 55 (by kernel_rfl) (by kernel_rfl)
          obtain ⟨_, q56, rfl⟩ := hG.new 56 (by kernel_rfl) (by kernel_rfl)
          refine step_slot rfl rfl rfl (step_call (w1 := wx) (f := 12) (args := #[(.slice A n c), (.int .i64 y)]) rfl (by simp [Region.wanted, yielded, q54, undef]) ?_ ((HD2.out wx (show Below _ _ _ from hS)).mono ?_))
          · skip
            go_simp
          · rintro e w' ⟨u, rfl, hp, hq⟩
            exact ⟨_, rfl, hq, fun d hd => by cases hd; exact hp⟩
        · obtain ⟨_, q54, rfl⟩ := hG.new 54 (by kernel_rfl) (by kernel_rfl)
          have q11 := hG.old 11 (by kernel_rfl) (by kernel_rfl)
          refine step_slot rfl rfl rfl (step_value (v := (.int .i64 x)) (w' := wx) rfl (by simp [Region.wanted, yielded, q54, undef]) ?_ (Below.refl _ _) (fun d hd => by cases hd; exact rfl))
          go_simp
        · obtain ⟨_, q54, rfl⟩ := hG.new 54 (by kernel_rfl) (by kernel_rfl)
          obtain ⟨v57, q57, h57⟩ := hG.new 57 (by kernel_rfl) (by kernel_rfl)
          have p57 : CV wx v57 E := h57
          obtain ⟨_, q58, rfl⟩ := hG.new 58 (by kernel_rfl) (by kernel_rfl)
          refine step_slot rfl rfl rfl (step_call (w1 := wx) (f := 12) (args := #[v57, (.int .i64 x)]) rfl (by simp [Region.wanted, yielded, q54, undef]) ?_ ((HD3.out wx _ p57).mono ?_))
          · clear h57 p57
            go_simp
          · rintro e w' ⟨u, rfl, hp, hq⟩
            exact ⟨_, rfl, hq, fun d hd => by cases hd; exact hp⟩
        · obtain ⟨_, q54, rfl⟩ := hG.new 54 (by kernel_rfl) (by kernel_rfl)
          have q0 := hG.old 0 (by kernel_rfl) (by kernel_rfl)
          refine step_slot rfl rfl rfl (step_value (v := (.slice A n c)) (w' := wx) rfl (by simp [Region.wanted, yielded, q54, undef]) ?_ (Below.refl _ _) (fun d hd => by cases hd; exact rfl))
          go_simp
        · obtain ⟨_, q54, rfl⟩ := hG.new 54 (by kernel_rfl) (by kernel_rfl)
          have q12 := hG.old 12 (by kernel_rfl) (by kernel_rfl)
          refine step_slot rfl rfl rfl (step_value (v := (.int .i64 y)) (w' := wx) rfl (by simp [Region.wanted, yielded, q54, undef]) ?_ (Below.refl _ _) (fun d hd => by cases hd; exact rfl))
          go_simp
        · obtain ⟨_, q54, rfl⟩ := hG.new 54 (by kernel_rfl) (by kernel_rfl)
          obtain ⟨_, q60, rfl⟩ := hG.new 60 (by kernel_rfl) (by kernel_rfl)
          obtain ⟨_, q61, rfl⟩ := hG.new 61 (by kernel_rfl) (by kernel_rfl)
          refine step_slot rfl rfl rfl (step_call (w1 := wx) (f := 12) (args := #[(.slice A n c), (.int .i64 y)]) rfl (by simp [Region.wanted, yielded, q54, undef]) ?_ ((HD2.out wx (show Below _ _ _ from hS)).mono ?_))
          · skip
            go_simp
          · rintro e w' ⟨u, rfl, hp, hq⟩
            exact ⟨_, rfl, hq, fun d hd => by cases hd; exact hp⟩
        · obtain ⟨_, q54, rfl⟩ := hG.new 54 (by kernel_rfl) (by kernel_rfl)
          obtain ⟨v59, q59, h59⟩ := hG.new 59 (by kernel_rfl) (by kernel_rfl)
          have p59 : CV wx v59 E := h59
          obtain ⟨v62, q62, h62⟩ := hG.new 62 (by kernel_rfl) (by kernel_rfl)
          have p62 : CV wx v62 E := h62
          refine step_slot rfl rfl rfl (step_call (w1 := wx) (f := 17) (args := #[v59, v62]) rfl (by simp [Region.wanted, yielded, q54, undef]) ?_ ((HSE.out wx _ _ p59 p62).mono ?_))
          · clear h59 p59 h62 p62
            go_simp
          · rintro e w' ⟨rfl, hq⟩
            exact ⟨_, rfl, hq, fun d hd => by cases hd; exact rfl⟩
        · obtain ⟨_, q54, rfl⟩ := hG.new 54 (by kernel_rfl) (by kernel_rfl)
          obtain ⟨_, q63, rfl⟩ := hG.new 63 (by kernel_rfl) (by kernel_rfl)
          refine step_slot rfl rfl rfl (step_value (v := .bool true) (w' := wx) rfl rfl ?_ (Below.refl _ _) (fun d hd => by cases hd; exact rfl))
          go_simp
        · obtain ⟨_, q64, rfl⟩ := hG.new 64 (by kernel_rfl) (by kernel_rfl)
          refine step_slot rfl rfl rfl (step_value (v := .bool true) (w' := wx) rfl rfl ?_ (Below.refl _ _) (fun d hd => by cases hd; exact rfl))
          go_simp
        · obtain ⟨_, q65, rfl⟩ := hG.new 65 (by kernel_rfl) (by kernel_rfl)
          refine step_slot rfl rfl rfl (step_value (v := (.agg #[.string ⟨#[]⟩, .string ⟨#[]⟩, .bool true])) (w' := wx) rfl (by simp [Region.wanted, yielded, q65, undef]) ?_ (Below.refl _ _) (fun d hd => by cases hd; exact rfl))
          go_simp
        · obtain ⟨_, q65, rfl⟩ := hG.new 65 (by kernel_rfl) (by kernel_rfl)
          obtain ⟨_, q66, rfl⟩ := hG.new 66 (by kernel_rfl) (by kernel_rfl)
          refine step_slot rfl rfl rfl (step_call (w1 := wx) (f := 21) (args := #[(.agg #[.string ⟨#[]⟩, .string ⟨#[]⟩, .bool true]), .string ⟨#[]⟩]) rfl (by simp [Region.wanted, yielded, q65, undef]) ?_ ((HIN.out wx).mono ?_))
          · skip
            go_simp
          · rintro e w' ⟨rfl, hq⟩
            exact ⟨_, rfl, hq, fun d hd => by cases hd; exact rfl⟩
        · obtain ⟨_, q65, rfl⟩ := hG.new 65 (by kernel_rfl) (by kernel_rfl)
          obtain ⟨_, q67, rfl⟩ := hG.new 67 (by kernel_rfl) (by kernel_rfl)
          refine step_slot rfl rfl rfl (step_value (v := .bool true) (w' := wx) rfl rfl ?_ (Below.refl _ _) (fun d hd => by cases hd; exact rfl))
          go_simp
        · obtain ⟨_, q68, rfl⟩ := hG.new 68 (by kernel_rfl) (by kernel_rfl)
          refine step_slot rfl rfl rfl (step_value (v := .bool true) (w' := wx) rfl rfl ?_ (Below.refl _ _) (fun d hd => by cases hd; exact rfl))
          go_simp
        · obtain ⟨_, q69, rfl⟩ := hG.new 69 (by kernel_rfl) (by kernel_rfl)
          refine step_slot rfl rfl rfl (step_call (w1 := wx) (f := 10) (args := #[]) rfl (by simp [Region.wanted, yielded, q69, undef]) ?_ ((awake_true wx).mono ?_))
          · skip
            go_simp
          · rintro e w' ⟨rfl, hq⟩
            exact ⟨_, rfl, hq, fun d hd => by cases hd; exact rfl⟩
        · obtain ⟨_, q69, rfl⟩ := hG.new 69 (by kernel_rfl) (by kernel_rfl)
          obtain ⟨_, q70, rfl⟩ := hG.new 70 (by kernel_rfl) (by kernel_rfl)
          refine step_slot rfl rfl rfl (step_value (v := .bool true) (w' := wx) rfl rfl ?_ (Below.refl _ _) (fun d hd => by cases hd; exact rfl))
          go_simp
        · obtain ⟨_, q71, rfl⟩ := hG.new 71 (by kernel_rfl) (by kernel_rfl)
          refine step_slot rfl rfl rfl (step_value (v := .bool true) (w' := wx) rfl rfl ?_ (Below.refl _ _) (fun d hd => by cases hd; exact rfl))
          go_simp
      intro fv w8 hS8 _ hV8
      have e10 : fv 10 = .bool true := hV8 10 (by decide)
      simp only [puts, Act.put, List.setIfInBounds_toArray, List.set_cons_succ, List.set_cons_zero]
      clear hV8
      rw [e10]
      have HB8 := Lib.hid (HB6.out.trans ((show Below _ _ _ from hS8).mono HB6.out.size))
      clear hS8
      go_wp2
      go_ret
      exact ⟨rfl, HB8.out⟩

end Go.Proofs.Ytidigbjlglomhaa
