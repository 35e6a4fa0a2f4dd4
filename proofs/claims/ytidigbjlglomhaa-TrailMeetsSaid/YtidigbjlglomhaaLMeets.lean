/- The walk of TrailMeets: what is told of two ranges is what is told of what both have. -/
import Derived.Test.YtidigbjlglomhaaAwk
import Derived.Test.YtidigbjlglomhaaSf
import Derived.Test.YtidigbjlglomhaaRSame
set_option linter.unusedVariables false
set_option linter.unusedSimpArgs false
namespace Go.Proofs.Ytidigbjlglomhaa
open Go.RowKit

/-- A literal of one range. -/
theorem rg_box {w : World} {g : Nat} {r : Rng} (h : Box w g 35 #[.string r.lo, .string r.hi, .bool r.op]) : RgV w (.slice (some ⟨g, 0, none⟩) 1 1) [r] := by
  refine ⟨some ⟨g, 0, none⟩, 1, rfl, ?_⟩
  intro _
  refine ⟨⟨g, 0, none⟩, rfl, h.lt, fun i hi j u hu => ?_⟩
  have hi0 : i = 0 := by simpa using hi
  subst hi0
  have hu : r.cells[j]? = some u := hu
  have hu2 : (#[.string r.lo, .string r.hi, .bool r.op] : Array Value)[j]? = some u := by rw [← hu]; simp [Rng.cells, List.getElem?_toArray]
  have := Box.cell h j hu2
  by_cases hj : j = 0
  · subst hj; simpa [Addr.add] using this
  · simpa [Addr.add, hj] using this
def MtV (A : Option Addr) (n c : Nat) (s m : Int) (lo hi lo2 hi2 : ByteArray) (op op2 : Bool) (Z X : List Ch) (p t : Nat) (v : Value) (w : World) : Prop :=
  match t with
  | 37 => v = (.slice A n c)
  | 38 => v = (.int .i64 s)
  | 39 => v = (.slice A n c)
  | 40 => v = (.int .i64 n)
  | 41 => v = (.agg #[.string lo, .string hi, .bool op])
  | 42 => ∃ g, v = .slice (some ⟨g, 0, none⟩) 1 1 ∧ Box w g 35 #[.string lo, .string hi, .bool op]
  | 43 => CV w v Z
  | 44 => v = (.int .i64 s)
  | 45 => v = (.int .i64 m)
  | 46 => v = (.agg #[.string lo2, .string hi2, .bool op2])
  | 47 => ∃ g, v = .slice (some ⟨g, 0, none⟩) 1 1 ∧ Box w g 35 #[.string lo2, .string hi2, .bool op2]
  | 48 => CV w v X
  | 13 => CV w v X
  | _ => True
theorem MtV.on {A : Option Addr} {n c : Nat} {s m : Int} {lo hi lo2 hi2 : ByteArray} {op op2 : Bool} {Z X : List Ch} {p t : Nat} {v : Value} {w w' : World} (h : MtV A n c s m lo hi lo2 hi2 op op2 Z X p t v w) (hb : Below w.heap.size w w') : MtV A n c s m lo hi lo2 hi2 op op2 Z X p t v w' := by
  unfold MtV at *
  split at h <;> first | exact h | exact (let ⟨g, e1, h1⟩ := h; ⟨g, e1, h1.on hb⟩) | exact (CV.on h hb)


set_option maxRecDepth 100000 in
set_option maxHeartbeats 8000000 in
theorem meets_walk (v : Value) (l : List Ch) (s m : Int) (lo hi : ByteArray) (op : Bool) (lo2 hi2 : ByteArray) (op2 : Bool) (w : World) (hv : CV w v l) (hn : l.length ≤ maxLen) :
    Calls Try.prog 7 #[v, .int .i64 s, .int .i64 m, .agg #[.string lo, .string hi, .bool op], .agg #[.string lo2, .string hi2, .bool op2]] w fun e w' => e = .returned (.bool true) ∧ Below w.heap.size w w' := by
  obtain ⟨A, n, c, rfl, hnl⟩ : ∃ A n c, v = .slice A n c ∧ l.length = n := by obtain ⟨A, c, e, _⟩ := hv; exact ⟨A, _, c, e, rfl⟩
  obtain ⟨ga, hga⟩ : ∃ g, g = w.heap.size := ⟨_, rfl⟩
  obtain ⟨w0, hw0⟩ : ∃ q, q = w.alloc (.cells #[.string lo, .string hi, .bool op] 35) := ⟨_, rfl⟩
  obtain ⟨gb, hgb⟩ : ∃ g, g = w0.heap.size := ⟨_, rfl⟩
  obtain ⟨w1, hw1⟩ : ∃ q, q = w0.alloc (.cells #[.string lo2, .string hi2, .bool op2] 35) := ⟨_, rfl⟩
  have hgab : ga + 1 = gb := by rw [hgb, hw0, hga]; simp
  have hb0 : Below w.heap.size w w1 := by rw [hw1, hw0]; exact ((Below.refl _ _).alloc (Nat.le_refl _) _).alloc (by simp) _
  have BA1 := Lib.hid (show Box w1 ga 35 #[.string lo, .string hi, .bool op] from by rw [hw1]; exact Box.push (by rw [hw0]; exact Box.at_ w _ _ hga) _)
  have BB1 := Lib.hid (show Box w1 gb 35 #[.string lo2, .string hi2, .bool op2] from by rw [hw1]; exact Box.at_ w0 _ _ hgb)
  have HLN := Lib.hid hnl
  have HMX := Lib.hid hn
  have VL1 := Lib.hid (hv.on hb0)
  have HB1 := Lib.hid hb0
  clear hv hn hnl hb0
  go_enter Try.func7, Try.ntmps7
  go_upto_region 1 with fail
  rw [← hga, ← hw0, hgab, ← hw1]
  clear hga hw0 hgb hw1 hgab
  go_wp2_with fail
  refine (few_v VL1.out).mono ?_
  rintro e w2 ⟨R1, rfl, h1, hb⟩
  have HB2 := Lib.hid (HB1.out.trans (hb.mono HB1.out.size))
  have VL2 := Lib.hid (VL1.out.on hb)
  have BA2 := Lib.hid (BA1.out.on hb)
  have BB2 := Lib.hid (BB1.out.on hb)
  clear hb HB1 VL1 BA1 BB1 
  have H1 := Lib.hid h1
  clear h1
  cases R1 with
  | false =>
    go_wp2_with fail
    refine (awake_true _).mono ?_
    rintro e w3 ⟨rfl, hb⟩
    have HB3 := Lib.hid (HB2.out.trans (hb.mono HB2.out.size))
    clear hb HB2 
    go_wp2
    go_ret
    exact ⟨rfl, HB3.out⟩
  | true =>
    have HL := Lib.hid (H1.out (by simp)).1
    have HL2 := Lib.hid (show l.length ≤ 1000 from by have := HL.out; omega)
    clear H1
    obtain ⟨R, hR⟩ : ∃ R, trailB l = R := ⟨_, rfl⟩
    have HR := Lib.hid hR
    have hk := right_v VL2.out HMX.out
    rw [hR] at hk
    go_wp2_with fail
    refine (hk).mono ?_
    rintro e w4 ⟨rfl, hb⟩
    have HB4 := Lib.hid (HB2.out.trans (hb.mono HB2.out.size))
    have VL4 := Lib.hid (VL2.out.on hb)
    have BA4 := Lib.hid (BA2.out.on hb)
    have BB4 := Lib.hid (BB2.out.on hb)
    clear hb HB2 VL2 BA2 BB2 hk
    cases R with
    | false =>
      go_wp2_with fail
      refine (awake_true _).mono ?_
      rintro e w5 ⟨rfl, hb⟩
      have HB5 := Lib.hid (HB4.out.trans (hb.mono HB4.out.size))
      clear hb HB4 
      go_wp2
      go_ret
      exact ⟨rfl, HB5.out⟩
    | true =>
      have HT := Lib.hid (trail_t.1 hR)
      clear hR
      obtain ⟨z0, z1, z2⟩ := (⟨Box.cell BA4.out 0 rfl, Box.cell BA4.out 1 rfl, Box.cell BA4.out 2 rfl⟩ : _ ∧ _ ∧ _)
      obtain ⟨y0, y1, y2⟩ := (⟨Box.cell BB4.out 0 rfl, Box.cell BB4.out 1 rfl, Box.cell BB4.out 2 rfl⟩ : _ ∧ _ ∧ _)
      obtain ⟨wq, hwq⟩ : ∃ q, q = w4.alloc (.cells #[.string lo, .string hi, .bool op, .string lo2, .string hi2, .bool op2] 35) := ⟨_, rfl⟩
      obtain ⟨gq, hgq⟩ : ∃ q, q = w4.heap.size := ⟨_, rfl⟩
      have hb : Below w4.heap.size w4 wq := by rw [hwq]; exact (Below.refl _ _).alloc (Nat.le_refl _) _
      have VRq := Lib.hid (show RgV wq (.slice (some ⟨gq, 0, none⟩) 2 2) [⟨lo, hi, op⟩, ⟨lo2, hi2, op2⟩] from by rw [hwq]; exact RgV.lit hgq rfl rfl)
      have HBq := Lib.hid (HB4.out.trans (hb.mono HB4.out.size))
      have VLq := Lib.hid (VL4.out.on hb)
      have BAq := Lib.hid (BA4.out.on hb)
      have BBq := Lib.hid (BB4.out.on hb)
      clear hb HB4 VL4 BA4 BB4 
      have hk := since_v s m VLq.out VRq.out HL2.out (by simp [maxLen])
      go_wp2_with fail
      rw [← hgq, ← hwq]
      clear hgq hwq z0 z1 z2 y0 y1 y2
      refine hk.mono ?_
      clear hk
      rintro e w6 ⟨vx, rfl, hp, hb⟩
      have VX6 := Lib.hid hp
      clear hp
      have HB6 := Lib.hid (HBq.out.trans (hb.mono HBq.out.size))
      have VL6 := Lib.hid (VLq.out.on hb)
      have BA6 := Lib.hid (BAq.out.on hb)
      have BB6 := Lib.hid (BBq.out.on hb)
      have VR6 := Lib.hid (VRq.out.on hb)
      clear hb HBq VLq BAq BBq VRq 
      clear VR6
      obtain ⟨z0, z1, z2⟩ := (⟨Box.cell BA6.out 0 rfl, Box.cell BA6.out 1 rfl, Box.cell BA6.out 2 rfl⟩ : _ ∧ _ ∧ _)
      obtain ⟨y0, y1, y2⟩ := (⟨Box.cell BB6.out 0 rfl, Box.cell BB6.out 1 rfl, Box.cell BB6.out 2 rfl⟩ : _ ∧ _ ∧ _)
      obtain ⟨wq, hwq⟩ : ∃ q, q = w6.alloc (.cells #[.string lo2, .string hi2, .bool op2, .string lo, .string hi, .bool op] 35) := ⟨_, rfl⟩
      obtain ⟨gq, hgq⟩ : ∃ q, q = w6.heap.size := ⟨_, rfl⟩
      have hb : Below w6.heap.size w6 wq := by rw [hwq]; exact (Below.refl _ _).alloc (Nat.le_refl _) _
      have VRq := Lib.hid (show RgV wq (.slice (some ⟨gq, 0, none⟩) 2 2) [⟨lo2, hi2, op2⟩, ⟨lo, hi, op⟩] from by rw [hwq]; exact RgV.lit hgq rfl rfl)
      have HBq := Lib.hid (HB6.out.trans (hb.mono HB6.out.size))
      have VLq := Lib.hid (VL6.out.on hb)
      have BAq := Lib.hid (BA6.out.on hb)
      have BBq := Lib.hid (BB6.out.on hb)
      have VXq := Lib.hid (VX6.out.on hb)
      clear hb HB6 VL6 BA6 BB6 VX6 
      have hk := since_v s m VLq.out VRq.out HL2.out (by simp [maxLen])
      go_wp2_with fail
      rw [← hgq, ← hwq]
      clear hgq hwq z0 z1 z2 y0 y1 y2
      refine hk.mono ?_
      clear hk
      rintro e w7 ⟨vy, rfl, hp, hb⟩
      have VY7 := Lib.hid hp
      clear hp
      have HB7 := Lib.hid (HBq.out.trans (hb.mono HBq.out.size))
      have VL7 := Lib.hid (VLq.out.on hb)
      have BA7 := Lib.hid (BAq.out.on hb)
      have BB7 := Lib.hid (BBq.out.on hb)
      have VX7 := Lib.hid (VXq.out.on hb)
      have VR7 := Lib.hid (VRq.out.on hb)
      clear hb HBq VLq BAq BBq VXq VRq 
      clear VR7
      obtain ⟨X, hX⟩ : ∃ X, sinceL l s m [⟨lo, hi, op⟩, ⟨lo2, hi2, op2⟩] = X := ⟨_, rfl⟩
      obtain ⟨Z, hZ⟩ : ∃ Z, sinceL l s n [⟨lo, hi, op⟩] = Z := ⟨_, rfl⟩
      have HXL := Lib.hid (show X.length ≤ maxLen from by rw [← hX]; have := since_len l s m [⟨lo, hi, op⟩, ⟨lo2, hi2, op2⟩]; have := HL.out; unfold maxLen; omega)
      have HXT := Lib.hid (show trailB X = true from by rw [← hX]; exact trail_t.2 (HT.out.since s m _))
      have VX0 := Lib.hid (show CV w7 vx X from by rw [← hX]; exact VX7.out)
      have VY0 := Lib.hid (show CV w7 vy X from by rw [← hX, meet_flip]; exact VY7.out)
      have hc1 := fun wx (h1 : Below w7.heap.size w7 wx) rv (h2 : RgV wx rv [⟨lo, hi, op⟩]) => since_v s n (VL7.out.on h1) h2 HL2.out (by simp [maxLen])
      rw [hZ] at hc1
      have hc2 := fun wx u (h1 : CV wx u Z) rv (h2 : RgV wx rv [⟨lo2, hi2, op2⟩]) => since_v s m h1 h2 (by rw [← hZ]; have := since_len l s n [⟨lo, hi, op⟩]; have := HL.out; omega) (by simp [maxLen])
      rw [show sinceL Z s m [⟨lo2, hi2, op2⟩] = X from by rw [← hX, ← hZ, ← HLN.out]; exact meet_again HT.out s m _ _] at hc2
      have HC1 := Lib.hid hc1
      have HC2 := Lib.hid hc2
      have BA := Lib.hid BA7.out
      have BB := Lib.hid BB7.out
      clear hc1 hc2 hX hZ
      go_upto_region 5 with fail
      refine wp_region_phase 16 [37, 38, 39, 40, 41, 42, 43, 44, 45, 46, 47, 48, 13] (by kernel_rfl) [] [] (fun _ _ => True) 0 rfl (by kernel_rfl) (SP (fun wx => Below w7.heap.size w7 wx) (fun _ => True) (fun _ => True)) (fun wa wb => Below wa.heap.size wa wb) (MtV A n c s m lo hi lo2 hi2 op op2 Z X) (by kernel_rfl) (SP.on below_grow (fun _ _ _ _ => trivial) (fun _ _ _ _ => trivial)) (fun _ t v wa wb h1 h2 => h2.on h1) (fun _ _ _ _ _ _ _ => trivial) (Below.refl _ _).drew trivial (phase0 ?_) ?_
      · refine Steps1.cons (fun _ ax wx hS _ hG => ?_) (Steps1.cons (fun _ ax wx hS _ hG => ?_) (Steps1.cons (fun _ ax wx hS _ hG => ?_) (Steps1.cons (fun _ ax wx hS _ hG => ?_) (Steps1.cons (fun _ ax wx hS _ hG => ?_) (Steps1.cons (fun _ ax wx hS _ hG => ?_) (Steps1.cons (fun _ ax wx hS _ hG => ?_) (Steps1.cons (fun _ ax wx hS _ hG => ?_) (Steps1.cons (fun _ ax wx hS _ hG => ?_) (Steps1.cons (fun _ ax wx hS _ hG => ?_) (Steps1.cons (fun _ ax wx hS _ hG => ?_) (Steps1.cons (fun _ ax wx hS _ hG => ?_) (Steps1.cons (fun _ ax wx hS _ hG => ?_) Steps1.nil))))))))))))
        · have q0 := hG.old 0 (by kernel_rfl) (by kernel_rfl)
          refine step_slot rfl rfl rfl (step_value (v := (.slice A n c)) (w' := wx) rfl rfl ?_ (Below.refl _ _) (fun d hd => by cases hd; exact rfl))
          go_simp
        · have q1 := hG.old 1 (by kernel_rfl) (by kernel_rfl)
          refine step_slot rfl rfl rfl (step_value (v := (.int .i64 s)) (w' := wx) rfl rfl ?_ (Below.refl _ _) (fun d hd => by cases hd; exact rfl))
          go_simp
        · have q0 := hG.old 0 (by kernel_rfl) (by kernel_rfl)
          refine step_slot rfl rfl rfl (step_value (v := (.slice A n c)) (w' := wx) rfl rfl ?_ (Below.refl _ _) (fun d hd => by cases hd; exact rfl))
          go_simp
        · obtain ⟨_, q39, rfl⟩ := hG.new 39 (by kernel_rfl) (by kernel_rfl)
          refine step_slot rfl rfl rfl (step_value (v := (.int .i64 n)) (w' := wx) rfl rfl ?_ (Below.refl _ _) (fun d hd => by cases hd; exact rfl))
          go_simp
        · have q8 := hG.old 8 (by kernel_rfl) (by kernel_rfl)
          obtain ⟨z0, z1, z2⟩ := (⟨Box.cell (BA.out.on hS) 0 rfl, Box.cell (BA.out.on hS) 1 rfl, Box.cell (BA.out.on hS) 2 rfl⟩ : _ ∧ _ ∧ _)
          refine step_slot rfl rfl rfl (step_value (v := (.agg #[.string lo, .string hi, .bool op])) (w' := wx) rfl rfl ?_ (Below.refl _ _) (fun d hd => by cases hd; exact rfl))
          go_simp
        · obtain ⟨_, q41, rfl⟩ := hG.new 41 (by kernel_rfl) (by kernel_rfl)
          refine step_slot rfl rfl rfl (step_value (v := .slice (some ⟨wx.heap.size, 0, none⟩) 1 1) (w' := wx.alloc (.cells #[.string lo, .string hi, .bool op] 35)) rfl rfl ?_ ((Below.refl _ _).alloc (Nat.le_refl _) _) (fun d hd => by cases hd; exact ⟨_, rfl, Box.fresh _ _ _⟩))
          go_simp
        · obtain ⟨_, q37, rfl⟩ := hG.new 37 (by kernel_rfl) (by kernel_rfl)
          obtain ⟨_, q38, rfl⟩ := hG.new 38 (by kernel_rfl) (by kernel_rfl)
          obtain ⟨_, q40, rfl⟩ := hG.new 40 (by kernel_rfl) (by kernel_rfl)
          obtain ⟨v42, q42, h42⟩ := hG.new 42 (by kernel_rfl) (by kernel_rfl)
          have p42 : ∃ g, v42 = .slice (some ⟨g, 0, none⟩) 1 1 ∧ Box wx g 35 #[.string lo, .string hi, .bool op] := h42
          obtain ⟨g42, rfl, hb42⟩ := p42
          refine step_slot rfl rfl rfl (step_call (w1 := wx) (f := 11) (args := #[.slice A n c, .int .i64 s, .int .i64 n, .slice (some ⟨g42, 0, none⟩) 1 1]) rfl rfl ?_ ((HC1.out wx (show Below _ _ _ from hS) _ (rg_box (r := ⟨lo, hi, op⟩) hb42)).mono ?_))
          · clear h42 hb42
            go_simp
          · rintro e w' ⟨u, rfl, hp, hq⟩
            exact ⟨_, rfl, hq, fun d hd => by cases hd; exact hp⟩
        · have q1 := hG.old 1 (by kernel_rfl) (by kernel_rfl)
          refine step_slot rfl rfl rfl (step_value (v := (.int .i64 s)) (w' := wx) rfl rfl ?_ (Below.refl _ _) (fun d hd => by cases hd; exact rfl))
          go_simp
        · have q2 := hG.old 2 (by kernel_rfl) (by kernel_rfl)
          refine step_slot rfl rfl rfl (step_value (v := (.int .i64 m)) (w' := wx) rfl rfl ?_ (Below.refl _ _) (fun d hd => by cases hd; exact rfl))
          go_simp
        · have q9 := hG.old 9 (by kernel_rfl) (by kernel_rfl)
          obtain ⟨z0, z1, z2⟩ := (⟨Box.cell (BB.out.on hS) 0 rfl, Box.cell (BB.out.on hS) 1 rfl, Box.cell (BB.out.on hS) 2 rfl⟩ : _ ∧ _ ∧ _)
          refine step_slot rfl rfl rfl (step_value (v := (.agg #[.string lo2, .string hi2, .bool op2])) (w' := wx) rfl rfl ?_ (Below.refl _ _) (fun d hd => by cases hd; exact rfl))
          go_simp
        · obtain ⟨_, q46, rfl⟩ := hG.new 46 (by kernel_rfl) (by kernel_rfl)
          refine step_slot rfl rfl rfl (step_value (v := .slice (some ⟨wx.heap.size, 0, none⟩) 1 1) (w' := wx.alloc (.cells #[.string lo2, .string hi2, .bool op2] 35)) rfl rfl ?_ ((Below.refl _ _).alloc (Nat.le_refl _) _) (fun d hd => by cases hd; exact ⟨_, rfl, Box.fresh _ _ _⟩))
          go_simp
        · obtain ⟨v43, q43, h43⟩ := hG.new 43 (by kernel_rfl) (by kernel_rfl)
          have p43 : CV wx v43 Z := h43
          obtain ⟨_, q44, rfl⟩ := hG.new 44 (by kernel_rfl) (by kernel_rfl)
          obtain ⟨_, q45, rfl⟩ := hG.new 45 (by kernel_rfl) (by kernel_rfl)
          obtain ⟨v47, q47, h47⟩ := hG.new 47 (by kernel_rfl) (by kernel_rfl)
          have p47 : ∃ g, v47 = .slice (some ⟨g, 0, none⟩) 1 1 ∧ Box wx g 35 #[.string lo2, .string hi2, .bool op2] := h47
          obtain ⟨g47, rfl, hb47⟩ := p47
          refine step_slot rfl rfl rfl (step_call (w1 := wx) (f := 11) (args := #[v43, .int .i64 s, .int .i64 m, .slice (some ⟨g47, 0, none⟩) 1 1]) rfl rfl ?_ ((HC2.out wx _ p43 _ (rg_box (r := ⟨lo2, hi2, op2⟩) hb47)).mono ?_))
          · clear h43 p43 h47 hb47
            go_simp
          · rintro e w' ⟨u, rfl, hp, hq⟩
            exact ⟨_, rfl, hq, fun d hd => by cases hd; exact hp⟩
        · obtain ⟨v48, q48, h48⟩ := hG.new 48 (by kernel_rfl) (by kernel_rfl)
          have p48 : CV wx v48 X := h48
          refine step_slot rfl rfl rfl (step_value (v := v48) (w' := wx) rfl rfl ?_ (Below.refl _ _) (fun d hd => by cases hd; exact p48))
          clear h48 p48
          go_simp
      intro fv w8 hS8 _ hV8
      have e13 : CV w8 (fv 13) X := hV8 13 (by decide)
      simp only [puts, Act.put, List.setIfInBounds_toArray, List.set_cons_succ, List.set_cons_zero]
      clear hV8
      have VL8 := Lib.hid (VL7.out.on (show Below _ _ _ from hS8))
      have VX8 := Lib.hid (VX0.out.on (show Below _ _ _ from hS8))
      have VY8 := Lib.hid (VY0.out.on (show Below _ _ _ from hS8))
      have VZ8 := Lib.hid e13
      have HB8 := Lib.hid (HB7.out.trans ((show Below _ _ _ from hS8).mono HB7.out.size))
      clear hS8 e13
      generalize fv 13 = vz at *
      have hk := dsame_v VX8.out VY8.out HXL.out
      rw [decide_eq_true rfl] at hk
      go_wp2_with fail
      refine (hk).mono ?_
      rintro e w21 ⟨rfl, hb⟩
      have HB21 := Lib.hid (HB8.out.trans (hb.mono HB8.out.size))
      have VX21 := Lib.hid (VX8.out.on hb)
      have VY21 := Lib.hid (VY8.out.on hb)
      have VZ21 := Lib.hid (VZ8.out.on hb)
      clear hb HB8 VX8 VY8 VZ8 hk
      have hk := dsame_v VX21.out VZ21.out HXL.out
      rw [decide_eq_true rfl] at hk
      go_wp2_with fail
      refine (hk).mono ?_
      rintro e w22 ⟨rfl, hb⟩
      have HB22 := Lib.hid (HB21.out.trans (hb.mono HB21.out.size))
      have VX22 := Lib.hid (VX21.out.on hb)
      have VY22 := Lib.hid (VY21.out.on hb)
      have VZ22 := Lib.hid (VZ21.out.on hb)
      clear hb HB21 VX21 VY21 VZ21 hk
      have hk := right_v VX22.out HXL.out
      rw [HXT.out] at hk
      go_wp2_with fail
      refine (hk).mono ?_
      rintro e w23 ⟨rfl, hb⟩
      have HB23 := Lib.hid (HB22.out.trans (hb.mono HB22.out.size))
      have VX23 := Lib.hid (VX22.out.on hb)
      have VY23 := Lib.hid (VY22.out.on hb)
      have VZ23 := Lib.hid (VZ22.out.on hb)
      clear hb HB22 VX22 VY22 VZ22 hk
      go_wp2_with fail
      refine (awake_true _).mono ?_
      rintro e w24 ⟨rfl, hb⟩
      have HB24 := Lib.hid (HB23.out.trans (hb.mono HB23.out.size))
      clear hb HB23 
      go_wp2
      go_ret
      exact ⟨rfl, HB24.out⟩

end Go.Proofs.Ytidigbjlglomhaa
