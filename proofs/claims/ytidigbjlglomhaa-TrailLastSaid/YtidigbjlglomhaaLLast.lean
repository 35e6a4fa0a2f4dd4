/- The walk of TrailLast: behind one more change, of a greater Seq, the last Seq is that. -/
import Derived.Test.YtidigbjlglomhaaAwk
import Derived.Test.YtidigbjlglomhaaSf
import Derived.Test.YtidigbjlglomhaaPh
set_option linter.unusedVariables false
set_option linter.unusedSimpArgs false
namespace Go.Proofs.Ytidigbjlglomhaa
open Go.RowKit

def LaM (A : Option Addr) (n c bs : Nat) (cs : Int) (ck : ByteArray) (cm : Bool) (cb : ByteArray) (cd : Bool) (ca : ByteArray) (l : List Ch) (p t : Nat) (v : Value) (w : World) : Prop :=
  match t with
  | 22 => p = 0 → ∃ g, v = .slice (some ⟨g, 0, none⟩) 0 0 ∧ World.ownsRow w bs 30 6 v 0 []
  | 23 => v = (.slice A n c)
  | 24 => p = 1 → World.ownsRow w bs 30 6 v n (l.flatMap Ch.cells)
  | 25 => v = (.agg #[.int .i64 cs, .string ck, .bool cm, .string cb, .bool cd, .string ca])
  | 26 => p ≤ 1 → ∃ h, v = .slice (some ⟨h, 0, none⟩) 1 1 ∧ Box w h 30 (⟨cs, ck, cm, cb, cd, ca⟩ : Ch).cells.toArray
  | 27 => p = 2 → CV w v (l ++ [(⟨cs, ck, cm, cb, cd, ca⟩ : Ch)])
  | 5 => 2 ≤ p ∧ CV w v (l ++ [(⟨cs, ck, cm, cb, cd, ca⟩ : Ch)])
  | _ => True
theorem LaM.on {A : Option Addr} {n c bs : Nat} {cs : Int} {ck : ByteArray} {cm : Bool} {cb : ByteArray} {cd : Bool} {ca : ByteArray} {l : List Ch} {p t : Nat} {v : Value} {w w' : World} (h : LaM A n c bs cs ck cm cb cd ca l p t v w) (hb : Below w.heap.size w w') : LaM A n c bs cs ck cm cb cd ca l p t v w' := by
  unfold LaM at *
  split at h <;> first | exact h | exact fun hp => (let ⟨g, e, h1⟩ := h hp; ⟨g, e, own_on h1 hb⟩) | exact fun hp => own_on (h hp) hb | exact fun hp => (let ⟨g, e, h1⟩ := h hp; ⟨g, e, h1.on hb⟩) | exact fun hp => (h hp).on hb | exact ⟨h.1, h.2.on hb⟩

def LaT (A Am : Option Addr) (n c nm cpm gc : Nat) (cs LL : Int) (ck : ByteArray) (cm : Bool) (cb : ByteArray) (cd : Bool) (ca : ByteArray) (p t : Nat) (v : Value) (w : World) : Prop :=
  match t with
  | 31 => v = (.pointer (some ⟨gc, 0, none⟩))
  | 32 => v = (.int .i64 cs)
  | 33 => v = (.slice A n c)
  | 34 => v = (.int .i64 LL)
  | 35 => v = .bool true
  | 36 => v = .bool true
  | 37 => v = undef
  | 38 => v = undef
  | 39 => v = undef
  | 40 => v = undef
  | 41 => v = .bool true
  | 42 => v = .bool true
  | 43 => v = (.slice Am nm cpm)
  | 44 => v = (.int .i64 0)
  | 45 => v = .bool true
  | 46 => v = .bool true
  | 47 => v = .bool true
  | 48 => v = .bool true
  | 49 => v = .bool true
  | 4 => v = .bool true
  | _ => True
theorem LaT.on {A Am : Option Addr} {n c nm cpm gc : Nat} {cs LL : Int} {ck : ByteArray} {cm : Bool} {cb : ByteArray} {cd : Bool} {ca : ByteArray} {p t : Nat} {v : Value} {w w' : World} (h : LaT A Am n c nm cpm gc cs LL ck cm cb cd ca p t v w) (hb : Below w.heap.size w w') : LaT A Am n c nm cpm gc cs LL ck cm cb cd ca p t v w' := by
  unfold LaT at *
  split at h <;> first | exact h | exact (let ⟨g, e1, h1⟩ := h; ⟨g, e1, h1.on hb⟩)

def LaF (A Am : Option Addr) (n c nm cpm gc : Nat) (cs LL : Int) (ck : ByteArray) (cm : Bool) (cb : ByteArray) (cd : Bool) (ca : ByteArray) (p t : Nat) (v : Value) (w : World) : Prop :=
  match t with
  | 31 => v = (.pointer (some ⟨gc, 0, none⟩))
  | 32 => v = (.int .i64 cs)
  | 33 => v = (.slice A n c)
  | 34 => v = (.int .i64 LL)
  | 35 => v = .bool false
  | 36 => v = .bool false
  | 37 => v = (.agg #[.int .i64 cs, .string ck, .bool cm, .string cb, .bool cd, .string ca])
  | 38 => ∃ h, v = .slice (some ⟨h, 0, none⟩) 1 1 ∧ Box w h 30 (⟨cs, ck, cm, cb, cd, ca⟩ : Ch).cells.toArray
  | 39 => v = .bool false
  | 40 => v = .bool true
  | 41 => v = .bool true
  | 42 => v = .bool true
  | 43 => v = (.slice Am nm cpm)
  | 44 => v = (.int .i64 0)
  | 45 => v = .bool true
  | 46 => v = .bool true
  | 47 => v = .bool true
  | 48 => v = .bool true
  | 49 => v = .bool true
  | 4 => v = .bool true
  | _ => True
theorem LaF.on {A Am : Option Addr} {n c nm cpm gc : Nat} {cs LL : Int} {ck : ByteArray} {cm : Bool} {cb : ByteArray} {cd : Bool} {ca : ByteArray} {p t : Nat} {v : Value} {w w' : World} (h : LaF A Am n c nm cpm gc cs LL ck cm cb cd ca p t v w) (hb : Below w.heap.size w w') : LaF A Am n c nm cpm gc cs LL ck cm cb cd ca p t v w' := by
  unfold LaF at *
  split at h <;> first | exact h | exact (let ⟨g, e1, h1⟩ := h; ⟨g, e1, h1.on hb⟩)

def LaE (A Am : Option Addr) (n c nm cpm gc c7 : Nat) (as7 : Addr) (cs LL : Int) (ck : ByteArray) (cm : Bool) (cb : ByteArray) (cd : Bool) (ca : ByteArray) (p t : Nat) (v : Value) (w : World) : Prop :=
  match t with
  | 54 => v = (.slice Am nm cpm)
  | 55 => v = (.int .i64 cs)
  | 56 => v = (.pointer (some ⟨gc, 0, none⟩))
  | 57 => v = (.int .i64 cs)
  | 58 => v = .bool true
  | 59 => v = .bool true
  | 60 => v = (.pointer (some ⟨gc, 0, none⟩))
  | 61 => v = (.int .i64 cs)
  | 62 => v = (.slice A n c)
  | 63 => v = (.int .i64 LL)
  | 64 => v = .bool true
  | 65 => v = .bool true
  | 66 => v = .bool true
  | 67 => v = (.slice (some as7) 1 c7)
  | 68 => v = (.int .i64 1)
  | 69 => v = .bool true
  | 70 => v = .bool true
  | 71 => v = .bool true
  | 72 => v = (.slice (some as7) 1 c7)
  | 73 => v = (.pointer (some as7))
  | 74 => v = (.agg #[.int .i64 cs, .string ck, .bool cm, .string cb, .bool cd, .string ca])
  | 75 => v = (.agg #[.int .i64 cs, .string ck, .bool cm, .string cb, .bool cd, .string ca])
  | 76 => v = .bool true
  | 77 => v = .bool true
  | 78 => v = .bool true
  | 79 => v = .bool true
  | 80 => v = .bool true
  | 4 => v = .bool true
  | _ => True
theorem LaE.on {A Am : Option Addr} {n c nm cpm gc c7 : Nat} {as7 : Addr} {cs LL : Int} {ck : ByteArray} {cm : Bool} {cb : ByteArray} {cd : Bool} {ca : ByteArray} {p t : Nat} {v : Value} {w w' : World} (h : LaE A Am n c nm cpm gc c7 as7 cs LL ck cm cb cd ca p t v w) (hb : Below w.heap.size w w') : LaE A Am n c nm cpm gc c7 as7 cs LL ck cm cb cd ca p t v w' := by
  unfold LaE at *
  split at h <;> first | exact h


set_option maxRecDepth 100000 in
set_option maxHeartbeats 8000000 in
theorem last_walk (v : Value) (l : List Ch) (x : Ch) (w : World) (hv : CV w v l) (hn : l.length ≤ maxLen) :
    Calls Try.prog 8 #[v, x.v] w fun e w' => e = .returned (.bool true) ∧ Below w.heap.size w w' := by
  obtain ⟨cs, ck, cm, cb, cd, ca⟩ := x
  show Calls Try.prog 8 #[v, .agg #[.int .i64 cs, .string ck, .bool cm, .string cb, .bool cd, .string ca]] w _
  obtain ⟨A, n, c, rfl, hnl⟩ : ∃ A n c, v = .slice A n c ∧ l.length = n := by obtain ⟨A, c, e, _⟩ := hv; exact ⟨A, _, c, e, rfl⟩
  obtain ⟨gc, hgc⟩ : ∃ g, g = w.heap.size := ⟨_, rfl⟩
  obtain ⟨w1, hw1⟩ : ∃ q, q = w.alloc (.cells #[.int .i64 cs, .string ck, .bool cm, .string cb, .bool cd, .string ca] 30) := ⟨_, rfl⟩
  have hb0 : Below w.heap.size w w1 := by rw [hw1]; exact (Below.refl _ _).alloc (Nat.le_refl _) _
  have BC1 := Lib.hid (show Box w1 gc 30 #[.int .i64 cs, .string ck, .bool cm, .string cb, .bool cd, .string ca] from by rw [hw1]; exact Box.at_ w _ _ hgc)
  have HLN := Lib.hid hnl
  have HMX := Lib.hid hn
  have VL1 := Lib.hid (hv.on hb0)
  have HB1 := Lib.hid hb0
  clear hv hn hnl hb0
  go_enter Try.func8, Try.ntmps8
  go_upto_region 1 with fail
  rw [← hgc, ← hw1]
  clear hgc hw1
  go_wp2_with fail
  refine (few_v VL1.out).mono ?_
  rintro e w2 ⟨R1, rfl, h1, hb⟩
  have HB2 := Lib.hid (HB1.out.trans (hb.mono HB1.out.size))
  have VL2 := Lib.hid (VL1.out.on hb)
  have BC2 := Lib.hid (BC1.out.on hb)
  clear hb HB1 VL1 BC1 
  have H1 := Lib.hid h1
  clear h1
  cases R1 with
  | false =>
    go_wp2_with fail
    refine (awake_true _).mono ?_
    rintro e w3 ⟨rfl, hb⟩
    have HB3 := Lib.hid (HB2.out.trans (hb.mono HB2.out.size))
    clear hb HB2 
    go_wp2
    go_ret
    exact ⟨rfl, HB3.out⟩
  | true =>
    have HL := Lib.hid (H1.out (by simp)).1
    clear H1
    obtain ⟨R, hR⟩ : ∃ R, trailB l = R := ⟨_, rfl⟩
    have hk := right_v VL2.out HMX.out
    rw [hR] at hk
    go_wp2_with fail
    refine (hk).mono ?_
    rintro e w4 ⟨rfl, hb⟩
    have HB4 := Lib.hid (HB2.out.trans (hb.mono HB2.out.size))
    have VL4 := Lib.hid (VL2.out.on hb)
    have BC4 := Lib.hid (BC2.out.on hb)
    clear hb HB2 VL2 BC2 hk
    cases R with
    | false =>
      go_wp2_with fail
      refine (awake_true _).mono ?_
      rintro e w5 ⟨rfl, hb⟩
      have HB5 := Lib.hid (HB4.out.trans (hb.mono HB4.out.size))
      clear hb HB4 
      go_wp2
      go_ret
      exact ⟨rfl, HB5.out⟩
    | true =>
      have HT := Lib.hid (trail_t.1 hR)
      clear hR
      obtain ⟨z0, z1, z2, z3, z4, z5⟩ := (⟨Box.cell BC4.out 0 rfl, Box.cell BC4.out 1 rfl, Box.cell BC4.out 2 rfl, Box.cell BC4.out 3 rfl, Box.cell BC4.out 4 rfl, Box.cell BC4.out 5 rfl⟩ : _ ∧ _ ∧ _ ∧ _ ∧ _ ∧ _)
      obtain ⟨wq, hwq⟩ : ∃ q, q = w4.alloc (.cells #[.int .i64 cs, .string ck, .bool cm, .string cb, .bool cd, .string ca] 30) := ⟨_, rfl⟩
      obtain ⟨gq, hgq⟩ : ∃ q, q = w4.heap.size := ⟨_, rfl⟩
      have hb : Below w4.heap.size w4 wq := by rw [hwq]; exact (Below.refl _ _).alloc (Nat.le_refl _) _
      have VRq := Lib.hid (show CV wq (.slice (some ⟨gq, 0, none⟩) 1 1) [⟨cs, ck, cm, cb, cd, ca⟩] from by rw [hwq]; exact CV.lit hgq rfl rfl)
      have HBq := Lib.hid (HB4.out.trans (hb.mono HB4.out.size))
      have VLq := Lib.hid (VL4.out.on hb)
      have BCq := Lib.hid (BC4.out.on hb)
      clear hb HB4 VL4 BC4 
      have hk := few_v VRq.out
      go_wp2_with fail
      rw [← hgq, ← hwq]
      clear hgq hwq z0 z1 z2 z3 z4 z5
      refine hk.mono ?_
      clear hk
      rintro e w6 ⟨R3, rfl, _, hb⟩
      have HB6 := Lib.hid (HBq.out.trans (hb.mono HBq.out.size))
      have VL6 := Lib.hid (VLq.out.on hb)
      have BC6 := Lib.hid (BCq.out.on hb)
      have VR6 := Lib.hid (VRq.out.on hb)
      clear hb HBq VLq BCq VRq 
      clear VR6
      cases R3 with
      | false =>
        go_wp2_with fail
        refine (awake_true _).mono ?_
        rintro e w7 ⟨rfl, hb⟩
        have HB7 := Lib.hid (HB6.out.trans (hb.mono HB6.out.size))
        clear hb HB6 
        go_wp2
        go_ret
        exact ⟨rfl, HB7.out⟩
      | true =>
        go_upto_region 3 with fail
        obtain ⟨bs, hbs⟩ : ∃ bs, bs = w6.heap.size := ⟨_, rfl⟩
        have Hbs := Lib.hid hbs
        clear hbs
        refine wp_region_phase 20 [22, 23, 24, 25, 26, 27, 5] (by kernel_rfl) [2, 5] [] (fun _ _ => True) 2 rfl (by kernel_rfl) ((fun _ wx => Below w6.heap.size w6 wx)) (fun wa wb => Below wa.heap.size wa wb) (LaM A n c bs cs ck cm cb cd ca l) (by kernel_rfl) (fun _ wa wb h1 h2 => h2.trans (h1.mono h2.size)) (fun _ t v wa wb h1 h2 => h2.on h1) (fun _ _ _ _ _ _ _ => trivial) (Below.refl _ _).drew trivial (phase2 ?_ ?_ ?_) ?_
        · refine Steps1.cons (fun _ ax wx hS _ hG => ?_) (Steps1.cons (fun _ ax wx hS _ hG => ?_) (Steps1.cons (fun _ ax wx hS _ hG => ?_) (Steps1.cons (fun _ ax wx hS _ hG => ?_) (Steps1.cons (fun _ ax wx hS _ hG => ?_) (Steps1.cons (fun hin _ _ _ _ _ => out (by kernel_rfl) hin) (Steps1.cons (fun hin _ _ _ _ _ => out (by kernel_rfl) hin) Steps1.nil))))))
          · refine step_slot rfl rfl rfl (step_value (v := .slice (some ⟨wx.heap.size, 0, none⟩) 0 0) (w' := wx.alloc (.cells #[] 30)) rfl rfl ?_ ((Below.refl _ _).alloc (Nat.le_refl _) _) (fun d hd => by cases hd; exact fun _ => ⟨_, rfl, World.ownsRow_made wx #[] 0 (by rw [Hbs.out]; exact hS.size) (Nat.zero_le _) rfl⟩))
            go_simp
          · have q0 := hG.old 0 (by kernel_rfl) (by kernel_rfl)
            refine step_slot rfl rfl rfl (step_value (v := (.slice A n c)) (w' := wx) rfl rfl ?_ (Below.refl _ _) (fun d hd => by cases hd; exact rfl))
            go_simp
          · obtain ⟨v22, q22, h22⟩ := hG.new 22 (by kernel_rfl) (by kernel_rfl)
            have p22 : 0 = 0 → ∃ g, v22 = .slice (some ⟨g, 0, none⟩) 0 0 ∧ World.ownsRow wx bs 30 6 v22 0 [] := h22
            obtain ⟨_, q23, rfl⟩ := hG.new 23 (by kernel_rfl) (by kernel_rfl)
            obtain ⟨g9, rfl, hown⟩ := p22 rfl
            have hcv := VL6.out.on hS
            obtain ⟨v2, w2, hr, hown2, hg, _⟩ := run_app_cv wx bs _ 0 [] hown hcv (by have := HL.out; omega) (by rw [Hbs.out]; exact hS.size)
            have hS2 : Below _ _ w2 := hS.grown hg hS.size (fun k hk => by have h1 := (own_lt hown hk).1; rw [Hbs.out] at h1; exact h1)
            refine step_marked (v := v2) (w' := w2) rfl rfl rfl rfl ?_ hS2 trivial ?_ ?_
            · have e1 : ax.eval (.tmp 22) = .slice (some ⟨g9, 0, none⟩) 0 0 := by simp [Act.eval, q22]
              have e2 : ax.eval (.tmp 23) = .slice A n c := by simp [Act.eval, q23]
              unfold execOp
              simp only [resolve, invoke, builtin, Sem.run_bind, Sem.run_pure, Result.andThen_ok, List.map_toArray, List.map_cons, List.map_nil, e1, e2, hr]
            · exact fun _ => (by have h := hown2; rw [Nat.zero_add, List.nil_append, HLN.out] at h; exact h)
            · intro t u _ ht hu hV
              unfold LaM at hV ⊢
              split at hV <;> first | exact absurd rfl ht | trivial | exact fun h => absurd h (by decide) | exact hV | exact absurd hV.1 (by decide) | exact fun _ => (let ⟨h, e, hb⟩ := hV (by decide); ⟨h, e, hb.grown hg (own_zero hown hb (by simp [Ch.cells]))⟩)
          · have q3 := hG.old 3 (by kernel_rfl) (by kernel_rfl)
            obtain ⟨z0, z1, z2, z3, z4, z5⟩ := (⟨Box.cell (BC6.out.on hS) 0 rfl, Box.cell (BC6.out.on hS) 1 rfl, Box.cell (BC6.out.on hS) 2 rfl, Box.cell (BC6.out.on hS) 3 rfl, Box.cell (BC6.out.on hS) 4 rfl, Box.cell (BC6.out.on hS) 5 rfl⟩ : _ ∧ _ ∧ _ ∧ _ ∧ _ ∧ _)
            refine step_slot rfl rfl rfl (step_value (v := (.agg #[.int .i64 cs, .string ck, .bool cm, .string cb, .bool cd, .string ca])) (w' := wx) rfl rfl ?_ (Below.refl _ _) (fun d hd => by cases hd; exact rfl))
            go_simp
          · obtain ⟨_, q25, rfl⟩ := hG.new 25 (by kernel_rfl) (by kernel_rfl)
            refine step_slot rfl rfl rfl (step_value (v := .slice (some ⟨wx.heap.size, 0, none⟩) 1 1) (w' := wx.alloc (.cells #[.int .i64 cs, .string ck, .bool cm, .string cb, .bool cd, .string ca] 30)) rfl rfl ?_ ((Below.refl _ _).alloc (Nat.le_refl _) _) (fun d hd => by cases hd; exact fun _ => ⟨_, rfl, Box.fresh _ _ _⟩))
            go_simp
        · refine Steps1.cons (fun hin _ _ _ _ _ => out (by kernel_rfl) hin) (Steps1.cons (fun hin _ _ _ _ _ => out (by kernel_rfl) hin) (Steps1.cons (fun hin _ _ _ _ _ => out (by kernel_rfl) hin) (Steps1.cons (fun _ ax wx hS _ hG => ?_) (Steps1.cons (fun _ ax wx hS _ hG => ?_) (Steps1.cons (fun _ ax wx hS _ hG => ?_) (Steps1.cons (fun hin _ _ _ _ _ => out (by kernel_rfl) hin) Steps1.nil))))))
          · have q3 := hG.old 3 (by kernel_rfl) (by kernel_rfl)
            obtain ⟨z0, z1, z2, z3, z4, z5⟩ := (⟨Box.cell (BC6.out.on hS) 0 rfl, Box.cell (BC6.out.on hS) 1 rfl, Box.cell (BC6.out.on hS) 2 rfl, Box.cell (BC6.out.on hS) 3 rfl, Box.cell (BC6.out.on hS) 4 rfl, Box.cell (BC6.out.on hS) 5 rfl⟩ : _ ∧ _ ∧ _ ∧ _ ∧ _ ∧ _)
            refine step_slot rfl rfl rfl (step_value (v := (.agg #[.int .i64 cs, .string ck, .bool cm, .string cb, .bool cd, .string ca])) (w' := wx) rfl rfl ?_ (Below.refl _ _) (fun d hd => by cases hd; exact rfl))
            go_simp
          · obtain ⟨_, q25, rfl⟩ := hG.new 25 (by kernel_rfl) (by kernel_rfl)
            refine step_slot rfl rfl rfl (step_value (v := .slice (some ⟨wx.heap.size, 0, none⟩) 1 1) (w' := wx.alloc (.cells #[.int .i64 cs, .string ck, .bool cm, .string cb, .bool cd, .string ca] 30)) rfl rfl ?_ ((Below.refl _ _).alloc (Nat.le_refl _) _) (fun d hd => by cases hd; exact fun _ => ⟨_, rfl, Box.fresh _ _ _⟩))
            go_simp
          · obtain ⟨v24, q24, h24⟩ := hG.new 24 (by kernel_rfl) (by kernel_rfl)
            have p24 : 1 = 1 → World.ownsRow wx bs 30 6 v24 n (l.flatMap Ch.cells) := h24
            obtain ⟨v26, q26, h26⟩ := hG.new 26 (by kernel_rfl) (by kernel_rfl)
            have p26 : 1 ≤ 1 → ∃ h, v26 = .slice (some ⟨h, 0, none⟩) 1 1 ∧ Box wx h 30 (⟨cs, ck, cm, cb, cd, ca⟩ : Ch).cells.toArray := h26
            obtain ⟨h9, rfl, hbx⟩ := p26 (Nat.le_refl _)
            have hown := p24 rfl
            have hcv : CV wx _ [(⟨cs, ck, cm, cb, cd, ca⟩ : Ch)] := cv_box hbx rfl
            obtain ⟨v2, w2, hr, hown2, hg, _⟩ := run_app_cv wx bs _ n _ hown hcv (by have := HL.out; have := HLN.out; simp; omega) (by rw [Hbs.out]; exact hS.size)
            have hS2 : Below _ _ w2 := hS.grown hg hS.size (fun k hk => by have h1 := (own_lt hown hk).1; rw [Hbs.out] at h1; exact h1)
            refine step_marked (v := v2) (w' := w2) rfl rfl rfl rfl ?_ hS2 trivial ?_ ?_
            · have e1 : ax.eval (.tmp 24) = v24 := by simp [Act.eval, q24]
              have e2 : ax.eval (.tmp 26) = .slice (some ⟨h9, 0, none⟩) 1 1 := by simp [Act.eval, q26]
              unfold execOp
              simp only [resolve, invoke, builtin, Sem.run_bind, Sem.run_pure, Result.andThen_ok, List.map_toArray, List.map_cons, List.map_nil, e1, e2, hr]
            · exact fun _ => CV.own (n := n + 1) (by rw [List.flatMap_append]; exact hown2) (by rw [List.length_append, HLN.out]; rfl)
            · intro t u _ ht hu hV
              unfold LaM at hV ⊢
              split at hV <;> first | exact absurd rfl ht | trivial | exact fun h => absurd h (by decide) | exact hV | exact absurd hV.1 (by decide) | exact fun h => absurd h (by decide)
        · refine Steps1.cons (fun hin _ _ _ _ _ => out (by kernel_rfl) hin) (Steps1.cons (fun hin _ _ _ _ _ => out (by kernel_rfl) hin) (Steps1.cons (fun hin _ _ _ _ _ => out (by kernel_rfl) hin) (Steps1.cons (fun hin _ _ _ _ _ => out (by kernel_rfl) hin) (Steps1.cons (fun hin _ _ _ _ _ => out (by kernel_rfl) hin) (Steps1.cons (fun hin _ _ _ _ _ => out (by kernel_rfl) hin) (Steps1.cons (fun _ ax wx hS _ hG => ?_) Steps1.nil))))))
          · obtain ⟨v27, q27, h27⟩ := hG.new 27 (by kernel_rfl) (by kernel_rfl)
            have p27 : 2 = 2 → CV wx v27 (l ++ [(⟨cs, ck, cm, cb, cd, ca⟩ : Ch)]) := h27
            refine step_slot rfl rfl rfl (step_value (v := v27) (w' := wx) rfl rfl ?_ (Below.refl _ _) (fun d hd => by cases hd; exact ⟨by decide, p27 rfl⟩))
            clear h27 p27
            go_simp
        intro fv w8 hb _ hV8
        have e5 : 2 ≤ 2 ∧ CV w8 (fv 5) (l ++ [(⟨cs, ck, cm, cb, cd, ca⟩ : Ch)]) := hV8 5 (by decide)
        simp only [puts, Act.put, List.setIfInBounds_toArray, List.set_cons_succ, List.set_cons_zero]
        clear hV8
        obtain ⟨_, h24⟩ := e5
        generalize fv 5 = vm at *
        obtain ⟨Am, nm, cpm, rfl⟩ : ∃ A n c, vm = .slice A n c := by obtain ⟨A, c, e, _⟩ := h24; exact ⟨A, _, c, e⟩
        have VM8 := Lib.hid h24
        clear h24
        replace hb : Below w6.heap.size w6 w8 := hb
        have HB8 := Lib.hid (HB6.out.trans (hb.mono HB6.out.size))
        have VL8 := Lib.hid (VL6.out.on hb)
        have BC8 := Lib.hid (BC6.out.on hb)
        clear hb HB6 VL6 BC6 
        have HM2 := Lib.hid (show (l ++ [(⟨cs, ck, cm, cb, cd, ca⟩ : Ch)]).length ≤ 1000 from by rw [List.length_append]; have := HL.out; simp; omega)
        obtain ⟨M, hM⟩ : ∃ M, trailB (l ++ [(⟨cs, ck, cm, cb, cd, ca⟩ : Ch)]) = M := ⟨_, rfl⟩
        obtain ⟨LL, hLL⟩ : ∃ LL, lastL l = LL := ⟨_, rfl⟩
        have hk := right_v VM8.out (by have := HM2.out; unfold maxLen; omega)
        rw [hM] at hk
        go_wp2_with fail
        refine (hk).mono ?_
        rintro e w9 ⟨rfl, hb⟩
        have HB9 := Lib.hid (HB8.out.trans (hb.mono HB8.out.size))
        have VL9 := Lib.hid (VL8.out.on hb)
        have BC9 := Lib.hid (BC8.out.on hb)
        have VM9 := Lib.hid (VM8.out.on hb)
        clear hb HB8 VL8 BC8 VM8 hk
        have hll := fun wx (h : CV wx (.slice A n c) l) => last_v h HMX.out
        rw [hLL] at hll
        have HLL := Lib.hid hll
        clear hll
        cases M with
        | false =>
          obtain ⟨s1, s2⟩ := snoc_not HT.out hM
          rw [hLL] at s1
          have hl2 := fun wx (h : CV wx (.slice Am nm cpm) (l ++ [(⟨cs, ck, cm, cb, cd, ca⟩ : Ch)])) => last_v h (by have := HM2.out; unfold maxLen; omega)
          rw [s2] at hl2
          have HL2 := Lib.hid hl2
          clear hl2 s2 hM hLL
          cases hD : decide (cs ≤ LL) with
          | true =>
            have HD := Lib.hid hD
            clear hD s1
            go_upto_region 5 with fail
            refine wp_region_phase 24 [31, 32, 33, 34, 35, 36, 37, 38, 39, 40, 41, 42, 43, 44, 45, 46, 47, 48, 49, 4] (by kernel_rfl) [] [] (fun _ _ => True) 0 rfl (by kernel_rfl) (SP (fun wx => Below w9.heap.size w9 wx) (fun _ => True) (fun _ => True)) (fun wa wb => Below wa.heap.size wa wb) (LaT A Am n c nm cpm gc cs LL ck cm cb cd ca) (by kernel_rfl) (SP.on below_grow (fun _ _ _ _ => trivial) (fun _ _ _ _ => trivial)) (fun _ t v wa wb h1 h2 => h2.on h1) (fun _ _ _ _ _ _ _ => trivial) (Below.refl _ _).drew trivial (phase0 ?_) ?_
            · refine Steps1.cons (fun _ ax wx hS _ hG => ?_) (Steps1.cons (fun _ ax wx hS _ hG => ?_) (Steps1.cons (fun _ ax wx hS _ hG => ?_) (Steps1.cons (fun _ ax wx hS _ hG => ?_) (Steps1.cons (fun _ ax wx hS _ hG => ?_) (Steps1.cons (fun _ ax wx hS _ hG => ?_) (Steps1.cons (fun _ ax wx hS _ hG => ?_) (Steps1.cons (fun _ ax wx hS _ hG => ?_) (Steps1.cons (fun _ ax wx hS _ hG => ?_) (Steps1.cons (fun _ ax wx hS _ hG => ?_) (Steps1.cons (fun _ ax wx hS _ hG => ?_) (Steps1.cons (fun _ ax wx hS _ hG => ?_) (Steps1.cons (fun _ ax wx hS _ hG => ?_) (Steps1.cons (fun _ ax wx hS _ hG => ?_) (Steps1.cons (fun _ ax wx hS _ hG => ?_) (Steps1.cons (fun _ ax wx hS _ hG => ?_) (Steps1.cons (fun _ ax wx hS _ hG => ?_) (Steps1.cons (fun _ ax wx hS _ hG => ?_) (Steps1.cons (fun _ ax wx hS _ hG => ?_) (Steps1.cons (fun _ ax wx hS _ hG => ?_) Steps1.nil)))))))))))))))))))
              · have q3 := hG.old 3 (by kernel_rfl) (by kernel_rfl)
                refine step_slot rfl rfl rfl (step_value (v := (.pointer (some ⟨gc, 0, none⟩))) (w' := wx) rfl rfl ?_ (Below.refl _ _) (fun d hd => by cases hd; exact rfl))
                go_simp
              · obtain ⟨_, q31, rfl⟩ := hG.new 31 (by kernel_rfl) (by kernel_rfl)
                have z0 := Box.cell (BC9.out.on hS) 0 rfl
                refine step_slot rfl rfl rfl (step_value (v := (.int .i64 cs)) (w' := wx) rfl rfl ?_ (Below.refl _ _) (fun d hd => by cases hd; exact rfl))
                go_simp
              · have q0 := hG.old 0 (by kernel_rfl) (by kernel_rfl)
                refine step_slot rfl rfl rfl (step_value (v := (.slice A n c)) (w' := wx) rfl rfl ?_ (Below.refl _ _) (fun d hd => by cases hd; exact rfl))
                go_simp
              · obtain ⟨_, q33, rfl⟩ := hG.new 33 (by kernel_rfl) (by kernel_rfl)
                refine step_slot rfl rfl rfl (step_call (w1 := wx) (f := 16) (args := #[(.slice A n c)]) rfl rfl ?_ ((HLL.out wx (VL9.out.on (show Below _ _ _ from hS))).mono ?_))
                · skip
                  go_simp
                · rintro e w' ⟨rfl, hq⟩
                  exact ⟨_, rfl, hq, fun d hd => by cases hd; exact rfl⟩
              · obtain ⟨_, q32, rfl⟩ := hG.new 32 (by kernel_rfl) (by kernel_rfl)
                obtain ⟨_, q34, rfl⟩ := hG.new 34 (by kernel_rfl) (by kernel_rfl)
                refine step_slot rfl rfl rfl (step_value (v := .bool true) (w' := wx) rfl rfl ?_ (Below.refl _ _) (fun d hd => by cases hd; exact rfl))
                have hD := HD.out
                go_simp
              · obtain ⟨_, q35, rfl⟩ := hG.new 35 (by kernel_rfl) (by kernel_rfl)
                refine step_slot rfl rfl rfl (step_value (v := .bool true) (w' := wx) rfl rfl ?_ (Below.refl _ _) (fun d hd => by cases hd; exact rfl))
                go_simp
              · obtain ⟨_, q36, rfl⟩ := hG.new 36 (by kernel_rfl) (by kernel_rfl)
                refine step_slot rfl rfl rfl (step_past rfl (by simp [Region.wanted, yielded, q36, undef]) (Below.refl _ _) (fun d hd => by cases hd; exact rfl))
              · obtain ⟨_, q36, rfl⟩ := hG.new 36 (by kernel_rfl) (by kernel_rfl)
                refine step_slot rfl rfl rfl (step_past rfl (by simp [Region.wanted, yielded, q36, undef]) (Below.refl _ _) (fun d hd => by cases hd; exact rfl))
              · obtain ⟨_, q36, rfl⟩ := hG.new 36 (by kernel_rfl) (by kernel_rfl)
                refine step_slot rfl rfl rfl (step_past rfl (by simp [Region.wanted, yielded, q36, undef]) (Below.refl _ _) (fun d hd => by cases hd; exact rfl))
              · obtain ⟨_, q36, rfl⟩ := hG.new 36 (by kernel_rfl) (by kernel_rfl)
                refine step_slot rfl rfl rfl (step_past rfl (by simp [Region.wanted, yielded, q36, undef]) (Below.refl _ _) (fun d hd => by cases hd; exact rfl))
              · obtain ⟨_, q36, rfl⟩ := hG.new 36 (by kernel_rfl) (by kernel_rfl)
                obtain ⟨_, q40, rfl⟩ := hG.new 40 (by kernel_rfl) (by kernel_rfl)
                refine step_slot rfl rfl rfl (step_value (v := .bool true) (w' := wx) rfl rfl ?_ (Below.refl _ _) (fun d hd => by cases hd; exact rfl))
                go_simp
              · obtain ⟨_, q41, rfl⟩ := hG.new 41 (by kernel_rfl) (by kernel_rfl)
                refine step_slot rfl rfl rfl (step_value (v := .bool true) (w' := wx) rfl rfl ?_ (Below.refl _ _) (fun d hd => by cases hd; exact rfl))
                go_simp
              · obtain ⟨_, q42, rfl⟩ := hG.new 42 (by kernel_rfl) (by kernel_rfl)
                have q5 := hG.old 5 (by kernel_rfl) (by kernel_rfl)
                refine step_slot rfl rfl rfl (step_value (v := (.slice Am nm cpm)) (w' := wx) rfl (by simp [Region.wanted, yielded, q42, undef]) ?_ (Below.refl _ _) (fun d hd => by cases hd; exact rfl))
                go_simp
              · obtain ⟨_, q42, rfl⟩ := hG.new 42 (by kernel_rfl) (by kernel_rfl)
                obtain ⟨_, q43, rfl⟩ := hG.new 43 (by kernel_rfl) (by kernel_rfl)
                refine step_slot rfl rfl rfl (step_call (w1 := wx) (f := 16) (args := #[(.slice Am nm cpm)]) rfl (by simp [Region.wanted, yielded, q42, undef]) ?_ ((HL2.out wx (VM9.out.on (show Below _ _ _ from hS))).mono ?_))
                · skip
                  go_simp
                · rintro e w' ⟨rfl, hq⟩
                  exact ⟨_, rfl, hq, fun d hd => by cases hd; exact rfl⟩
              · obtain ⟨_, q42, rfl⟩ := hG.new 42 (by kernel_rfl) (by kernel_rfl)
                obtain ⟨_, q44, rfl⟩ := hG.new 44 (by kernel_rfl) (by kernel_rfl)
                refine step_slot rfl rfl rfl (step_value (v := .bool true) (w' := wx) rfl (by simp [Region.wanted, yielded, q42, undef]) ?_ (Below.refl _ _) (fun d hd => by cases hd; exact rfl))
                go_simp
              · obtain ⟨_, q42, rfl⟩ := hG.new 42 (by kernel_rfl) (by kernel_rfl)
                obtain ⟨_, q45, rfl⟩ := hG.new 45 (by kernel_rfl) (by kernel_rfl)
                refine step_slot rfl rfl rfl (step_value (v := .bool true) (w' := wx) rfl rfl ?_ (Below.refl _ _) (fun d hd => by cases hd; exact rfl))
                go_simp
              · obtain ⟨_, q46, rfl⟩ := hG.new 46 (by kernel_rfl) (by kernel_rfl)
                refine step_slot rfl rfl rfl (step_value (v := .bool true) (w' := wx) rfl rfl ?_ (Below.refl _ _) (fun d hd => by cases hd; exact rfl))
                go_simp
              · obtain ⟨_, q47, rfl⟩ := hG.new 47 (by kernel_rfl) (by kernel_rfl)
                refine step_slot rfl rfl rfl (step_call (w1 := wx) (f := 10) (args := #[]) rfl (by simp [Region.wanted, yielded, q47, undef]) ?_ ((awake_true wx).mono ?_))
                · skip
                  go_simp
                · rintro e w' ⟨rfl, hq⟩
                  exact ⟨_, rfl, hq, fun d hd => by cases hd; exact rfl⟩
              · obtain ⟨_, q47, rfl⟩ := hG.new 47 (by kernel_rfl) (by kernel_rfl)
                obtain ⟨_, q48, rfl⟩ := hG.new 48 (by kernel_rfl) (by kernel_rfl)
                refine step_slot rfl rfl rfl (step_value (v := .bool true) (w' := wx) rfl rfl ?_ (Below.refl _ _) (fun d hd => by cases hd; exact rfl))
                go_simp
              · obtain ⟨_, q49, rfl⟩ := hG.new 49 (by kernel_rfl) (by kernel_rfl)
                refine step_slot rfl rfl rfl (step_value (v := .bool true) (w' := wx) rfl rfl ?_ (Below.refl _ _) (fun d hd => by cases hd; exact rfl))
                go_simp
            intro fv w8 hS8 _ hV8
            have e4 : fv 4 = .bool true := hV8 4 (by decide)
            simp only [puts, Act.put, List.setIfInBounds_toArray, List.set_cons_succ, List.set_cons_zero]
            clear hV8
            rw [e4]
            have HB8 := Lib.hid (HB9.out.trans ((show Below _ _ _ from hS8).mono HB9.out.size))
            clear hS8
            go_wp2
            go_ret
            exact ⟨rfl, HB8.out⟩
          | false =>
            have HD := Lib.hid hD
            have h1c : trailB [(⟨cs, ck, cm, cb, cd, ca⟩ : Ch)] = false := by rw [hD] at s1; simpa using s1
            have hr1 := fun wx u (h : CV wx u [(⟨cs, ck, cm, cb, cd, ca⟩ : Ch)]) => right_v h (by simp [maxLen])
            rw [h1c] at hr1
            have HR1 := Lib.hid hr1
            clear hr1 h1c
            clear hD s1
            go_upto_region 5 with fail
            refine wp_region_phase 24 [31, 32, 33, 34, 35, 36, 37, 38, 39, 40, 41, 42, 43, 44, 45, 46, 47, 48, 49, 4] (by kernel_rfl) [] [] (fun _ _ => True) 0 rfl (by kernel_rfl) (SP (fun wx => Below w9.heap.size w9 wx) (fun _ => True) (fun _ => True)) (fun wa wb => Below wa.heap.size wa wb) (LaF A Am n c nm cpm gc cs LL ck cm cb cd ca) (by kernel_rfl) (SP.on below_grow (fun _ _ _ _ => trivial) (fun _ _ _ _ => trivial)) (fun _ t v wa wb h1 h2 => h2.on h1) (fun _ _ _ _ _ _ _ => trivial) (Below.refl _ _).drew trivial (phase0 ?_) ?_
            · refine Steps1.cons (fun _ ax wx hS _ hG => ?_) (Steps1.cons (fun _ ax wx hS _ hG => ?_) (Steps1.cons (fun _ ax wx hS _ hG => ?_) (Steps1.cons (fun _ ax wx hS _ hG => ?_) (Steps1.cons (fun _ ax wx hS _ hG => ?_) (Steps1.cons (fun _ ax wx hS _ hG => ?_) (Steps1.cons (fun _ ax wx hS _ hG => ?_) (Steps1.cons (fun _ ax wx hS _ hG => ?_) (Steps1.cons (fun _ ax wx hS _ hG => ?_) (Steps1.cons (fun _ ax wx hS _ hG => ?_) (Steps1.cons (fun _ ax wx hS _ hG => ?_) (Steps1.cons (fun _ ax wx hS _ hG => ?_) (Steps1.cons (fun _ ax wx hS _ hG => ?_) (Steps1.cons (fun _ ax wx hS _ hG => ?_) (Steps1.cons (fun _ ax wx hS _ hG => ?_) (Steps1.cons (fun _ ax wx hS _ hG => ?_) (Steps1.cons (fun _ ax wx hS _ hG => ?_) (Steps1.cons (fun _ ax wx hS _ hG => ?_) (Steps1.cons (fun _ ax wx hS _ hG => ?_) (Steps1.cons (fun _ ax wx hS _ hG => ?_) Steps1.nil)))))))))))))))))))
              · have q3 := hG.old 3 (by kernel_rfl) (by kernel_rfl)
                refine step_slot rfl rfl rfl (step_value (v := (.pointer (some ⟨gc, 0, none⟩))) (w' := wx) rfl rfl ?_ (Below.refl _ _) (fun d hd => by cases hd; exact rfl))
                go_simp
              · obtain ⟨_, q31, rfl⟩ := hG.new 31 (by kernel_rfl) (by kernel_rfl)
                have z0 := Box.cell (BC9.out.on hS) 0 rfl
                refine step_slot rfl rfl rfl (step_value (v := (.int .i64 cs)) (w' := wx) rfl rfl ?_ (Below.refl _ _) (fun d hd => by cases hd; exact rfl))
                go_simp
              · have q0 := hG.old 0 (by kernel_rfl) (by kernel_rfl)
                refine step_slot rfl rfl rfl (step_value (v := (.slice A n c)) (w' := wx) rfl rfl ?_ (Below.refl _ _) (fun d hd => by cases hd; exact rfl))
                go_simp
              · obtain ⟨_, q33, rfl⟩ := hG.new 33 (by kernel_rfl) (by kernel_rfl)
                refine step_slot rfl rfl rfl (step_call (w1 := wx) (f := 16) (args := #[(.slice A n c)]) rfl rfl ?_ ((HLL.out wx (VL9.out.on (show Below _ _ _ from hS))).mono ?_))
                · skip
                  go_simp
                · rintro e w' ⟨rfl, hq⟩
                  exact ⟨_, rfl, hq, fun d hd => by cases hd; exact rfl⟩
              · obtain ⟨_, q32, rfl⟩ := hG.new 32 (by kernel_rfl) (by kernel_rfl)
                obtain ⟨_, q34, rfl⟩ := hG.new 34 (by kernel_rfl) (by kernel_rfl)
                refine step_slot rfl rfl rfl (step_value (v := .bool false) (w' := wx) rfl rfl ?_ (Below.refl _ _) (fun d hd => by cases hd; exact rfl))
                have hD := HD.out
                go_simp
              · obtain ⟨_, q35, rfl⟩ := hG.new 35 (by kernel_rfl) (by kernel_rfl)
                refine step_slot rfl rfl rfl (step_value (v := .bool false) (w' := wx) rfl rfl ?_ (Below.refl _ _) (fun d hd => by cases hd; exact rfl))
                go_simp
              · obtain ⟨_, q36, rfl⟩ := hG.new 36 (by kernel_rfl) (by kernel_rfl)
                have q3 := hG.old 3 (by kernel_rfl) (by kernel_rfl)
                obtain ⟨z0, z1, z2, z3, z4, z5⟩ := (⟨Box.cell (BC9.out.on hS) 0 rfl, Box.cell (BC9.out.on hS) 1 rfl, Box.cell (BC9.out.on hS) 2 rfl, Box.cell (BC9.out.on hS) 3 rfl, Box.cell (BC9.out.on hS) 4 rfl, Box.cell (BC9.out.on hS) 5 rfl⟩ : _ ∧ _ ∧ _ ∧ _ ∧ _ ∧ _)
                refine step_slot rfl rfl rfl (step_value (v := (.agg #[.int .i64 cs, .string ck, .bool cm, .string cb, .bool cd, .string ca])) (w' := wx) rfl (by simp [Region.wanted, yielded, q36, undef]) ?_ (Below.refl _ _) (fun d hd => by cases hd; exact rfl))
                go_simp
              · obtain ⟨_, q36, rfl⟩ := hG.new 36 (by kernel_rfl) (by kernel_rfl)
                obtain ⟨_, q37, rfl⟩ := hG.new 37 (by kernel_rfl) (by kernel_rfl)
                refine step_slot rfl rfl rfl (step_value (v := .slice (some ⟨wx.heap.size, 0, none⟩) 1 1) (w' := wx.alloc (.cells #[.int .i64 cs, .string ck, .bool cm, .string cb, .bool cd, .string ca] 30)) rfl (by simp [Region.wanted, yielded, q36, undef]) ?_ ((Below.refl _ _).alloc (Nat.le_refl _) _) (fun d hd => by cases hd; exact ⟨_, rfl, Box.fresh _ _ _⟩))
                go_simp
              · obtain ⟨_, q36, rfl⟩ := hG.new 36 (by kernel_rfl) (by kernel_rfl)
                obtain ⟨v38, q38, h38⟩ := hG.new 38 (by kernel_rfl) (by kernel_rfl)
                have p38 : ∃ h, v38 = .slice (some ⟨h, 0, none⟩) 1 1 ∧ Box wx h 30 (⟨cs, ck, cm, cb, cd, ca⟩ : Ch).cells.toArray := h38
                obtain ⟨h9, rfl, hbx⟩ := p38
                refine step_slot rfl rfl rfl (step_call (w1 := wx) (f := 15) (args := #[.slice (some ⟨h9, 0, none⟩) 1 1]) rfl (by simp [Region.wanted, yielded, q36, undef]) ?_ ((HR1.out wx _ (cv_box hbx rfl)).mono ?_))
                · clear h38 hbx
                  go_simp
                · rintro e w' ⟨rfl, hq⟩
                  exact ⟨_, rfl, hq, fun d hd => by cases hd; exact rfl⟩
              · obtain ⟨_, q36, rfl⟩ := hG.new 36 (by kernel_rfl) (by kernel_rfl)
                obtain ⟨_, q39, rfl⟩ := hG.new 39 (by kernel_rfl) (by kernel_rfl)
                refine step_slot rfl rfl rfl (step_value (v := .bool true) (w' := wx) rfl (by simp [Region.wanted, yielded, q36, undef]) ?_ (Below.refl _ _) (fun d hd => by cases hd; exact rfl))
                go_simp
              · obtain ⟨_, q36, rfl⟩ := hG.new 36 (by kernel_rfl) (by kernel_rfl)
                obtain ⟨_, q40, rfl⟩ := hG.new 40 (by kernel_rfl) (by kernel_rfl)
                refine step_slot rfl rfl rfl (step_value (v := .bool true) (w' := wx) rfl rfl ?_ (Below.refl _ _) (fun d hd => by cases hd; exact rfl))
                go_simp
              · obtain ⟨_, q41, rfl⟩ := hG.new 41 (by kernel_rfl) (by kernel_rfl)
                refine step_slot rfl rfl rfl (step_value (v := .bool true) (w' := wx) rfl rfl ?_ (Below.refl _ _) (fun d hd => by cases hd; exact rfl))
                go_simp
              · obtain ⟨_, q42, rfl⟩ := hG.new 42 (by kernel_rfl) (by kernel_rfl)
                have q5 := hG.old 5 (by kernel_rfl) (by kernel_rfl)
                refine step_slot rfl rfl rfl (step_value (v := (.slice Am nm cpm)) (w' := wx) rfl (by simp [Region.wanted, yielded, q42, undef]) ?_ (Below.refl _ _) (fun d hd => by cases hd; exact rfl))
                go_simp
              · obtain ⟨_, q42, rfl⟩ := hG.new 42 (by kernel_rfl) (by kernel_rfl)
                obtain ⟨_, q43, rfl⟩ := hG.new 43 (by kernel_rfl) (by kernel_rfl)
                refine step_slot rfl rfl rfl (step_call (w1 := wx) (f := 16) (args := #[(.slice Am nm cpm)]) rfl (by simp [Region.wanted, yielded, q42, undef]) ?_ ((HL2.out wx (VM9.out.on (show Below _ _ _ from hS))).mono ?_))
                · skip
                  go_simp
                · rintro e w' ⟨rfl, hq⟩
                  exact ⟨_, rfl, hq, fun d hd => by cases hd; exact rfl⟩
              · obtain ⟨_, q42, rfl⟩ := hG.new 42 (by kernel_rfl) (by kernel_rfl)
                obtain ⟨_, q44, rfl⟩ := hG.new 44 (by kernel_rfl) (by kernel_rfl)
                refine step_slot rfl rfl rfl (step_value (v := .bool true) (w' := wx) rfl (by simp [Region.wanted, yielded, q42, undef]) ?_ (Below.refl _ _) (fun d hd => by cases hd; exact rfl))
                go_simp
              · obtain ⟨_, q42, rfl⟩ := hG.new 42 (by kernel_rfl) (by kernel_rfl)
                obtain ⟨_, q45, rfl⟩ := hG.new 45 (by kernel_rfl) (by kernel_rfl)
                refine step_slot rfl rfl rfl (step_value (v := .bool true) (w' := wx) rfl rfl ?_ (Below.refl _ _) (fun d hd => by cases hd; exact rfl))
                go_simp
              · obtain ⟨_, q46, rfl⟩ := hG.new 46 (by kernel_rfl) (by kernel_rfl)
                refine step_slot rfl rfl rfl (step_value (v := .bool true) (w' := wx) rfl rfl ?_ (Below.refl _ _) (fun d hd => by cases hd; exact rfl))
                go_simp
              · obtain ⟨_, q47, rfl⟩ := hG.new 47 (by kernel_rfl) (by kernel_rfl)
                refine step_slot rfl rfl rfl (step_call (w1 := wx) (f := 10) (args := #[]) rfl (by simp [Region.wanted, yielded, q47, undef]) ?_ ((awake_true wx).mono ?_))
                · skip
                  go_simp
                · rintro e w' ⟨rfl, hq⟩
                  exact ⟨_, rfl, hq, fun d hd => by cases hd; exact rfl⟩
              · obtain ⟨_, q47, rfl⟩ := hG.new 47 (by kernel_rfl) (by kernel_rfl)
                obtain ⟨_, q48, rfl⟩ := hG.new 48 (by kernel_rfl) (by kernel_rfl)
                refine step_slot rfl rfl rfl (step_value (v := .bool true) (w' := wx) rfl rfl ?_ (Below.refl _ _) (fun d hd => by cases hd; exact rfl))
                go_simp
              · obtain ⟨_, q49, rfl⟩ := hG.new 49 (by kernel_rfl) (by kernel_rfl)
                refine step_slot rfl rfl rfl (step_value (v := .bool true) (w' := wx) rfl rfl ?_ (Below.refl _ _) (fun d hd => by cases hd; exact rfl))
                go_simp
            intro fv w8 hS8 _ hV8
            have e4 : fv 4 = .bool true := hV8 4 (by decide)
            simp only [puts, Act.put, List.setIfInBounds_toArray, List.set_cons_succ, List.set_cons_zero]
            clear hV8
            rw [e4]
            have HB8 := Lib.hid (HB9.out.trans ((show Below _ _ _ from hS8).mono HB9.out.size))
            clear hS8
            go_wp2
            go_ret
            exact ⟨rfl, HB8.out⟩
        | true =>
          obtain ⟨s1, s2, s3⟩ := snoc_is HT.out hM
          rw [hLL] at s2 s3
          have HS2 := Lib.hid s2
          have hl2 := fun wx (h : CV wx (.slice Am nm cpm) (l ++ [(⟨cs, ck, cm, cb, cd, ca⟩ : Ch)])) => last_v h (by have := HM2.out; unfold maxLen; omega)
          rw [s1] at hl2
          have HL2 := Lib.hid hl2
          clear hl2 s1 s2 hM hLL
          go_wp2_with fail
          refine (HLL.out _ VL9.out).mono ?_
          rintro e w10 ⟨rfl, hb⟩
          have HB10 := Lib.hid (HB9.out.trans (hb.mono HB9.out.size))
          have VL10 := Lib.hid (VL9.out.on hb)
          have BC10 := Lib.hid (BC9.out.on hb)
          have VM10 := Lib.hid (VM9.out.on hb)
          clear hb HB9 VL9 BC9 VM9 
          have hk := since_v LL 9 VM10.out (RgV.nil _) HM2.out (by simp [maxLen])
          rw [s3] at hk
          clear s3
          go_wp2_with fail
          refine (hk).mono ?_
          rintro e w11 ⟨vs, rfl, hp, hb⟩
          have VS11 := Lib.hid hp
          clear hp
          have HB11 := Lib.hid (HB10.out.trans (hb.mono HB10.out.size))
          have VL11 := Lib.hid (VL10.out.on hb)
          have BC11 := Lib.hid (BC10.out.on hb)
          have VM11 := Lib.hid (VM10.out.on hb)
          clear hb HB10 VL10 BC10 VM10 hk
          obtain ⟨as7, c7, rfl, hc7⟩ : ∃ ad c, vs = .slice (some ad) 1 c ∧ Chs w11 w11.heap.size (some ad) [(⟨cs, ck, cm, cb, cd, ca⟩ : Ch)] := by
            obtain ⟨A, c, rfl, h1, _⟩ := VS11.out
            obtain ⟨ad, rfl, _⟩ := h1.seeC (by simp)
            exact ⟨ad, c, rfl, h1⟩
          have HCS := Lib.hid (show ∀ wx, Below w11.heap.size w11 wx → wx.cell? as7 = some (.int .i64 cs) ∧ wx.cell? ⟨as7.block, as7.off + 1, none⟩ = some (.string ck) ∧ wx.cell? ⟨as7.block, as7.off + 2, none⟩ = some (.bool cm) ∧ wx.cell? ⟨as7.block, as7.off + 3, none⟩ = some (.string cb) ∧ wx.cell? ⟨as7.block, as7.off + 4, none⟩ = some (.bool cd) ∧ wx.cell? ⟨as7.block, as7.off + 5, none⟩ = some (.string ca) from fun wx hh => by
            obtain ⟨ad, e, _, h1⟩ := (hc7.on hh).seeC (by simp)
            injection e with e
            subst e
            have h2 := h1 0 (by simp)
            simp only [List.getElem_cons_zero, Nat.zero_mul, Addr.add_zero'] at h2
            exact h2)
          clear hc7
          go_upto_region 7 with fail
          refine wp_region_phase 34 [54, 55, 56, 57, 58, 59, 60, 61, 62, 63, 64, 65, 66, 67, 68, 69, 70, 71, 72, 73, 74, 75, 76, 77, 78, 79, 80, 4] (by kernel_rfl) [] [] (fun _ _ => True) 0 rfl (by kernel_rfl) (SP (fun wx => Below w11.heap.size w11 wx) (fun _ => True) (fun _ => True)) (fun wa wb => Below wa.heap.size wa wb) (LaE A Am n c nm cpm gc c7 as7 cs LL ck cm cb cd ca) (by kernel_rfl) (SP.on below_grow (fun _ _ _ _ => trivial) (fun _ _ _ _ => trivial)) (fun _ t v wa wb h1 h2 => h2.on h1) (fun _ _ _ _ _ _ _ => trivial) (Below.refl _ _).drew trivial (phase0 ?_) ?_
          · refine Steps1.cons (fun _ ax wx hS _ hG => ?_) (Steps1.cons (fun _ ax wx hS _ hG => ?_) (Steps1.cons (fun _ ax wx hS _ hG => ?_) (Steps1.cons (fun _ ax wx hS _ hG => ?_) (Steps1.cons (fun _ ax wx hS _ hG => ?_) (Steps1.cons (fun _ ax wx hS _ hG => ?_) (Steps1.cons (fun _ ax wx hS _ hG => ?_) (Steps1.cons (fun _ ax wx hS _ hG => ?_) (Steps1.cons (fun _ ax wx hS _ hG => ?_) (Steps1.cons (fun _ ax wx hS _ hG => ?_) (Steps1.cons (fun _ ax wx hS _ hG => ?_) (Steps1.cons (fun _ ax wx hS _ hG => ?_) (Steps1.cons (fun _ ax wx hS _ hG => ?_) (Steps1.cons (fun _ ax wx hS _ hG => ?_) (Steps1.cons (fun _ ax wx hS _ hG => ?_) (Steps1.cons (fun _ ax wx hS _ hG => ?_) (Steps1.cons (fun _ ax wx hS _ hG => ?_) (Steps1.cons (fun _ ax wx hS _ hG => ?_) (Steps1.cons (fun _ ax wx hS _ hG => ?_) (Steps1.cons (fun _ ax wx hS _ hG => ?_) (Steps1.cons (fun _ ax wx hS _ hG => ?_) (Steps1.cons (fun _ ax wx hS _ hG => ?_) (Steps1.cons (fun _ ax wx hS _ hG => ?_) (Steps1.cons (fun _ ax wx hS _ hG => ?_) (Steps1.cons (fun _ ax wx hS _ hG => ?_) (Steps1.cons (fun _ ax wx hS _ hG => ?_) (Steps1.cons (fun _ ax wx hS _ hG => ?_) (Steps1.cons (fun _ ax wx hS _ hG => ?_) Steps1.nil)))))))))))))))))))))))))))
            · have q5 := hG.old 5 (by kernel_rfl) (by kernel_rfl)
              refine step_slot rfl rfl rfl (step_value (v := (.slice Am nm cpm)) (w' := wx) rfl rfl ?_ (Below.refl _ _) (fun d hd => by cases hd; exact rfl))
              go_simp
            · obtain ⟨_, q54, rfl⟩ := hG.new 54 (by kernel_rfl) (by kernel_rfl)
              refine step_slot rfl rfl rfl (step_call (w1 := wx) (f := 16) (args := #[(.slice Am nm cpm)]) rfl rfl ?_ ((HL2.out wx (VM11.out.on (show Below _ _ _ from hS))).mono ?_))
              · skip
                go_simp
              · rintro e w' ⟨rfl, hq⟩
                exact ⟨_, rfl, hq, fun d hd => by cases hd; exact rfl⟩
            · have q3 := hG.old 3 (by kernel_rfl) (by kernel_rfl)
              refine step_slot rfl rfl rfl (step_value (v := (.pointer (some ⟨gc, 0, none⟩))) (w' := wx) rfl rfl ?_ (Below.refl _ _) (fun d hd => by cases hd; exact rfl))
              go_simp
            · obtain ⟨_, q56, rfl⟩ := hG.new 56 (by kernel_rfl) (by kernel_rfl)
              have z0 := Box.cell (BC11.out.on hS) 0 rfl
              refine step_slot rfl rfl rfl (step_value (v := (.int .i64 cs)) (w' := wx) rfl rfl ?_ (Below.refl _ _) (fun d hd => by cases hd; exact rfl))
              go_simp
            · obtain ⟨_, q55, rfl⟩ := hG.new 55 (by kernel_rfl) (by kernel_rfl)
              obtain ⟨_, q57, rfl⟩ := hG.new 57 (by kernel_rfl) (by kernel_rfl)
              refine step_slot rfl rfl rfl (step_value (v := .bool true) (w' := wx) rfl rfl ?_ (Below.refl _ _) (fun d hd => by cases hd; exact rfl))
              go_simp
            · obtain ⟨_, q58, rfl⟩ := hG.new 58 (by kernel_rfl) (by kernel_rfl)
              refine step_slot rfl rfl rfl (step_value (v := .bool true) (w' := wx) rfl rfl ?_ (Below.refl _ _) (fun d hd => by cases hd; exact rfl))
              go_simp
            · obtain ⟨_, q59, rfl⟩ := hG.new 59 (by kernel_rfl) (by kernel_rfl)
              have q3 := hG.old 3 (by kernel_rfl) (by kernel_rfl)
              refine step_slot rfl rfl rfl (step_value (v := (.pointer (some ⟨gc, 0, none⟩))) (w' := wx) rfl (by simp [Region.wanted, yielded, q59, undef]) ?_ (Below.refl _ _) (fun d hd => by cases hd; exact rfl))
              go_simp
            · obtain ⟨_, q59, rfl⟩ := hG.new 59 (by kernel_rfl) (by kernel_rfl)
              obtain ⟨_, q60, rfl⟩ := hG.new 60 (by kernel_rfl) (by kernel_rfl)
              have z0 := Box.cell (BC11.out.on hS) 0 rfl
              refine step_slot rfl rfl rfl (step_value (v := (.int .i64 cs)) (w' := wx) rfl (by simp [Region.wanted, yielded, q59, undef]) ?_ (Below.refl _ _) (fun d hd => by cases hd; exact rfl))
              go_simp
            · obtain ⟨_, q59, rfl⟩ := hG.new 59 (by kernel_rfl) (by kernel_rfl)
              have q0 := hG.old 0 (by kernel_rfl) (by kernel_rfl)
              refine step_slot rfl rfl rfl (step_value (v := (.slice A n c)) (w' := wx) rfl (by simp [Region.wanted, yielded, q59, undef]) ?_ (Below.refl _ _) (fun d hd => by cases hd; exact rfl))
              go_simp
            · obtain ⟨_, q59, rfl⟩ := hG.new 59 (by kernel_rfl) (by kernel_rfl)
              obtain ⟨_, q62, rfl⟩ := hG.new 62 (by kernel_rfl) (by kernel_rfl)
              refine step_slot rfl rfl rfl (step_call (w1 := wx) (f := 16) (args := #[(.slice A n c)]) rfl (by simp [Region.wanted, yielded, q59, undef]) ?_ ((HLL.out wx (VL11.out.on (show Below _ _ _ from hS))).mono ?_))
              · skip
                go_simp
              · rintro e w' ⟨rfl, hq⟩
                exact ⟨_, rfl, hq, fun d hd => by cases hd; exact rfl⟩
            · obtain ⟨_, q59, rfl⟩ := hG.new 59 (by kernel_rfl) (by kernel_rfl)
              obtain ⟨_, q61, rfl⟩ := hG.new 61 (by kernel_rfl) (by kernel_rfl)
              obtain ⟨_, q63, rfl⟩ := hG.new 63 (by kernel_rfl) (by kernel_rfl)
              refine step_slot rfl rfl rfl (step_value (v := .bool true) (w' := wx) rfl (by simp [Region.wanted, yielded, q59, undef]) ?_ (Below.refl _ _) (fun d hd => by cases hd; exact rfl))
              have hs2 := HS2.out
              go_simp
            · obtain ⟨_, q59, rfl⟩ := hG.new 59 (by kernel_rfl) (by kernel_rfl)
              obtain ⟨_, q64, rfl⟩ := hG.new 64 (by kernel_rfl) (by kernel_rfl)
              refine step_slot rfl rfl rfl (step_value (v := .bool true) (w' := wx) rfl rfl ?_ (Below.refl _ _) (fun d hd => by cases hd; exact rfl))
              go_simp
            · obtain ⟨_, q65, rfl⟩ := hG.new 65 (by kernel_rfl) (by kernel_rfl)
              refine step_slot rfl rfl rfl (step_value (v := .bool true) (w' := wx) rfl rfl ?_ (Below.refl _ _) (fun d hd => by cases hd; exact rfl))
              go_simp
            · obtain ⟨_, q66, rfl⟩ := hG.new 66 (by kernel_rfl) (by kernel_rfl)
              have q6 := hG.old 6 (by kernel_rfl) (by kernel_rfl)
              refine step_slot rfl rfl rfl (step_value (v := (.slice (some as7) 1 c7)) (w' := wx) rfl (by simp [Region.wanted, yielded, q66, undef]) ?_ (Below.refl _ _) (fun d hd => by cases hd; exact rfl))
              go_simp
            · obtain ⟨_, q66, rfl⟩ := hG.new 66 (by kernel_rfl) (by kernel_rfl)
              obtain ⟨_, q67, rfl⟩ := hG.new 67 (by kernel_rfl) (by kernel_rfl)
              refine step_slot rfl rfl rfl (step_value (v := (.int .i64 1)) (w' := wx) rfl (by simp [Region.wanted, yielded, q66, undef]) ?_ (Below.refl _ _) (fun d hd => by cases hd; exact rfl))
              go_simp
            · obtain ⟨_, q66, rfl⟩ := hG.new 66 (by kernel_rfl) (by kernel_rfl)
              obtain ⟨_, q68, rfl⟩ := hG.new 68 (by kernel_rfl) (by kernel_rfl)
              refine step_slot rfl rfl rfl (step_value (v := .bool true) (w' := wx) rfl (by simp [Region.wanted, yielded, q66, undef]) ?_ (Below.refl _ _) (fun d hd => by cases hd; exact rfl))
              go_simp
            · obtain ⟨_, q66, rfl⟩ := hG.new 66 (by kernel_rfl) (by kernel_rfl)
              obtain ⟨_, q69, rfl⟩ := hG.new 69 (by kernel_rfl) (by kernel_rfl)
              refine step_slot rfl rfl rfl (step_value (v := .bool true) (w' := wx) rfl rfl ?_ (Below.refl _ _) (fun d hd => by cases hd; exact rfl))
              go_simp
            · obtain ⟨_, q70, rfl⟩ := hG.new 70 (by kernel_rfl) (by kernel_rfl)
              refine step_slot rfl rfl rfl (step_value (v := .bool true) (w' := wx) rfl rfl ?_ (Below.refl _ _) (fun d hd => by cases hd; exact rfl))
              go_simp
            · obtain ⟨_, q71, rfl⟩ := hG.new 71 (by kernel_rfl) (by kernel_rfl)
              have q6 := hG.old 6 (by kernel_rfl) (by kernel_rfl)
              refine step_slot rfl rfl rfl (step_value (v := (.slice (some as7) 1 c7)) (w' := wx) rfl (by simp [Region.wanted, yielded, q71, undef]) ?_ (Below.refl _ _) (fun d hd => by cases hd; exact rfl))
              go_simp
            · obtain ⟨_, q71, rfl⟩ := hG.new 71 (by kernel_rfl) (by kernel_rfl)
              obtain ⟨_, q72, rfl⟩ := hG.new 72 (by kernel_rfl) (by kernel_rfl)
              refine step_slot rfl rfl rfl (step_value (v := (.pointer (some as7))) (w' := wx) rfl (by simp [Region.wanted, yielded, q71, undef]) ?_ (Below.refl _ _) (fun d hd => by cases hd; exact rfl))
              go_simp
            · obtain ⟨_, q71, rfl⟩ := hG.new 71 (by kernel_rfl) (by kernel_rfl)
              obtain ⟨_, q73, rfl⟩ := hG.new 73 (by kernel_rfl) (by kernel_rfl)
              obtain ⟨z0, z1, z2, z3, z4, z5⟩ := HCS.out wx (show Below _ _ _ from hS)
              refine step_slot rfl rfl rfl (step_value (v := (.agg #[.int .i64 cs, .string ck, .bool cm, .string cb, .bool cd, .string ca])) (w' := wx) rfl (by simp [Region.wanted, yielded, q71, undef]) ?_ (Below.refl _ _) (fun d hd => by cases hd; exact rfl))
              go_simp
            · obtain ⟨_, q71, rfl⟩ := hG.new 71 (by kernel_rfl) (by kernel_rfl)
              have q3 := hG.old 3 (by kernel_rfl) (by kernel_rfl)
              obtain ⟨z0, z1, z2, z3, z4, z5⟩ := (⟨Box.cell (BC11.out.on hS) 0 rfl, Box.cell (BC11.out.on hS) 1 rfl, Box.cell (BC11.out.on hS) 2 rfl, Box.cell (BC11.out.on hS) 3 rfl, Box.cell (BC11.out.on hS) 4 rfl, Box.cell (BC11.out.on hS) 5 rfl⟩ : _ ∧ _ ∧ _ ∧ _ ∧ _ ∧ _)
              refine step_slot rfl rfl rfl (step_value (v := (.agg #[.int .i64 cs, .string ck, .bool cm, .string cb, .bool cd, .string ca])) (w' := wx) rfl (by simp [Region.wanted, yielded, q71, undef]) ?_ (Below.refl _ _) (fun d hd => by cases hd; exact rfl))
              go_simp
            · obtain ⟨_, q71, rfl⟩ := hG.new 71 (by kernel_rfl) (by kernel_rfl)
              obtain ⟨_, q74, rfl⟩ := hG.new 74 (by kernel_rfl) (by kernel_rfl)
              obtain ⟨_, q75, rfl⟩ := hG.new 75 (by kernel_rfl) (by kernel_rfl)
              refine step_slot rfl rfl rfl (step_value (v := .bool true) (w' := wx) rfl (by simp [Region.wanted, yielded, q71, undef]) ?_ (Below.refl _ _) (fun d hd => by cases hd; exact rfl))
              go_simp
            · obtain ⟨_, q71, rfl⟩ := hG.new 71 (by kernel_rfl) (by kernel_rfl)
              obtain ⟨_, q76, rfl⟩ := hG.new 76 (by kernel_rfl) (by kernel_rfl)
              refine step_slot rfl rfl rfl (step_value (v := .bool true) (w' := wx) rfl rfl ?_ (Below.refl _ _) (fun d hd => by cases hd; exact rfl))
              go_simp
            · obtain ⟨_, q77, rfl⟩ := hG.new 77 (by kernel_rfl) (by kernel_rfl)
              refine step_slot rfl rfl rfl (step_value (v := .bool true) (w' := wx) rfl rfl ?_ (Below.refl _ _) (fun d hd => by cases hd; exact rfl))
              go_simp
            · obtain ⟨_, q78, rfl⟩ := hG.new 78 (by kernel_rfl) (by kernel_rfl)
              refine step_slot rfl rfl rfl (step_call (w1 := wx) (f := 10) (args := #[]) rfl (by simp [Region.wanted, yielded, q78, undef]) ?_ ((awake_true wx).mono ?_))
              · skip
                go_simp
              · rintro e w' ⟨rfl, hq⟩
                exact ⟨_, rfl, hq, fun d hd => by cases hd; exact rfl⟩
            · obtain ⟨_, q78, rfl⟩ := hG.new 78 (by kernel_rfl) (by kernel_rfl)
              obtain ⟨_, q79, rfl⟩ := hG.new 79 (by kernel_rfl) (by kernel_rfl)
              refine step_slot rfl rfl rfl (step_value (v := .bool true) (w' := wx) rfl rfl ?_ (Below.refl _ _) (fun d hd => by cases hd; exact rfl))
              go_simp
            · obtain ⟨_, q80, rfl⟩ := hG.new 80 (by kernel_rfl) (by kernel_rfl)
              refine step_slot rfl rfl rfl (step_value (v := .bool true) (w' := wx) rfl rfl ?_ (Below.refl _ _) (fun d hd => by cases hd; exact rfl))
              go_simp
          intro fv w8 hS8 _ hV8
          have e4 : fv 4 = .bool true := hV8 4 (by decide)
          simp only [puts, Act.put, List.setIfInBounds_toArray, List.set_cons_succ, List.set_cons_zero]
          clear hV8
          rw [e4]
          have HB8 := Lib.hid (HB11.out.trans ((show Below _ _ _ from hS8).mono HB11.out.size))
          clear hS8
          go_wp2
          go_ret
          exact ⟨rfl, HB8.out⟩

end Go.Proofs.Ytidigbjlglomhaa
