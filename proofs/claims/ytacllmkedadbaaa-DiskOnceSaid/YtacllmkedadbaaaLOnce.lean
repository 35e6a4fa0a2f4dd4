/- The walk of the law DiskOnce. -/
import Derived.Test.YtacllmkedadbaaaOnceV
namespace Go.Proofs.Ytacllmkedadbaaa
open Go.RowKit

/-- What each slot of its lines holds. -/
def OnceV4 (A1 : Option Addr) (n c1 : Nat) (B1 : Option Addr) (d1 : Nat) (A2 : Option Addr) (c2 : Nat) (B2 : Option Addr) (d2 : Nat) (G : Option Addr) (r gc : Nat) (F C : List ByteArray) (t : Nat) (v : Value) (w : World) : Prop :=
  match t with
  | 55 => v = .agg #[.slice A1 n c1, .slice B1 0 d1]
  | 56 => DV w v F []
  | 57 => v = .agg #[.slice A1 n c1, .slice B1 0 d1]
  | 58 => DV w v F []
  | 59 => v = .bool true
  | 60 => v = .bool false
  | 61 => v = .bool false
  | 62 => v = .agg #[.slice A2 n c2, .slice B2 0 d2]
  | 63 => v = .slice G r gc
  | 64 => DV w v C []
  | 65 => v = .agg #[.slice A2 n c2, .slice B2 0 d2]
  | 66 => DV w v C []
  | 67 => v = .bool true
  | 68 => v = .bool false
  | 69 => v = .bool false
  | 70 => v = .bool false
  | 71 => v = .agg #[.slice A2 n c2, .slice B2 0 d2]
  | 72 => DV w v C []
  | 73 => v = .agg #[.slice A2 n c2, .slice B2 0 d2]
  | 74 => DV w v C []
  | 75 => v = .bool true
  | 76 => v = .bool false
  | 77 => v = .bool false
  | _ => True
theorem OnceV4.on {A1 : Option Addr} {n c1 : Nat} {B1 : Option Addr} {d1 : Nat} {A2 : Option Addr} {c2 : Nat} {B2 : Option Addr} {d2 : Nat} {G : Option Addr} {r gc : Nat} {F C : List ByteArray} {t : Nat} {v : Value} {w w' : World} (h : OnceV4 A1 n c1 B1 d1 A2 c2 B2 d2 G r gc F C t v w) (hb : Below w.heap.size w w') : OnceV4 A1 n c1 B1 d1 A2 c2 B2 d2 G r gc F C t v w' := by
  unfold OnceV4 at *
  split at h <;> first | exact h | exact DV.on h hb

def OnceV8 (A : Option Addr) (n c : Nat) (B : Option Addr) (m d : Nat) (A5 : Option Addr) (c5 : Nat) (B5 : Option Addr) (mx d5 : Nat) (S : List ByteArray) (V : List Wr) (t : Nat) (v : Value) (w : World) : Prop :=
  match t with
  | 87 => v = .agg #[.slice A5 n c5, .slice B5 mx d5]
  | 88 => v = .agg #[.slice A n c, .slice B m d]
  | 89 => DV w v S V
  | 90 => v = .bool true
  | 91 => v = .bool true
  | 92 => v = .bool true
  | 93 => v = .bool true
  | 12 => v = .bool true
  | _ => True
theorem OnceV8.on {A : Option Addr} {n c : Nat} {B : Option Addr} {m d : Nat} {A5 : Option Addr} {c5 : Nat} {B5 : Option Addr} {mx d5 : Nat} {S : List ByteArray} {V : List Wr} {t : Nat} {v : Value} {w w' : World} (h : OnceV8 A n c B m d A5 c5 B5 mx d5 S V t v w) (hb : Below w.heap.size w w') : OnceV8 A n c B m d A5 c5 B5 mx d5 S V t v w' := by
  unfold OnceV8 at *
  split at h <;> first | exact h | exact DV.on h hb

def OnceV11A (A6 : Option Addr) (n c6 : Nat) (B6 : Option Addr) (mx2 d6 : Nat) (A7 : Option Addr) (c7 : Nat) (B7 : Option Addr) (my d7 : Nat) (S : List ByteArray) (Y : List Wr) (t : Nat) (v : Value) (w : World) : Prop :=
  match t with
  | 115 => v = .int .i64 0
  | 116 => v = .int .i64 0
  | 117 => v = .bool true
  | 118 => v = .bool true
  | 119 => v = .int .i64 0
  | 120 => v = .bool false
  | 121 => v = .bool false
  | 122 => v = .agg #[.slice A6 n c6, .slice B6 mx2 d6]
  | 123 => v = .agg #[.slice A7 n c7, .slice B7 my d7]
  | 124 => DV w v S Y
  | 125 => v = .bool true
  | 126 => v = .bool true
  | 127 => v = .bool true
  | 128 => v = .bool true
  | 129 => v = .bool true
  | 130 => v = .bool true
  | 12 => v = .bool true
  | _ => True
theorem OnceV11A.on {A6 : Option Addr} {n c6 : Nat} {B6 : Option Addr} {mx2 d6 : Nat} {A7 : Option Addr} {c7 : Nat} {B7 : Option Addr} {my d7 : Nat} {S : List ByteArray} {Y : List Wr} {t : Nat} {v : Value} {w w' : World} (h : OnceV11A A6 n c6 B6 mx2 d6 A7 c7 B7 my d7 S Y t v w) (hb : Below w.heap.size w w') : OnceV11A A6 n c6 B6 mx2 d6 A7 c7 B7 my d7 S Y t v w' := by
  unfold OnceV11A at *
  split at h <;> first | exact h | exact DV.on h hb

def OnceV11B (t : Nat) (v : Value) (w : World) : Prop :=
  match t with
  | 115 => v = .int .i64 1
  | 116 => v = .int .i64 1
  | 117 => v = .bool true
  | 118 => v = .bool true
  | 119 => v = .int .i64 1
  | 120 => v = .bool true
  | 121 => v = .bool true
  | 122 => v = undef
  | 123 => v = undef
  | 124 => v = undef
  | 125 => v = undef
  | 126 => v = .bool true
  | 127 => v = .bool true
  | 128 => v = .bool true
  | 129 => v = .bool true
  | 130 => v = .bool true
  | 12 => v = .bool true
  | _ => True
theorem OnceV11B.on {t : Nat} {v : Value} {w w' : World} (h : OnceV11B t v w) (_hb : Below w.heap.size w w') : OnceV11B t v w' := by
  unfold OnceV11B at *
  split at h <;> exact h

set_option maxHeartbeats 16000000 in
set_option maxRecDepth 100000 in
theorem once_walk (v0 : Value) (S : List ByteArray) (V : List Wr) (a : Int) (t0 t1 : Value) (la lb : List ByteArray) (k0 g0 : Value) (ks gs : List Bool) (w : World) (hv : DV w v0 S V) (hta : SV w t0 la) (htb : SV w t1 lb) (hk : BV w k0 ks) (hg : BV w g0 gs)
    (hn : S.length ≤ maxLen) (hm : V.length ≤ maxLen) (h24 : V.length * 24 ≤ 140737488355328) (hla : la.length ≤ maxLen) (hlb : lb.length ≤ maxLen) (hq : ks.length ≤ maxLen) (hr : gs.length ≤ maxLen) (hna : ∀ n c, t0 = .slice none n c → c = 0) (hnb : ∀ n c, t1 = .slice none n c → c = 0) :
    Calls Try.prog 6 #[v0, .int .i64 a, t0, t1, k0, g0] w fun e w' => e = .returned (.bool true) ∧ Below w.heap.size w w' := by
  unfold maxLen at hn hm hq hr hla hlb
  obtain ⟨A, c, B, d, rfl, hA, hB⟩ := hv
  obtain ⟨Ta, tca, rfl, hTa⟩ := hta
  obtain ⟨Tb, tcb, rfl, hTb⟩ := htb
  obtain ⟨K, kc, rfl, hK⟩ := hk
  obtain ⟨G, gc, rfl, hG⟩ := hg
  have hb0 : Below w.heap.size w (w.alloc (.cells #[.slice A S.length c, .slice B V.length d] 25)) := (Below.refl _ _).alloc (Nat.le_refl _) _
  have HV0 := Lib.hid (show DV w (.agg #[.slice A S.length c, .slice B V.length d]) S V from ⟨A, c, B, d, rfl, hA, hB⟩)
  have HA0 := Lib.hid (show SV w (.slice Ta la.length tca) la from ⟨Ta, tca, rfl, hTa⟩)
  have HB0 := Lib.hid (show SV w (.slice Tb lb.length tcb) lb from ⟨Tb, tcb, rfl, hTb⟩)
  have HSA := Lib.hid hTa
  have HSB := Lib.hid hTb
  have HNA := Lib.hid (show Ta = none → tca = 0 from fun h => hna _ _ (by rw [h]))
  have HNB := Lib.hid (show Tb = none → tcb = 0 from fun h => hnb _ _ (by rw [h]))
  have HK0 := Lib.hid (show BV w (.slice K ks.length kc) ks from ⟨K, kc, rfl, hK⟩)
  have HG0 := Lib.hid (show BV w (.slice G gs.length gc) gs from ⟨G, gc, rfl, hG⟩)
  have HD := Lib.hid (show DBlk (w.alloc (.cells #[.slice A S.length c, .slice B V.length d] 25)) w.heap.size A S.length c B V.length d from Box.fresh _ _ _)
  have HB := Lib.hid hb0
  have H24 := Lib.hid h24
  generalize hsl : S.length = n at *
  generalize hvl : V.length = m at *
  generalize hlal : la.length = qa at *
  generalize hlbl : lb.length = qb at *
  generalize hkl : ks.length = q at *
  generalize hgl : gs.length = r at *
  have HSL := Lib.hid hsl
  have HVL := Lib.hid hvl
  have HLA := Lib.hid hlal
  have HLB := Lib.hid hlbl
  have HKL := Lib.hid hkl
  have HGL := Lib.hid hgl
  clear hA hB hTa hTb hK hG hb0 hsl hvl hlal hlbl hkl hgl h24 hna hnb
  go_enter Try.func6, Try.ntmps6
  go_wp2_with fail
  refine (ref_dv (HV0.out.on HB.out) (by rw [HVL.out]; exact H24.out)).mono ?_
  rintro e w1 ⟨v1, rfl, hv1, hb1⟩
  have HD := Lib.hid (show DBlk w1 w.heap.size A n c B m d from Box.on HD.out hb1)
  have HB := Lib.hid (HB.out.trans (hb1.mono HB.out.size))
  have hsm := small_dv hv1
  rw [HSL.out, HVL.out] at hsm
  clear hb1 hv1
  go_wp2_with fail
  refine hsm.mono ?_
  clear hsm
  rintro e w2 ⟨rfl, hb2⟩
  have HD := Lib.hid (show DBlk w2 w.heap.size A n c B m d from Box.on HD.out hb2)
  have HB := Lib.hid (HB.out.trans (hb2.mono HB.out.size))
  clear hb2
  cases hsb : smallB n m with
  | false =>
    clear hsb
    go_wp2_with fail
    refine (awake_true _).mono ?_
    rintro e w9 ⟨rfl, hb9⟩
    go_wp2
    go_ret
    exact ⟨rfl, HB.out.trans (hb9.mono HB.out.size)⟩
  | true =>
  have hsm : n ≤ 100 ∧ m ≤ 60 := by unfold smallB at hsb; simpa using hsb
  obtain ⟨hn1, hm1⟩ := hsm
  clear hsb
  by_cases hqa1 : 30 < qa
  · have hx : (30 : Int) < qa := by omega
    go_wp2_with fail
    refine (awake_true _).mono ?_
    rintro e w9 ⟨rfl, hb9⟩
    go_wp2
    go_ret
    exact ⟨rfl, HB.out.trans (hb9.mono HB.out.size)⟩
  have hxa : decide ((30 : Int) < qa) = false := decide_eq_false (by omega)
  by_cases hqb1 : 30 < qb
  · have hx : (30 : Int) < qb := by omega
    go_wp2_with fail
    refine (awake_true _).mono ?_
    rintro e w9 ⟨rfl, hb9⟩
    go_wp2
    go_ret
    exact ⟨rfl, HB.out.trans (hb9.mono HB.out.size)⟩
  have hxb : decide ((30 : Int) < qb) = false := decide_eq_false (by omega)
  by_cases hq1 : 60 < q
  · have hx : (60 : Int) < q := by omega
    go_wp2_with fail
    refine (awake_true _).mono ?_
    rintro e w9 ⟨rfl, hb9⟩
    go_wp2
    go_ret
    exact ⟨rfl, HB.out.trans (hb9.mono HB.out.size)⟩
  have hxq : decide ((60 : Int) < q) = false := decide_eq_false (by omega)
  by_cases hr1 : 60 < r
  · have hx : (60 : Int) < r := by omega
    go_wp2_with fail
    refine (awake_true _).mono ?_
    rintro e w9 ⟨rfl, hb9⟩
    go_wp2
    go_ret
    exact ⟨rfl, HB.out.trans (hb9.mono HB.out.size)⟩
  have hxr : decide ((60 : Int) < r) = false := decide_eq_false (by omega)
  obtain ⟨k0, k1⟩ := DBlk.cells HD.out
  have hz := Box.lt HD.out
  have hrt := right_dv (HV0.out.on HB.out) (by rw [HSL.out]; omega) (by rw [HVL.out]; omega)
  go_wp2_with fail
  refine hrt.mono ?_
  clear hrt k0 k1 hz
  rintro e w3 ⟨rfl, hb3⟩
  have HD := Lib.hid (show DBlk w3 w.heap.size A n c B m d from Box.on HD.out hb3)
  have HB := Lib.hid (HB.out.trans (hb3.mono HB.out.size))
  clear hb3
  cases hrb : rightB S V with
  | false =>
    clear hrb
    go_wp2_with fail
    refine (awake_true _).mono ?_
    rintro e w9 ⟨rfl, hb9⟩
    go_wp2
    go_ret
    exact ⟨rfl, HB.out.trans (hb9.mono HB.out.size)⟩
  | true =>
  have HR := Lib.hid hrb
  clear hrb
  obtain ⟨F, hF⟩ : ∃ F, F = doneL S V := ⟨_, rfl⟩
  obtain ⟨C, hC⟩ : ∃ C, C = doneL S (keptL ks V) := ⟨_, rfl⟩
  have HFN := Lib.hid (show F.length = n by rw [hF, done_len, HSL.out])
  have HCN := Lib.hid (show C.length = n by rw [hC, done_len, HSL.out])
  have HRF := Lib.hid (show rightB F [] = true by rw [hF]; exact done_right HR.out (fun x hx => hx))
  have HRC := Lib.hid (show rightB C [] = true by rw [hC]; exact done_right HR.out (fun x hx => kept_mem (ks := ks) hx))
  have HBX := Lib.hid (show ∀ wx, Below w3.heap.size w3 wx → Below w.heap.size w wx from fun wx h => HB.out.trans (h.mono HB.out.size))
  have HC1 := Lib.hid (show ∀ wx, Below w3.heap.size w3 wx → wx.cell? ⟨w.heap.size, 0, none⟩ = some (.slice A n c) ∧ wx.cell? ⟨w.heap.size, 1, none⟩ = some (.slice B m d) from fun wx h => DBlk.cells (Box.on HD.out h))
  have HFL := Lib.hid (show ∀ wx, Below w3.heap.size w3 wx → Calls Try.prog 15 #[.agg #[.slice A n c, .slice B m d]] wx fun e w' => ∃ v', e = .returned v' ∧ DV w' v' F [] ∧ Below wx.heap.size wx w' from fun wx h => by
    rw [hF]
    exact flush_dv (HV0.out.on (HBX.out wx h)) (by rw [HVL.out]; omega) HR.out)
  have HCR := Lib.hid (show ∀ wx, Below w3.heap.size w3 wx → Calls Try.prog 16 #[.agg #[.slice A n c, .slice B m d], .slice K q kc] wx fun e w' => ∃ v', e = .returned v' ∧ DV w' v' C [] ∧ Below wx.heap.size wx w' from fun wx h => by
    rw [hC]
    exact crash_dv (HV0.out.on (HBX.out wx h)) (HK0.out.on (HBX.out wx h)) (by rw [HVL.out]; omega) (by rw [HKL.out]; omega) HR.out)
  clear hF hC
  go_wp2
  refine wp_region_phase 3 [50, 51, 52, 53, 54, 13, 14] (by kernel_rfl) [7, 8] [13, 14] (Apart 13 14) 2 rfl (by kernel_rfl) (fun _ w' => Below w3.heap.size w3 w') (fun wa wb => Below wa.heap.size wa wb) (OnceV3 w3.heap.size n (.agg #[.slice A n c, .slice B m d]) (.slice K q kc) F C) (by kernel_rfl) (fun _ wa wb h1 h2 => h2.trans (h1.mono h2.size)) (fun _ t v wa wb h1 h2 => h2.on h1) (fun ax wa ay wb h1 h2 h3 => Apart.keep (h1 13 (by decide)) (h1 14 (by decide)) h2.size h3) (Below.refl _ _).drew (by refine ⟨fun g h => ?_, fun g h => ?_, fun g h e1 _ => ?_⟩ <;> simp [ptr, undef] at *) (phase2 ?_ ?_ ?_) ?_
  ·
      refine Steps1.cons (fun _ ax wx hS hJ hG => ?_) (Steps1.cons (fun _ ax wx hS hJ hG => ?_) (Steps1.cons (fun _ ax wx hS hJ hG => ?_) (Steps1.cons (fun _ ax wx hS hJ hG => ?_) (Steps1.cons (fun _ ax wx hS hJ hG => ?_) (Steps1.cons (fun _ ax wx hS hJ hG => ?_) (Steps1.cons (fun _ ax wx hS hJ hG => ?_) (Steps1.cons (fun _ ax wx hS hJ hG => ?_) (Steps1.cons (fun hin _ _ _ _ _ => out (by kernel_rfl) hin) Steps1.nil))))))))
      · have q6 := hG.old 6 (by kernel_rfl) (by kernel_rfl)
        obtain ⟨z0, z1⟩ := HC1.out wx hS
        refine step_slot rfl rfl rfl (step_value (v := .agg #[.slice A n c, .slice B m d]) (w' := wx) rfl rfl ?_ (Below.refl _ _) (fun d hd => by cases hd; exact rfl))
        go_simp
      · obtain ⟨_, q50, rfl⟩ := hG.new 50 (by kernel_rfl) (by kernel_rfl)
        refine step_slot rfl rfl rfl (step_call (w1 := wx) (f := 15) (args := #[.agg #[.slice A n c, .slice B m d]]) rfl rfl ?_ ((HFL.out wx hS).mono ?_))
        · skip
          go_simp
        · rintro e w' ⟨v', rfl, hv, hq⟩
          exact ⟨_, rfl, hq, fun d hd => by cases hd; exact hv⟩
      · have q6 := hG.old 6 (by kernel_rfl) (by kernel_rfl)
        obtain ⟨z0, z1⟩ := HC1.out wx hS
        refine step_slot rfl rfl rfl (step_value (v := .agg #[.slice A n c, .slice B m d]) (w' := wx) rfl rfl ?_ (Below.refl _ _) (fun d hd => by cases hd; exact rfl))
        go_simp
      · have q4 := hG.old 4 (by kernel_rfl) (by kernel_rfl)
        refine step_slot rfl rfl rfl (step_value (v := .slice K q kc) (w' := wx) rfl rfl ?_ (Below.refl _ _) (fun d hd => by cases hd; exact rfl))
        go_simp
      · obtain ⟨_, q52, rfl⟩ := hG.new 52 (by kernel_rfl) (by kernel_rfl)
        obtain ⟨_, q53, rfl⟩ := hG.new 53 (by kernel_rfl) (by kernel_rfl)
        refine step_slot rfl rfl rfl (step_call (w1 := wx) (f := 16) (args := #[.agg #[.slice A n c, .slice B m d], .slice K q kc]) rfl rfl ?_ ((HCR.out wx hS).mono ?_))
        · skip
          go_simp
        · rintro e w' ⟨v', rfl, hv, hq⟩
          exact ⟨_, rfl, hq, fun d hd => by cases hd; exact hv⟩
      · refine step_value_J (v := ptr wx.heap.size) (w' := wx.alloc (.cells #[.slice none 0 0, .slice none 0 0] 25)) rfl rfl rfl rfl ?_ ((Below.refl _ _).alloc (Nat.le_refl _) _) ⟨fun _ => Zero.fresh wx hS.size, fun h => absurd rfl h⟩ (hJ.left (by decide) _)
        unfold ptr
        go_simp
      · refine step_value_J (v := ptr wx.heap.size) (w' := wx.alloc (.cells #[.slice none 0 0, .slice none 0 0] 25)) rfl rfl rfl rfl ?_ ((Below.refl _ _).alloc (Nat.le_refl _) _) ⟨fun _ => Zero.fresh wx hS.size, fun h => absurd h (by decide)⟩ (hJ.right (by decide) _)
        unfold ptr
        go_simp
      · obtain ⟨v13, q13, h13⟩ := hG.new 13 (by kernel_rfl) (by kernel_rfl)
        obtain ⟨v51, q51, h51⟩ := hG.new 51 (by kernel_rfl) (by kernel_rfl)
        obtain ⟨g, rfl, hg, hz⟩ : Zero w3.heap.size wx v13 := (show (0 = 0 → Zero w3.heap.size wx v13) ∧ _ from h13).1 rfl
        obtain ⟨A1, c1, B1, d1, rfl, hA1, hB1⟩ : DV wx v51 F [] := h51
        rw [HFN.out, show ([] : List Wr).length = 0 from rfl] at q51
        have hdv : DV wx (.agg #[.slice A1 n c1, .slice B1 0 d1]) F [] := ⟨A1, c1, B1, d1, by rw [HFN.out]; rfl, hA1, hB1⟩
        have f0 := Box.free hz 0
        have f1 := Box.free hz 1
        obtain ⟨k0, k1⟩ := DBlk.cells hz
        refine step_store (w' := laidD wx g A1 n c1 B1 0 d1) rfl rfl rfl rfl ?_ (laid_below hS hg) (hJ.keep rfl rfl (by rw [laid_size]; exact Nat.le_refl _)) ?_
        · clear h13 hdv hz hA1 hB1 hJ hS
          unfold laidD
          unfold ptr at q13
          go_simp
        · intro t u _ hu hV
          unfold OnceV3 at hV ⊢
          split at hV
          · exact hV
          · exact laid_dv hz hV
          · exact hV
          · exact hV
          · exact laid_dv hz hV
          · obtain rfl : ptr g = u := by rw [q13] at hu; exact Option.some.inj hu
            exact ⟨fun h => absurd h (by decide), fun _ => laid_fill hg hz hdv⟩
          · obtain ⟨g2, rfl, hg2, hz2⟩ := hV.1 (by decide)
            exact ⟨fun _ => laid_zero hg2 hz2 (hJ.2.2 g g2 q13 hu), fun h => absurd h (by decide)⟩
          · trivial

  ·
      refine Steps1.cons (fun hin _ _ _ _ _ => out (by kernel_rfl) hin) (Steps1.cons (fun hin _ _ _ _ _ => out (by kernel_rfl) hin) (Steps1.cons (fun hin _ _ _ _ _ => out (by kernel_rfl) hin) (Steps1.cons (fun hin _ _ _ _ _ => out (by kernel_rfl) hin) (Steps1.cons (fun hin _ _ _ _ _ => out (by kernel_rfl) hin) (Steps1.cons (fun hin _ _ _ _ _ => out (by kernel_rfl) hin) (Steps1.cons (fun hin _ _ _ _ _ => out (by kernel_rfl) hin) (Steps1.cons (fun hin _ _ _ _ _ => out (by kernel_rfl) hin) (Steps1.cons (fun _ ax wx hS hJ hG => ?_) Steps1.nil))))))))
      · obtain ⟨v14, q14, h14⟩ := hG.new 14 (by kernel_rfl) (by kernel_rfl)
        obtain ⟨v54, q54, h54⟩ := hG.new 54 (by kernel_rfl) (by kernel_rfl)
        obtain ⟨g, rfl, hg, hz⟩ : Zero w3.heap.size wx v14 := (show (1 ≤ 1 → Zero w3.heap.size wx v14) ∧ _ from h14).1 (Nat.le_refl _)
        obtain ⟨A1, c1, B1, d1, rfl, hA1, hB1⟩ : DV wx v54 C [] := h54
        rw [HCN.out, show ([] : List Wr).length = 0 from rfl] at q54
        have hdv : DV wx (.agg #[.slice A1 n c1, .slice B1 0 d1]) C [] := ⟨A1, c1, B1, d1, by rw [HCN.out]; rfl, hA1, hB1⟩
        have f0 := Box.free hz 0
        have f1 := Box.free hz 1
        obtain ⟨k0, k1⟩ := DBlk.cells hz
        refine step_store (w' := laidD wx g A1 n c1 B1 0 d1) rfl rfl rfl rfl ?_ (laid_below hS hg) (hJ.keep rfl rfl (by rw [laid_size]; exact Nat.le_refl _)) ?_
        · clear h14 hdv hz hA1 hB1 hJ hS
          unfold laidD
          unfold ptr at q14
          go_simp
        · intro t u _ hu hV
          unfold OnceV3 at hV ⊢
          split at hV
          · exact hV
          · exact laid_dv hz hV
          · exact hV
          · exact hV
          · exact laid_dv hz hV
          · refine ⟨fun h => absurd h (by decide), fun _ => laid_old hz (hV.2 (by decide)) fun h e => ?_⟩
            subst e
            exact fun e2 => hJ.2.2 h g hu q14 e2.symm
          · obtain rfl : ptr g = u := by rw [q14] at hu; exact Option.some.inj hu
            exact ⟨fun h => absurd h (by decide), fun _ => laid_fill hg hz hdv⟩
          · trivial

  ·
      refine Steps1.cons (fun hin _ _ _ _ _ => out (by kernel_rfl) hin) (Steps1.cons (fun hin _ _ _ _ _ => out (by kernel_rfl) hin) (Steps1.cons (fun hin _ _ _ _ _ => out (by kernel_rfl) hin) (Steps1.cons (fun hin _ _ _ _ _ => out (by kernel_rfl) hin) (Steps1.cons (fun hin _ _ _ _ _ => out (by kernel_rfl) hin) (Steps1.cons (fun hin _ _ _ _ _ => out (by kernel_rfl) hin) (Steps1.cons (fun hin _ _ _ _ _ => out (by kernel_rfl) hin) (Steps1.cons (fun hin _ _ _ _ _ => out (by kernel_rfl) hin) (Steps1.cons (fun hin _ _ _ _ _ => out (by kernel_rfl) hin) Steps1.nil))))))))

  intro f w4 hS4 _ hV4
  obtain ⟨gF, A1, c1, B1, d1, e13, _, hdF, hvF⟩ : Fill w3.heap.size n 0 F [] w4 (f 13) := (show _ ∧ (2 ≠ 0 → Fill w3.heap.size n 0 F [] w4 (f 13)) from hV4 13 (by decide)).2 (by decide)
  obtain ⟨gC, A2, c2, B2, d2, e14, _, hdC, hvC⟩ : Fill w3.heap.size n 0 C [] w4 (f 14) := (show _ ∧ (1 < 2 → Fill w3.heap.size n 0 C [] w4 (f 14)) from hV4 14 (by decide)).2 (by decide)
  simp only [puts, Act.put, List.setIfInBounds_toArray, List.set_cons_succ, List.set_cons_zero]
  rw [e13, e14]
  unfold ptr
  clear hV4 e13 e14
  have HF := Lib.hid hvF
  have HC := Lib.hid hvC
  have HE := Lib.hid hdF
  have HG := Lib.hid hdC
  have HD := Lib.hid (show DBlk w4 w.heap.size A n c B m d from Box.on HD.out hS4)
  have HB := Lib.hid (HB.out.trans (hS4.mono HB.out.size))
  generalize f 50 = f50
  generalize f 51 = f51
  generalize f 52 = f52
  generalize f 53 = f53
  generalize f 54 = f54
  clear hvF hvC hdF hdC hS4 HC1 HFL HCR HBX
  have HCF := Lib.hid (show ∀ wx, Below w4.heap.size w4 wx → wx.cell? ⟨gF, 0, none⟩ = some (.slice A1 n c1) ∧ wx.cell? ⟨gF, 1, none⟩ = some (.slice B1 0 d1) from fun wx h => DBlk.cells (Box.on HE.out h))
  have HCC := Lib.hid (show ∀ wx, Below w4.heap.size w4 wx → wx.cell? ⟨gC, 0, none⟩ = some (.slice A2 n c2) ∧ wx.cell? ⟨gC, 1, none⟩ = some (.slice B2 0 d2) from fun wx h => DBlk.cells (Box.on HG.out h))
  have HFF := Lib.hid (show ∀ wx, Below w4.heap.size w4 wx → Calls Try.prog 15 #[.agg #[.slice A1 n c1, .slice B1 0 d1]] wx fun e w' => ∃ v', e = .returned v' ∧ DV w' v' F [] ∧ Below wx.heap.size wx w' from fun wx h => flush_dv (HF.out.on h) (by simp) HRF.out)
  have HFC := Lib.hid (show ∀ wx, Below w4.heap.size w4 wx → Calls Try.prog 15 #[.agg #[.slice A2 n c2, .slice B2 0 d2]] wx fun e w' => ∃ v', e = .returned v' ∧ DV w' v' C [] ∧ Below wx.heap.size wx w' from fun wx h => flush_dv (HC.out.on h) (by simp) HRC.out)
  have HCG := Lib.hid (show ∀ wx, Below w4.heap.size w4 wx → Calls Try.prog 16 #[.agg #[.slice A2 n c2, .slice B2 0 d2], .slice G r gc] wx fun e w' => ∃ v', e = .returned v' ∧ DV w' v' C [] ∧ Below wx.heap.size wx w' from fun wx h => by
    have h1 := crash_dv (HC.out.on h) (HG0.out.on (HB.out.trans (h.mono HB.out.size))) (by simp) (by rw [HGL.out]; omega) HRC.out
    rw [kept_nil, done_nil] at h1
    exact h1)
  go_wp2
  refine wp_region_inv [55, 56, 57, 58, 59, 60, 61, 62, 63, 64, 65, 66, 67, 68, 69, 70, 71, 72, 73, 74, 75, 76, 77] (by kernel_rfl) (by kernel_rfl) (fun w' => Below w4.heap.size w4 w') (fun wa wb => Below wa.heap.size wa wb) (OnceV4 A1 n c1 B1 d1 A2 c2 B2 d2 G r gc F C) (by kernel_rfl) (fun wa wb h1 h2 => h2.trans (h1.mono h2.size)) (fun t v wa wb h1 h2 => h2.on h1) (Below.refl _ _).drew (steps_of ?_) ?_
  ·
      refine Steps1.cons (fun ax wx hS hG => ?_) (Steps1.cons (fun ax wx hS hG => ?_) (Steps1.cons (fun ax wx hS hG => ?_) (Steps1.cons (fun ax wx hS hG => ?_) (Steps1.cons (fun ax wx hS hG => ?_) (Steps1.cons (fun ax wx hS hG => ?_) (Steps1.cons (fun ax wx hS hG => ?_) (Steps1.cons (fun ax wx hS hG => ?_) (Steps1.cons (fun ax wx hS hG => ?_) (Steps1.cons (fun ax wx hS hG => ?_) (Steps1.cons (fun ax wx hS hG => ?_) (Steps1.cons (fun ax wx hS hG => ?_) (Steps1.cons (fun ax wx hS hG => ?_) (Steps1.cons (fun ax wx hS hG => ?_) (Steps1.cons (fun ax wx hS hG => ?_) (Steps1.cons (fun ax wx hS hG => ?_) (Steps1.cons (fun ax wx hS hG => ?_) (Steps1.cons (fun ax wx hS hG => ?_) (Steps1.cons (fun ax wx hS hG => ?_) (Steps1.cons (fun ax wx hS hG => ?_) (Steps1.cons (fun ax wx hS hG => ?_) (Steps1.cons (fun ax wx hS hG => ?_) (Steps1.cons (fun ax wx hS hG => ?_) Steps1.nil))))))))))))))))))))))
      · have q13 := hG.old 13 (by kernel_rfl) (by kernel_rfl)
        obtain ⟨z0, z1⟩ := HCF.out wx hS
        refine step_value (v := .agg #[.slice A1 n c1, .slice B1 0 d1]) (w' := wx) rfl rfl ?_ (Below.refl _ _) (fun d hd => by cases hd; exact rfl)
        go_simp
      · obtain ⟨_, q55, rfl⟩ := hG.new 55 (by kernel_rfl) (by kernel_rfl)
        refine step_call (w1 := wx) (f := 15) (args := #[.agg #[.slice A1 n c1, .slice B1 0 d1]]) rfl rfl ?_ ((HFF.out wx hS).mono ?_)
        · skip
          go_simp
        · rintro e w' ⟨v', rfl, hv, hq⟩
          exact ⟨_, rfl, hq, fun d hd => by cases hd; exact hv⟩
      · have q13 := hG.old 13 (by kernel_rfl) (by kernel_rfl)
        obtain ⟨z0, z1⟩ := HCF.out wx hS
        refine step_value (v := .agg #[.slice A1 n c1, .slice B1 0 d1]) (w' := wx) rfl rfl ?_ (Below.refl _ _) (fun d hd => by cases hd; exact rfl)
        go_simp
      · obtain ⟨_, q57, rfl⟩ := hG.new 57 (by kernel_rfl) (by kernel_rfl)
        refine step_call (w1 := wx) (f := 12) (args := #[.agg #[.slice A1 n c1, .slice B1 0 d1]]) rfl rfl ?_ ((ref_dv (HF.out.on hS) (by simp)).mono ?_)
        · skip
          go_simp
        · rintro e w' ⟨v', rfl, hv, hq⟩
          exact ⟨_, rfl, hq, fun d hd => by cases hd; exact hv⟩
      · obtain ⟨v56, q56, h56⟩ := hG.new 56 (by kernel_rfl) (by kernel_rfl)
        have p56 : DV wx v56 F [] := h56
        obtain ⟨v58, q58, h58⟩ := hG.new 58 (by kernel_rfl) (by kernel_rfl)
        have p58 : DV wx v58 F [] := h58
        refine step_call (w1 := wx) (f := 14) (args := #[v56, v58]) rfl rfl ?_ ((same_eq p56 p58 (by rw [HFN.out]; omega) (by simp)).mono ?_)
        · clear h56 p56 h58 p58
          go_simp
        · rintro e w' ⟨rfl, hq⟩
          exact ⟨_, rfl, hq, fun d hd => by cases hd; exact rfl⟩
      · obtain ⟨_, q59, rfl⟩ := hG.new 59 (by kernel_rfl) (by kernel_rfl)
        refine step_value (v := .bool false) (w' := wx) rfl rfl ?_ (Below.refl _ _) (fun d hd => by cases hd; exact rfl)
        go_simp
      · obtain ⟨_, q60, rfl⟩ := hG.new 60 (by kernel_rfl) (by kernel_rfl)
        refine step_value (v := .bool false) (w' := wx) rfl rfl ?_ (Below.refl _ _) (fun d hd => by cases hd; exact rfl)
        go_simp
      · have q14 := hG.old 14 (by kernel_rfl) (by kernel_rfl)
        obtain ⟨_, q61, rfl⟩ := hG.new 61 (by kernel_rfl) (by kernel_rfl)
        obtain ⟨z0, z1⟩ := HCC.out wx hS
        refine step_value (v := .agg #[.slice A2 n c2, .slice B2 0 d2]) (w' := wx) rfl (by simp [Region.wanted, yielded, q61]) ?_ (Below.refl _ _) (fun d hd => by cases hd; exact rfl)
        go_simp
      · have q5 := hG.old 5 (by kernel_rfl) (by kernel_rfl)
        obtain ⟨_, q61, rfl⟩ := hG.new 61 (by kernel_rfl) (by kernel_rfl)
        refine step_value (v := .slice G r gc) (w' := wx) rfl (by simp [Region.wanted, yielded, q61]) ?_ (Below.refl _ _) (fun d hd => by cases hd; exact rfl)
        go_simp
      · obtain ⟨_, q62, rfl⟩ := hG.new 62 (by kernel_rfl) (by kernel_rfl)
        obtain ⟨_, q63, rfl⟩ := hG.new 63 (by kernel_rfl) (by kernel_rfl)
        obtain ⟨_, q61, rfl⟩ := hG.new 61 (by kernel_rfl) (by kernel_rfl)
        refine step_call (w1 := wx) (f := 16) (args := #[.agg #[.slice A2 n c2, .slice B2 0 d2], .slice G r gc]) rfl (by simp [Region.wanted, yielded, q61]) ?_ ((HCG.out wx hS).mono ?_)
        · skip
          go_simp
        · rintro e w' ⟨v', rfl, hv, hq⟩
          exact ⟨_, rfl, hq, fun d hd => by cases hd; exact hv⟩
      · have q14 := hG.old 14 (by kernel_rfl) (by kernel_rfl)
        obtain ⟨_, q61, rfl⟩ := hG.new 61 (by kernel_rfl) (by kernel_rfl)
        obtain ⟨z0, z1⟩ := HCC.out wx hS
        refine step_value (v := .agg #[.slice A2 n c2, .slice B2 0 d2]) (w' := wx) rfl (by simp [Region.wanted, yielded, q61]) ?_ (Below.refl _ _) (fun d hd => by cases hd; exact rfl)
        go_simp
      · obtain ⟨_, q65, rfl⟩ := hG.new 65 (by kernel_rfl) (by kernel_rfl)
        obtain ⟨_, q61, rfl⟩ := hG.new 61 (by kernel_rfl) (by kernel_rfl)
        refine step_call (w1 := wx) (f := 12) (args := #[.agg #[.slice A2 n c2, .slice B2 0 d2]]) rfl (by simp [Region.wanted, yielded, q61]) ?_ ((ref_dv (HC.out.on hS) (by simp)).mono ?_)
        · skip
          go_simp
        · rintro e w' ⟨v', rfl, hv, hq⟩
          exact ⟨_, rfl, hq, fun d hd => by cases hd; exact hv⟩
      · obtain ⟨v64, q64, h64⟩ := hG.new 64 (by kernel_rfl) (by kernel_rfl)
        have p64 : DV wx v64 C [] := h64
        obtain ⟨v66, q66, h66⟩ := hG.new 66 (by kernel_rfl) (by kernel_rfl)
        have p66 : DV wx v66 C [] := h66
        obtain ⟨_, q61, rfl⟩ := hG.new 61 (by kernel_rfl) (by kernel_rfl)
        refine step_call (w1 := wx) (f := 14) (args := #[v64, v66]) rfl (by simp [Region.wanted, yielded, q61]) ?_ ((same_eq p64 p66 (by rw [HCN.out]; omega) (by simp)).mono ?_)
        · clear h64 p64 h66 p66
          go_simp
        · rintro e w' ⟨rfl, hq⟩
          exact ⟨_, rfl, hq, fun d hd => by cases hd; exact rfl⟩
      · obtain ⟨_, q67, rfl⟩ := hG.new 67 (by kernel_rfl) (by kernel_rfl)
        obtain ⟨_, q61, rfl⟩ := hG.new 61 (by kernel_rfl) (by kernel_rfl)
        refine step_value (v := .bool false) (w' := wx) rfl (by simp [Region.wanted, yielded, q61]) ?_ (Below.refl _ _) (fun d hd => by cases hd; exact rfl)
        go_simp
      · obtain ⟨_, q61, rfl⟩ := hG.new 61 (by kernel_rfl) (by kernel_rfl)
        obtain ⟨_, q68, rfl⟩ := hG.new 68 (by kernel_rfl) (by kernel_rfl)
        refine step_value (v := .bool false) (w' := wx) rfl rfl ?_ (Below.refl _ _) (fun d hd => by cases hd; exact rfl)
        go_simp
      · obtain ⟨_, q69, rfl⟩ := hG.new 69 (by kernel_rfl) (by kernel_rfl)
        refine step_value (v := .bool false) (w' := wx) rfl rfl ?_ (Below.refl _ _) (fun d hd => by cases hd; exact rfl)
        go_simp
      · have q14 := hG.old 14 (by kernel_rfl) (by kernel_rfl)
        obtain ⟨_, q70, rfl⟩ := hG.new 70 (by kernel_rfl) (by kernel_rfl)
        obtain ⟨z0, z1⟩ := HCC.out wx hS
        refine step_value (v := .agg #[.slice A2 n c2, .slice B2 0 d2]) (w' := wx) rfl (by simp [Region.wanted, yielded, q70]) ?_ (Below.refl _ _) (fun d hd => by cases hd; exact rfl)
        go_simp
      · obtain ⟨_, q71, rfl⟩ := hG.new 71 (by kernel_rfl) (by kernel_rfl)
        obtain ⟨_, q70, rfl⟩ := hG.new 70 (by kernel_rfl) (by kernel_rfl)
        refine step_call (w1 := wx) (f := 15) (args := #[.agg #[.slice A2 n c2, .slice B2 0 d2]]) rfl (by simp [Region.wanted, yielded, q70]) ?_ ((HFC.out wx hS).mono ?_)
        · skip
          go_simp
        · rintro e w' ⟨v', rfl, hv, hq⟩
          exact ⟨_, rfl, hq, fun d hd => by cases hd; exact hv⟩
      · have q14 := hG.old 14 (by kernel_rfl) (by kernel_rfl)
        obtain ⟨_, q70, rfl⟩ := hG.new 70 (by kernel_rfl) (by kernel_rfl)
        obtain ⟨z0, z1⟩ := HCC.out wx hS
        refine step_value (v := .agg #[.slice A2 n c2, .slice B2 0 d2]) (w' := wx) rfl (by simp [Region.wanted, yielded, q70]) ?_ (Below.refl _ _) (fun d hd => by cases hd; exact rfl)
        go_simp
      · obtain ⟨_, q73, rfl⟩ := hG.new 73 (by kernel_rfl) (by kernel_rfl)
        obtain ⟨_, q70, rfl⟩ := hG.new 70 (by kernel_rfl) (by kernel_rfl)
        refine step_call (w1 := wx) (f := 12) (args := #[.agg #[.slice A2 n c2, .slice B2 0 d2]]) rfl (by simp [Region.wanted, yielded, q70]) ?_ ((ref_dv (HC.out.on hS) (by simp)).mono ?_)
        · skip
          go_simp
        · rintro e w' ⟨v', rfl, hv, hq⟩
          exact ⟨_, rfl, hq, fun d hd => by cases hd; exact hv⟩
      · obtain ⟨v72, q72, h72⟩ := hG.new 72 (by kernel_rfl) (by kernel_rfl)
        have p72 : DV wx v72 C [] := h72
        obtain ⟨v74, q74, h74⟩ := hG.new 74 (by kernel_rfl) (by kernel_rfl)
        have p74 : DV wx v74 C [] := h74
        obtain ⟨_, q70, rfl⟩ := hG.new 70 (by kernel_rfl) (by kernel_rfl)
        refine step_call (w1 := wx) (f := 14) (args := #[v72, v74]) rfl (by simp [Region.wanted, yielded, q70]) ?_ ((same_eq p72 p74 (by rw [HCN.out]; omega) (by simp)).mono ?_)
        · clear h72 p72 h74 p74
          go_simp
        · rintro e w' ⟨rfl, hq⟩
          exact ⟨_, rfl, hq, fun d hd => by cases hd; exact rfl⟩
      · obtain ⟨_, q75, rfl⟩ := hG.new 75 (by kernel_rfl) (by kernel_rfl)
        obtain ⟨_, q70, rfl⟩ := hG.new 70 (by kernel_rfl) (by kernel_rfl)
        refine step_value (v := .bool false) (w' := wx) rfl (by simp [Region.wanted, yielded, q70]) ?_ (Below.refl _ _) (fun d hd => by cases hd; exact rfl)
        go_simp
      · obtain ⟨_, q70, rfl⟩ := hG.new 70 (by kernel_rfl) (by kernel_rfl)
        obtain ⟨_, q76, rfl⟩ := hG.new 76 (by kernel_rfl) (by kernel_rfl)
        refine step_value (v := .bool false) (w' := wx) rfl rfl ?_ (Below.refl _ _) (fun d hd => by cases hd; exact rfl)
        go_simp

  intro f w5 hS5 hV5
  have h77 : f 77 = .bool false := hV5 77 (by decide)
  simp only [puts, Act.put, List.setIfInBounds_toArray, List.set_cons_succ, List.set_cons_zero]
  clear hV5
  rw [h77]
  clear h77 HCF HCC HFF HFC HCG HF HC HE HG HFN HCN HRF HRC
  have HD := Lib.hid (show DBlk w5 w.heap.size A n c B m d from Box.on HD.out hS5)
  have HB := Lib.hid (HB.out.trans (hS5.mono HB.out.size))
  clear hS5
  obtain ⟨k0, k1⟩ := DBlk.cells HD.out
  have hz := Box.lt HD.out
  have hput := put_dv (a := a) (HV0.out.on HB.out) (HA0.out.on HB.out) (by rw [HVL.out]; omega) (by rw [HLA.out]; omega) HR.out
  rw [HSL.out] at hput
  have hxl := putW_len n V a la
  have hxr2 := putW_right (a := a) (l := la) HR.out
  rw [HSL.out] at hxr2
  obtain ⟨X, hX⟩ : ∃ X, X = putW n V a la := ⟨_, rfl⟩
  obtain ⟨e1, he1⟩ : ∃ e1, e1 = putE n a la := ⟨_, rfl⟩
  rw [← hX] at hput hxl hxr2
  rw [← he1] at hput
  rw [HVL.out, HLA.out] at hxl
  have HXL := Lib.hid hxl
  have HXR := Lib.hid hxr2
  have HX0 := Lib.hid hX
  have HE1 := Lib.hid he1
  clear hX hxl hxr2 he1
  go_wp2_with fail
  refine hput.mono ?_
  clear hput k0 k1
  rintro e w6 ⟨v6, rfl, hv6, hb6⟩
  obtain ⟨A5, c5, B5, d5, rfl, hA5, hB5⟩ := hv6
  rw [HSL.out]
  generalize hmx : X.length = mx
  have HMX := Lib.hid hmx
  have HX := Lib.hid (show DV w6 (.agg #[.slice A5 n c5, .slice B5 mx d5]) S X from ⟨A5, c5, B5, d5, by rw [HSL.out, HMX.out], hA5, hB5⟩)
  have HD := Lib.hid (show DBlk w6 w.heap.size A n c B m d from Box.on HD.out hb6)
  have HB := Lib.hid (HB.out.trans (hb6.mono HB.out.size))
  have HD6 := Lib.hid (Box.lt HD.out)
  clear hb6 hz hA5 hB5 hmx
  have hb7 : Below w6.heap.size w6 (w6.alloc (.cells #[.slice A5 n c5, .slice B5 mx d5] 25)) := (Below.refl _ _).alloc (Nat.le_refl _) _
  have HE := Lib.hid (show DBlk (w6.alloc (.cells #[.slice A5 n c5, .slice B5 mx d5] 25)) w6.heap.size A5 n c5 B5 mx d5 from Box.fresh _ _ _)
  have HX := Lib.hid (HX.out.on hb7)
  have HD := Lib.hid (show DBlk _ w.heap.size A n c B m d from Box.on HD.out hb7)
  have HB := Lib.hid (HB.out.trans (hb7.mono HB.out.size))
  clear hb7
  rcases putE_cases n a la with hpe | hpe
  rotate_left
  · obtain rfl : e1 = 1 := by rw [HE1.out, hpe]
    have HXV := Lib.hid (show X = V by
      rw [HX0.out]
      unfold putE at hpe
      unfold putW
      split at hpe
      · cases hpe
      · rename_i h; rw [if_neg h])
    clear hpe
    go_wp2
    generalize hw0 : w6.alloc (.cells #[.slice A5 n c5, .slice B5 mx d5] 25) = w7 at *
    clear hw0
    have HX := Lib.hid (show DV w7 (.agg #[.slice A5 n c5, .slice B5 mx d5]) S V by rw [← HXV.out]; exact HX.out)
    have HBX := Lib.hid (show ∀ wx, Below w7.heap.size w7 wx → Below w.heap.size w wx from fun wx h => HB.out.trans (h.mono HB.out.size))
    have HC1 := Lib.hid (show ∀ wx, Below w7.heap.size w7 wx → wx.cell? ⟨w.heap.size, 0, none⟩ = some (.slice A n c) ∧ wx.cell? ⟨w.heap.size, 1, none⟩ = some (.slice B m d) from fun wx h => DBlk.cells (Box.on HD.out h))
    have HCX := Lib.hid (show ∀ wx, Below w7.heap.size w7 wx → wx.cell? ⟨w6.heap.size, 0, none⟩ = some (.slice A5 n c5) ∧ wx.cell? ⟨w6.heap.size, 1, none⟩ = some (.slice B5 mx d5) from fun wx h => DBlk.cells (Box.on HE.out h))
    refine wp_region_inv [87, 88, 89, 90, 91, 92, 93, 12] (by kernel_rfl) (by kernel_rfl) (fun w' => Below w7.heap.size w7 w') (fun wa wb => Below wa.heap.size wa wb) (OnceV8 A n c B m d A5 c5 B5 mx d5 S V) (by kernel_rfl) (fun wa wb h1 h2 => h2.trans (h1.mono h2.size)) (fun t v wa wb h1 h2 => h2.on h1) (Below.refl _ _).drew (steps_of ?_) ?_
    ·
      refine Steps1.cons (fun ax wx hS hG => ?_) (Steps1.cons (fun ax wx hS hG => ?_) (Steps1.cons (fun ax wx hS hG => ?_) (Steps1.cons (fun ax wx hS hG => ?_) (Steps1.cons (fun ax wx hS hG => ?_) (Steps1.cons (fun ax wx hS hG => ?_) (Steps1.cons (fun ax wx hS hG => ?_) (Steps1.cons (fun ax wx hS hG => ?_) Steps1.nil)))))))
      · have q15 := hG.old 15 (by kernel_rfl) (by kernel_rfl)
        obtain ⟨z0, z1⟩ := HCX.out wx hS
        refine step_value (v := .agg #[.slice A5 n c5, .slice B5 mx d5]) (w' := wx) rfl rfl ?_ (Below.refl _ _) (fun d hd => by cases hd; exact rfl)
        go_simp
      · have q6 := hG.old 6 (by kernel_rfl) (by kernel_rfl)
        obtain ⟨z0, z1⟩ := HC1.out wx hS
        refine step_value (v := .agg #[.slice A n c, .slice B m d]) (w' := wx) rfl rfl ?_ (Below.refl _ _) (fun d hd => by cases hd; exact rfl)
        go_simp
      · obtain ⟨_, q88, rfl⟩ := hG.new 88 (by kernel_rfl) (by kernel_rfl)
        refine step_call (w1 := wx) (f := 12) (args := #[.agg #[.slice A n c, .slice B m d]]) rfl rfl ?_ ((ref_dv (HV0.out.on (HBX.out wx hS)) (by rw [HVL.out]; omega)).mono ?_)
        · skip
          go_simp
        · rintro e w' ⟨v', rfl, hv, hq⟩
          exact ⟨_, rfl, hq, fun d hd => by cases hd; exact hv⟩
      · obtain ⟨_, q87, rfl⟩ := hG.new 87 (by kernel_rfl) (by kernel_rfl)
        obtain ⟨v89, q89, h89⟩ := hG.new 89 (by kernel_rfl) (by kernel_rfl)
        have p89 : DV wx v89 S V := h89
        refine step_call (w1 := wx) (f := 14) (args := #[.agg #[.slice A5 n c5, .slice B5 mx d5], v89]) rfl rfl ?_ ((same_eq (HX.out.on hS) p89 (by rw [HSL.out]; omega) (by rw [HVL.out]; omega)).mono ?_)
        · clear h89 p89
          go_simp
        · rintro e w' ⟨rfl, hq⟩
          exact ⟨_, rfl, hq, fun d hd => by cases hd; exact rfl⟩
      · obtain ⟨_, q90, rfl⟩ := hG.new 90 (by kernel_rfl) (by kernel_rfl)
        refine step_value (v := .bool true) (w' := wx) rfl rfl ?_ (Below.refl _ _) (fun d hd => by cases hd; exact rfl)
        go_simp
      · obtain ⟨_, q91, rfl⟩ := hG.new 91 (by kernel_rfl) (by kernel_rfl)
        refine step_call (w1 := wx) (f := 8) (args := #[]) rfl (by simp [Region.wanted, yielded, q91]) ?_ ((awake_true wx).mono ?_)
        · skip
          go_simp
        · rintro e w' ⟨rfl, hq⟩
          exact ⟨_, rfl, hq, fun d hd => by cases hd; exact rfl⟩
      · obtain ⟨_, q91, rfl⟩ := hG.new 91 (by kernel_rfl) (by kernel_rfl)
        obtain ⟨_, q92, rfl⟩ := hG.new 92 (by kernel_rfl) (by kernel_rfl)
        refine step_value (v := .bool true) (w' := wx) rfl rfl ?_ (Below.refl _ _) (fun d hd => by cases hd; exact rfl)
        go_simp
      · obtain ⟨_, q93, rfl⟩ := hG.new 93 (by kernel_rfl) (by kernel_rfl)
        refine step_value (v := .bool true) (w' := wx) rfl rfl ?_ (Below.refl _ _) (fun d hd => by cases hd; exact rfl)
        go_simp

    intro f w8 hS8 hV8
    have hv8 : f 12 = .bool true := hV8 12 (by decide)
    simp only [puts, Act.put, List.setIfInBounds_toArray, List.set_cons_succ, List.set_cons_zero]
    clear hV8
    rw [hv8]
    go_wp2
    go_ret
    exact ⟨rfl, HB.out.trans (hS8.mono HB.out.size)⟩
  obtain rfl : e1 = 0 := by rw [HE1.out, hpe]
  have HPB := Lib.hid (show putsB n a la = true by
    unfold putE at hpe
    split at hpe
    · assumption
    · cases hpe)
  have hab : 0 ≤ a ∧ a + qa ≤ n := by
    have h := HPB.out
    unfold putsB hasB at h
    rw [Bool.and_eq_true, decide_eq_true_eq, HLA.out] at h
    omega
  clear hpe
  have hwr : IntKind.i64.wrap (a + (qa : Int)) = a + (qa : Int) := IntWalk.i64_in _ (by omega)
  obtain ⟨k0, k1⟩ := DBlk.cells HE.out
  have hz := Box.lt HE.out
  have hput := put_dv (a := a + (qa : Int)) HX.out (HB0.out.on HB.out) (by rw [HMX.out]; have := HXL.out; rw [HMX.out] at this; omega) (by rw [HLB.out]; omega) HXR.out
  rw [HSL.out] at hput
  have hx2l := putW_len n X (a + (qa : Int)) lb
  obtain ⟨X2, hX2⟩ : ∃ X2, X2 = putW n X (a + (qa : Int)) lb := ⟨_, rfl⟩
  obtain ⟨e2, he2⟩ : ∃ e2, e2 = putE n (a + (qa : Int)) lb := ⟨_, rfl⟩
  obtain ⟨Y, hY⟩ : ∃ Y, Y = putW n V a (la ++ lb) := ⟨_, rfl⟩
  have hyl := putW_len n V a (la ++ lb)
  rw [← hX2] at hput hx2l
  rw [← he2] at hput
  rw [← hY, List.length_append, HVL.out, HLA.out, HLB.out] at hyl
  have HE2 := Lib.hid (show putE n a (la ++ lb) = e2 by rw [he2, putE_two n a la lb HPB.out, HLA.out])
  have HXY := Lib.hid (show e2 = 0 → X2 = Y by
    intro h
    have h2 := putW_two n V a la lb HPB.out (by rw [putE_two n a la lb HPB.out, HLA.out, ← he2]; exact h)
    rw [HLA.out, ← HX0.out, ← hX2, ← hY] at h2
    exact h2)
  have HE01 := Lib.hid (show e2 = 0 ∨ e2 = 1 by rw [he2]; exact putE_cases _ _ _)
  have HYB := Lib.hid (show Y.length ≤ 1000 by omega)
  have HY0 := Lib.hid hY
  clear hX2 he2 hY hx2l hyl
  go_wp2_with fail
  refine hput.mono ?_
  clear hput k0 k1
  rintro e w8 ⟨v8, rfl, hv8, hb8⟩
  obtain ⟨A6, c6, B6, d6, rfl, hA6, hB6⟩ := hv8
  rw [HSL.out]
  generalize hmx2 : X2.length = mx2
  have HMX2 := Lib.hid hmx2
  have HX2 := Lib.hid (show DV w8 (.agg #[.slice A6 n c6, .slice B6 mx2 d6]) S X2 from ⟨A6, c6, B6, d6, by rw [HSL.out, HMX2.out], hA6, hB6⟩)
  have HD := Lib.hid (show DBlk w8 w.heap.size A n c B m d from Box.on HD.out hb8)
  have HE := Lib.hid (show DBlk w8 w6.heap.size A5 n c5 B5 mx d5 from Box.on HE.out hb8)
  have hle6 : w.heap.size < w6.heap.size := by
    have h1 := HD6.out
    omega
  have HB := Lib.hid (HB.out.trans (hb8.mono HB.out.size))
  clear hb8 hA6 hB6 hmx2 hz
  have f0 := Box.free HE.out 0
  have f1 := Box.free HE.out 1
  obtain ⟨k0, k1⟩ := DBlk.cells HE.out
  have hz := Box.lt HE.out
  have HX2 := Lib.hid (HX2.out.apart HE.out A6 n c6 B6 mx2 d6)
  have HD := Lib.hid (show DBlk ((w8.setCell ⟨w6.heap.size, 0, none⟩ (.slice A6 n c6)).setCell ⟨w6.heap.size, 1, none⟩ (.slice B6 mx2 d6)) w.heap.size A n c B m d from Box.away (Box.away HD.out (by simp; omega) _) (by simp; omega) _)
  have HB := Lib.hid (show Below w.heap.size w ((w8.setCell ⟨w6.heap.size, 0, none⟩ (.slice A6 n c6)).setCell ⟨w6.heap.size, 1, none⟩ (.slice B6 mx2 d6)) from (HB.out.setCell (by simp; omega) _).setCell (by simp; omega) _)
  have HE := Lib.hid (show DBlk ((w8.setCell ⟨w6.heap.size, 0, none⟩ (.slice A6 n c6)).setCell ⟨w6.heap.size, 1, none⟩ (.slice B6 mx2 d6)) w6.heap.size A6 n c6 B6 mx2 d6 from Box.set (Box.set HE.out 0 _) 1 _)
  go_wp2
  clear f0 f1 k0 k1 hz
  generalize hw0 : (w8.setCell ⟨w6.heap.size, 0, none⟩ (.slice A6 n c6)).setCell ⟨w6.heap.size, 1, none⟩ (.slice B6 mx2 d6) = w0 at *
  clear hw0
  generalize hmy : Y.length = my
  have HYL := Lib.hid hmy
  clear hmy
  have HBX := Lib.hid (show ∀ wx, Below w0.heap.size w0 wx → Below w.heap.size w wx from fun wx h => HB.out.trans (h.mono HB.out.size))
  have HC1 := Lib.hid (show ∀ wx, Below w0.heap.size w0 wx → wx.cell? ⟨w.heap.size, 0, none⟩ = some (.slice A n c) ∧ wx.cell? ⟨w.heap.size, 1, none⟩ = some (.slice B m d) from fun wx h => DBlk.cells (Box.on HD.out h))
  have HTA := Lib.hid (show ∀ wx, Below w0.heap.size w0 wx → Strs wx wx.heap.size Ta la ∧ (Ta = none → tca = 0) from fun wx h => ⟨HSA.out.on (HBX.out wx h), HNA.out⟩)
  have HTB := Lib.hid (show ∀ wx, Below w0.heap.size w0 wx → Strs wx wx.heap.size Tb lb ∧ (Tb = none → tcb = 0) from fun wx h => ⟨HSB.out.on (HBX.out wx h), HNB.out⟩)
  have HPY := Lib.hid (show ∀ wx, Below w0.heap.size w0 wx → ∀ t, SV wx t (la ++ lb) → Calls Try.prog 13 #[.agg #[.slice A n c, .slice B m d], .int .i64 a, t] wx fun e w' => ∃ v', e = .returned (.tuple #[v', .int .i64 e2]) ∧ DV w' v' S Y ∧ Below wx.heap.size wx w' from fun wx h t ht => by
    have h1 := put_dv (a := a) (HV0.out.on (HBX.out wx h)) ht (by rw [HVL.out]; omega) (by rw [List.length_append, HLA.out, HLB.out]; omega) HR.out
    rw [HSL.out, HE2.out, ← HY0.out] at h1
    exact h1)
  refine wp_region_phase 5 [105, 106, 107, 108, 109, 110, 111, 112, 104, 113, 114, 18, 19] (by kernel_rfl) [4, 6, 12] [] (fun _ _ => True) 3 rfl (by kernel_rfl) (fun _ w' => Below w0.heap.size w0 w') (fun wa wb => Below wa.heap.size wa wb) (OnceV10 w0.heap.size n my (.agg #[.slice A n c, .slice B m d]) a (.slice Ta qa tca) (.slice Tb qb tcb) la lb S Y e2) (by kernel_rfl) (fun _ wa wb h1 h2 => h2.trans (h1.mono h2.size)) (fun _ t v wa wb h1 h2 => h2.on h1) (fun _ _ _ _ _ _ _ => trivial) (Below.refl _ _).drew trivial (phase3 ?_ ?_ ?_ ?_) ?_
  ·
      refine Steps1.cons (fun _ ax wx hS hJ hG => ?_) (Steps1.cons (fun _ ax wx hS hJ hG => ?_) (Steps1.cons (fun _ ax wx hS hJ hG => ?_) (Steps1.cons (fun _ ax wx hS hJ hG => ?_) (Steps1.cons (fun _ ax wx hS hJ hG => ?_) (Steps1.cons (fun _ ax wx hS hJ hG => ?_) (Steps1.cons (fun hin _ _ _ _ _ => out (by kernel_rfl) hin) (Steps1.cons (fun hin _ _ _ _ _ => out (by kernel_rfl) hin) (Steps1.cons (fun hin _ _ _ _ _ => out (by kernel_rfl) hin) (Steps1.cons (fun hin _ _ _ _ _ => out (by kernel_rfl) hin) (Steps1.cons (fun hin _ _ _ _ _ => out (by kernel_rfl) hin) (Steps1.cons (fun _ ax wx hS hJ hG => ?_) (Steps1.cons (fun hin _ _ _ _ _ => out (by kernel_rfl) hin) (Steps1.cons (fun hin _ _ _ _ _ => out (by kernel_rfl) hin) Steps1.nil)))))))))))))
      · have q6 := hG.old 6 (by kernel_rfl) (by kernel_rfl)
        obtain ⟨z0, z1⟩ := HC1.out wx hS
        refine step_slot rfl rfl rfl (step_value (v := .agg #[.slice A n c, .slice B m d]) (w' := wx) rfl rfl ?_ (Below.refl _ _) (fun d hd => by cases hd; exact rfl))
        go_simp
      · have q1 := hG.old 1 (by kernel_rfl) (by kernel_rfl)
        refine step_slot rfl rfl rfl (step_value (v := .int .i64 a) (w' := wx) rfl rfl ?_ (Below.refl _ _) (fun d hd => by cases hd; exact rfl))
        go_simp
      · refine step_slot rfl rfl rfl (step_value (v := .slice (some ⟨wx.heap.size, 0, none⟩) 0 0) (w' := wx.alloc (.cells #[] 9)) rfl rfl ?_ ((Below.refl _ _).alloc (Nat.le_refl _) _) (fun d hd => by cases hd; exact fun _ => World.ownsRow_made wx #[] 0 hS.size (Nat.zero_le _) rfl))
        go_simp
      · have q2 := hG.old 2 (by kernel_rfl) (by kernel_rfl)
        refine step_slot rfl rfl rfl (step_value (v := .slice Ta qa tca) (w' := wx) rfl rfl ?_ (Below.refl _ _) (fun d hd => by cases hd; exact rfl))
        go_simp
      · obtain ⟨v1, q1, h1⟩ := hG.new 107 (by kernel_rfl) (by kernel_rfl)
        obtain ⟨_, q2, rfl⟩ := hG.new 108 (by kernel_rfl) (by kernel_rfl)
        have hown : wx.ownsRow w0.heap.size 9 1 v1 0 [] := (show 0 = 0 → _ from h1) rfl
        obtain ⟨v2, w2, hr, hown2, hg⟩ := run_append_sv wx 22 w0.heap.size v1 0 [] hown wx.heap.size Ta qa tca la HLA.out (HTA.out wx hS).1 (HTA.out wx hS).2 (by first | omega | (rw [HLA.out]; omega)) hS.size
        have hS2 : Below w0.heap.size w0 w2 := hS.grown hg hS.size (fun k hk => (hown.lt k hk).1)
        refine step_marked (v := v2) (w' := w2) rfl rfl rfl rfl ?_ hS2 trivial ?_ ?_
        · have e1 : ax.eval (.tmp 107) = v1 := by simp [Act.eval, q1]
          have e2 : ax.eval (.tmp 108) = .slice Ta qa tca := by simp [Act.eval, q2]
          unfold execOp
          simp only [resolve, invoke, builtin, Sem.run_bind, Sem.run_pure, Result.andThen_ok, List.map_toArray, List.map_cons, List.map_nil, e1, e2, hr]
        · exact fun _ => (by rw [HLA.out]; simpa using hown2)
        · intro t u _ ht hu hV
          unfold OnceV10 at hV ⊢
          split at hV
          · exact hV
          · exact hV
          · exact fun h => absurd h (by decide)
          · exact hV
          · first | exact absurd rfl ht | exact fun h => absurd h (by decide)
          · exact hV
          · first | exact absurd rfl ht | exact fun h => absurd h (by decide)
          · exact absurd hV.1 (by decide)
          · exact absurd hV.1 (by decide)
          · exact absurd hV.1 (by decide)
          · exact hV
          · exact ⟨fun _ => (hV.1 (by decide)).grown hown hg, fun h => absurd h (by decide)⟩
          · exact hV
          · trivial
      · have q3 := hG.old 3 (by kernel_rfl) (by kernel_rfl)
        refine step_slot rfl rfl rfl (step_value (v := .slice Tb qb tcb) (w' := wx) rfl rfl ?_ (Below.refl _ _) (fun d hd => by cases hd; exact rfl))
        go_simp
      · refine step_slot rfl rfl rfl (step_value (v := ptr wx.heap.size) (w' := wx.alloc (.cells #[.slice none 0 0, .slice none 0 0] 25)) rfl rfl ?_ ((Below.refl _ _).alloc (Nat.le_refl _) _) (fun d hd => by cases hd; exact ⟨fun _ => Zero.fresh wx hS.size, fun h => absurd h (by decide)⟩))
        unfold ptr
        go_simp

  ·
      refine Steps1.cons (fun _ ax wx hS hJ hG => ?_) (Steps1.cons (fun _ ax wx hS hJ hG => ?_) (Steps1.cons (fun hin _ _ _ _ _ => out (by kernel_rfl) hin) (Steps1.cons (fun hin _ _ _ _ _ => out (by kernel_rfl) hin) (Steps1.cons (fun hin _ _ _ _ _ => out (by kernel_rfl) hin) (Steps1.cons (fun _ ax wx hS hJ hG => ?_) (Steps1.cons (fun _ ax wx hS hJ hG => ?_) (Steps1.cons (fun hin _ _ _ _ _ => out (by kernel_rfl) hin) (Steps1.cons (fun hin _ _ _ _ _ => out (by kernel_rfl) hin) (Steps1.cons (fun hin _ _ _ _ _ => out (by kernel_rfl) hin) (Steps1.cons (fun hin _ _ _ _ _ => out (by kernel_rfl) hin) (Steps1.cons (fun _ ax wx hS hJ hG => ?_) (Steps1.cons (fun hin _ _ _ _ _ => out (by kernel_rfl) hin) (Steps1.cons (fun hin _ _ _ _ _ => out (by kernel_rfl) hin) Steps1.nil)))))))))))))
      · have q6 := hG.old 6 (by kernel_rfl) (by kernel_rfl)
        obtain ⟨z0, z1⟩ := HC1.out wx hS
        refine step_slot rfl rfl rfl (step_value (v := .agg #[.slice A n c, .slice B m d]) (w' := wx) rfl rfl ?_ (Below.refl _ _) (fun d hd => by cases hd; exact rfl))
        go_simp
      · have q1 := hG.old 1 (by kernel_rfl) (by kernel_rfl)
        refine step_slot rfl rfl rfl (step_value (v := .int .i64 a) (w' := wx) rfl rfl ?_ (Below.refl _ _) (fun d hd => by cases hd; exact rfl))
        go_simp
      · have q3 := hG.old 3 (by kernel_rfl) (by kernel_rfl)
        refine step_slot rfl rfl rfl (step_value (v := .slice Tb qb tcb) (w' := wx) rfl rfl ?_ (Below.refl _ _) (fun d hd => by cases hd; exact rfl))
        go_simp
      · obtain ⟨v1, q1, h1⟩ := hG.new 109 (by kernel_rfl) (by kernel_rfl)
        obtain ⟨_, q2, rfl⟩ := hG.new 110 (by kernel_rfl) (by kernel_rfl)
        have hown : wx.ownsRow w0.heap.size 9 1 v1 la.length (la.map Value.string) := (show 1 = 1 → _ from h1) rfl
        obtain ⟨v2, w2, hr, hown2, hg⟩ := run_append_sv wx 22 w0.heap.size v1 la.length (la.map Value.string) hown wx.heap.size Tb qb tcb lb HLB.out (HTB.out wx hS).1 (HTB.out wx hS).2 (by first | omega | (rw [HLA.out]; omega)) hS.size
        have hS2 : Below w0.heap.size w0 w2 := hS.grown hg hS.size (fun k hk => (hown.lt k hk).1)
        refine step_marked (v := v2) (w' := w2) rfl rfl rfl rfl ?_ hS2 trivial ?_ ?_
        · have e1 : ax.eval (.tmp 109) = v1 := by simp [Act.eval, q1]
          have e2 : ax.eval (.tmp 110) = .slice Tb qb tcb := by simp [Act.eval, q2]
          unfold execOp
          simp only [resolve, invoke, builtin, Sem.run_bind, Sem.run_pure, Result.andThen_ok, List.map_toArray, List.map_cons, List.map_nil, e1, e2, hr]
        · exact fun _ => sv_own HLB.out hown2
        · intro t u _ ht hu hV
          unfold OnceV10 at hV ⊢
          split at hV
          · exact hV
          · exact hV
          · exact fun h => absurd h (by decide)
          · exact hV
          · first | exact absurd rfl ht | exact fun h => absurd h (by decide)
          · exact hV
          · first | exact absurd rfl ht | exact fun h => absurd h (by decide)
          · exact absurd hV.1 (by decide)
          · exact absurd hV.1 (by decide)
          · exact absurd hV.1 (by decide)
          · exact hV
          · exact ⟨fun _ => (hV.1 (by decide)).grown hown hg, fun h => absurd h (by decide)⟩
          · exact hV
          · trivial
      · refine step_slot rfl rfl rfl (step_value (v := ptr wx.heap.size) (w' := wx.alloc (.cells #[.slice none 0 0, .slice none 0 0] 25)) rfl rfl ?_ ((Below.refl _ _).alloc (Nat.le_refl _) _) (fun d hd => by cases hd; exact ⟨fun _ => Zero.fresh wx hS.size, fun h => absurd h (by decide)⟩))
        unfold ptr
        go_simp

  ·
      refine Steps1.cons (fun _ ax wx hS hJ hG => ?_) (Steps1.cons (fun _ ax wx hS hJ hG => ?_) (Steps1.cons (fun hin _ _ _ _ _ => out (by kernel_rfl) hin) (Steps1.cons (fun hin _ _ _ _ _ => out (by kernel_rfl) hin) (Steps1.cons (fun hin _ _ _ _ _ => out (by kernel_rfl) hin) (Steps1.cons (fun hin _ _ _ _ _ => out (by kernel_rfl) hin) (Steps1.cons (fun hin _ _ _ _ _ => out (by kernel_rfl) hin) (Steps1.cons (fun _ ax wx hS hJ hG => ?_) (Steps1.cons (fun _ ax wx hS hJ hG => ?_) (Steps1.cons (fun _ ax wx hS hJ hG => ?_) (Steps1.cons (fun _ ax wx hS hJ hG => ?_) (Steps1.cons (fun _ ax wx hS hJ hG => ?_) (Steps1.cons (fun _ ax wx hS hJ hG => ?_) (Steps1.cons (fun hin _ _ _ _ _ => out (by kernel_rfl) hin) Steps1.nil)))))))))))))
      · have q6 := hG.old 6 (by kernel_rfl) (by kernel_rfl)
        obtain ⟨z0, z1⟩ := HC1.out wx hS
        refine step_slot rfl rfl rfl (step_value (v := .agg #[.slice A n c, .slice B m d]) (w' := wx) rfl rfl ?_ (Below.refl _ _) (fun d hd => by cases hd; exact rfl))
        go_simp
      · have q1 := hG.old 1 (by kernel_rfl) (by kernel_rfl)
        refine step_slot rfl rfl rfl (step_value (v := .int .i64 a) (w' := wx) rfl rfl ?_ (Below.refl _ _) (fun d hd => by cases hd; exact rfl))
        go_simp
      · obtain ⟨_, q105, rfl⟩ := hG.new 105 (by kernel_rfl) (by kernel_rfl)
        obtain ⟨_, q106, rfl⟩ := hG.new 106 (by kernel_rfl) (by kernel_rfl)
        obtain ⟨v111, q111, h111⟩ := hG.new 111 (by kernel_rfl) (by kernel_rfl)
        have p111 : 2 = 2 → SV wx v111 (la ++ lb) := h111
        refine step_slot rfl rfl rfl (step_call (w1 := wx) (f := 13) (args := #[.agg #[.slice A n c, .slice B m d], .int .i64 a, v111]) rfl rfl ?_ ((HPY.out wx hS v111 (p111 rfl)).mono ?_))
        · clear h111 p111
          go_simp
        · rintro e w' ⟨v', rfl, hv, hq⟩
          exact ⟨_, rfl, hq, fun d hd => by cases hd; exact ⟨by decide, v', rfl, hv⟩⟩
      · obtain ⟨v1, q1, h1⟩ := hG.new 112 (by kernel_rfl) (by kernel_rfl)
        obtain ⟨_, u, rfl, hu⟩ : Put2 2 e2 S Y wx v1 := h1
        refine step_slot rfl rfl rfl (step_value (v := .tuple #[u, .int .i64 e2]) (w' := wx) rfl rfl ?_ (Below.refl _ _) (fun d hd => by cases hd; exact ⟨by decide, u, rfl, hu⟩))
        clear hu
        go_simp
      · obtain ⟨v1, q1, h1⟩ := hG.new 104 (by kernel_rfl) (by kernel_rfl)
        obtain ⟨_, u, rfl, hu⟩ : Put2 2 e2 S Y wx v1 := h1
        refine step_slot rfl rfl rfl (step_value (v := u) (w' := wx) rfl rfl ?_ (Below.refl _ _) (fun d hd => by cases hd; exact ⟨by decide, hu⟩))
        clear hu
        go_simp
      · obtain ⟨v1, q1, h1⟩ := hG.new 104 (by kernel_rfl) (by kernel_rfl)
        obtain ⟨_, u, rfl, hu⟩ : Put2 2 e2 S Y wx v1 := h1
        refine step_slot rfl rfl rfl (step_value (v := .int .i64 e2) (w' := wx) rfl rfl ?_ (Below.refl _ _) (fun d hd => by cases hd; exact rfl))
        clear hu
        go_simp
      · refine step_slot rfl rfl rfl (step_value (v := ptr wx.heap.size) (w' := wx.alloc (.cells #[.slice none 0 0, .slice none 0 0] 25)) rfl rfl ?_ ((Below.refl _ _).alloc (Nat.le_refl _) _) (fun d hd => by cases hd; exact ⟨fun _ => Zero.fresh wx hS.size, fun h => absurd h (by decide)⟩))
        unfold ptr
        go_simp
      · obtain ⟨v18, q18, h18⟩ := hG.new 18 (by kernel_rfl) (by kernel_rfl)
        obtain ⟨v113, q113, h113⟩ := hG.new 113 (by kernel_rfl) (by kernel_rfl)
        obtain ⟨g, rfl, hg, hz⟩ : Zero w0.heap.size wx v18 := (show (2 ≤ 2 → Zero w0.heap.size wx v18) ∧ _ from h18).1 (Nat.le_refl _)
        obtain ⟨_, A1', c1', B1', d1', rfl, hA1', hB1'⟩ : Dv2 2 S Y wx v113 := h113
        rw [HSL.out, HYL.out] at q113
        have hdv : DV wx (.agg #[.slice A1' n c1', .slice B1' my d1']) S Y := ⟨A1', c1', B1', d1', by rw [HSL.out, HYL.out], hA1', hB1'⟩
        have f0 := Box.free hz 0
        have f1 := Box.free hz 1
        obtain ⟨k0, k1⟩ := DBlk.cells hz
        refine step_store (w' := laidD wx g A1' n c1' B1' my d1') rfl rfl rfl rfl ?_ (laid_below hS hg) trivial ?_
        · clear h18 hdv hz hA1' hB1' hS
          unfold laidD
          unfold ptr at q18
          go_simp
        · intro t u _ hu hV
          unfold OnceV10 at hV ⊢
          split at hV
          · exact hV
          · exact hV
          · exact fun h => absurd h (by decide)
          · exact hV
          · exact fun h => absurd h (by decide)
          · exact hV
          · exact fun h => absurd h (by decide)
          · obtain ⟨_, x, e, hx⟩ := hV
            exact ⟨by decide, x, e, laid_dv hz hx⟩
          · obtain ⟨_, x, e, hx⟩ := hV
            exact ⟨by decide, x, e, laid_dv hz hx⟩
          · exact ⟨by decide, laid_dv hz hV.2⟩
          · exact hV
          · obtain rfl : ptr g = u := by rw [q18] at hu; exact Option.some.inj hu
            exact ⟨fun h => absurd h (by decide), fun _ => laid_fill hg hz hdv⟩
          · exact hV
          · trivial

  ·
      refine Steps1.cons (fun hin _ _ _ _ _ => out (by kernel_rfl) hin) (Steps1.cons (fun hin _ _ _ _ _ => out (by kernel_rfl) hin) (Steps1.cons (fun hin _ _ _ _ _ => out (by kernel_rfl) hin) (Steps1.cons (fun hin _ _ _ _ _ => out (by kernel_rfl) hin) (Steps1.cons (fun hin _ _ _ _ _ => out (by kernel_rfl) hin) (Steps1.cons (fun hin _ _ _ _ _ => out (by kernel_rfl) hin) (Steps1.cons (fun hin _ _ _ _ _ => out (by kernel_rfl) hin) (Steps1.cons (fun hin _ _ _ _ _ => out (by kernel_rfl) hin) (Steps1.cons (fun hin _ _ _ _ _ => out (by kernel_rfl) hin) (Steps1.cons (fun hin _ _ _ _ _ => out (by kernel_rfl) hin) (Steps1.cons (fun _ ax wx hS hJ hG => ?_) (Steps1.cons (fun hin _ _ _ _ _ => out (by kernel_rfl) hin) (Steps1.cons (fun hin _ _ _ _ _ => out (by kernel_rfl) hin) (Steps1.cons (fun _ ax wx hS hJ hG => ?_) Steps1.nil)))))))))))))
      · obtain ⟨v1, q1, h1⟩ := hG.new 104 (by kernel_rfl) (by kernel_rfl)
        obtain ⟨_, u, rfl, hu⟩ : Put2 3 e2 S Y wx v1 := h1
        refine step_slot rfl rfl rfl (step_value (v := .int .i64 e2) (w' := wx) rfl rfl ?_ (Below.refl _ _) (fun d hd => by cases hd; exact rfl))
        clear hu
        go_simp
      · obtain ⟨_, q114, rfl⟩ := hG.new 114 (by kernel_rfl) (by kernel_rfl)
        refine step_slot rfl rfl rfl (step_value (v := .int .i64 e2) (w' := wx) rfl rfl ?_ (Below.refl _ _) (fun d hd => by cases hd; exact rfl))
        go_simp

  intro f w9 hS9 _ hV9
  obtain ⟨gY, A7, c7, B7, d7, e18, _, hdY, hvY⟩ : Fill w0.heap.size n my S Y w9 (f 18) := (show _ ∧ (2 < 3 → Fill w0.heap.size n my S Y w9 (f 18)) from hV9 18 (by decide)).2 (by decide)
  have e19 : f 19 = .int .i64 e2 := hV9 19 (by decide)
  simp only [puts, Act.put, List.setIfInBounds_toArray, List.set_cons_succ, List.set_cons_zero]
  rw [e18, e19]
  unfold ptr
  clear hV9 e18 e19
  have HY := Lib.hid hvY
  have HEY := Lib.hid hdY
  have HE := Lib.hid (show DBlk w9 w6.heap.size A6 n c6 B6 mx2 d6 from Box.on HE.out hS9)
  have HX2 := Lib.hid (HX2.out.on hS9)
  have HB := Lib.hid (HB.out.trans (hS9.mono HB.out.size))
  clear hvY hdY hS9 HC1 HTA HTB HPY HBX
  generalize f 104 = f104
  generalize f 105 = f105
  generalize f 106 = f106
  generalize f 107 = f107
  generalize f 108 = f108
  generalize f 109 = f109
  generalize f 110 = f110
  generalize f 111 = f111
  generalize f 112 = f112
  generalize f 113 = f113
  generalize f 114 = f114
  have HCX := Lib.hid (show ∀ wx, Below w9.heap.size w9 wx → wx.cell? ⟨w6.heap.size, 0, none⟩ = some (.slice A6 n c6) ∧ wx.cell? ⟨w6.heap.size, 1, none⟩ = some (.slice B6 mx2 d6) from fun wx h => DBlk.cells (Box.on HE.out h))
  have HCY := Lib.hid (show ∀ wx, Below w9.heap.size w9 wx → wx.cell? ⟨gY, 0, none⟩ = some (.slice A7 n c7) ∧ wx.cell? ⟨gY, 1, none⟩ = some (.slice B7 my d7) from fun wx h => DBlk.cells (Box.on HEY.out h))
  rcases HE01.out with rfl | rfl
  · have HX2 := Lib.hid (show DV w9 (.agg #[.slice A6 n c6, .slice B6 mx2 d6]) S Y by rw [← HXY.out rfl]; exact HX2.out)
    go_wp2
    refine wp_region_inv [115, 116, 117, 118, 119, 120, 121, 122, 123, 124, 125, 126, 127, 128, 129, 130, 12] (by kernel_rfl) (by kernel_rfl) (fun w' => Below w9.heap.size w9 w') (fun wa wb => Below wa.heap.size wa wb) (OnceV11A A6 n c6 B6 mx2 d6 A7 c7 B7 my d7 S Y) (by kernel_rfl) (fun wa wb h1 h2 => h2.trans (h1.mono h2.size)) (fun t v wa wb h1 h2 => h2.on h1) (Below.refl _ _).drew (steps_of ?_) ?_
    ·
      refine Steps1.cons (fun ax wx hS hG => ?_) (Steps1.cons (fun ax wx hS hG => ?_) (Steps1.cons (fun ax wx hS hG => ?_) (Steps1.cons (fun ax wx hS hG => ?_) (Steps1.cons (fun ax wx hS hG => ?_) (Steps1.cons (fun ax wx hS hG => ?_) (Steps1.cons (fun ax wx hS hG => ?_) (Steps1.cons (fun ax wx hS hG => ?_) (Steps1.cons (fun ax wx hS hG => ?_) (Steps1.cons (fun ax wx hS hG => ?_) (Steps1.cons (fun ax wx hS hG => ?_) (Steps1.cons (fun ax wx hS hG => ?_) (Steps1.cons (fun ax wx hS hG => ?_) (Steps1.cons (fun ax wx hS hG => ?_) (Steps1.cons (fun ax wx hS hG => ?_) (Steps1.cons (fun ax wx hS hG => ?_) (Steps1.cons (fun ax wx hS hG => ?_) Steps1.nil))))))))))))))))
      · have q17 := hG.old 17 (by kernel_rfl) (by kernel_rfl)
        refine step_value (v := .int .i64 0) (w' := wx) rfl rfl ?_ (Below.refl _ _) (fun d hd => by cases hd; exact rfl)
        go_simp
      · have q19 := hG.old 19 (by kernel_rfl) (by kernel_rfl)
        refine step_value (v := .int .i64 0) (w' := wx) rfl rfl ?_ (Below.refl _ _) (fun d hd => by cases hd; exact rfl)
        go_simp
      · obtain ⟨_, q115, rfl⟩ := hG.new 115 (by kernel_rfl) (by kernel_rfl)
        obtain ⟨_, q116, rfl⟩ := hG.new 116 (by kernel_rfl) (by kernel_rfl)
        refine step_value (v := .bool true) (w' := wx) rfl rfl ?_ (Below.refl _ _) (fun d hd => by cases hd; exact rfl)
        go_simp
      · obtain ⟨_, q117, rfl⟩ := hG.new 117 (by kernel_rfl) (by kernel_rfl)
        refine step_value (v := .bool true) (w' := wx) rfl rfl ?_ (Below.refl _ _) (fun d hd => by cases hd; exact rfl)
        go_simp
      · have q17 := hG.old 17 (by kernel_rfl) (by kernel_rfl)
        obtain ⟨_, q118, rfl⟩ := hG.new 118 (by kernel_rfl) (by kernel_rfl)
        refine step_value (v := .int .i64 0) (w' := wx) rfl (by simp [Region.wanted, yielded, q118]) ?_ (Below.refl _ _) (fun d hd => by cases hd; exact rfl)
        go_simp
      · obtain ⟨_, q119, rfl⟩ := hG.new 119 (by kernel_rfl) (by kernel_rfl)
        obtain ⟨_, q118, rfl⟩ := hG.new 118 (by kernel_rfl) (by kernel_rfl)
        refine step_value (v := .bool false) (w' := wx) rfl (by simp [Region.wanted, yielded, q118]) ?_ (Below.refl _ _) (fun d hd => by cases hd; exact rfl)
        go_simp
      · obtain ⟨_, q120, rfl⟩ := hG.new 120 (by kernel_rfl) (by kernel_rfl)
        obtain ⟨_, q118, rfl⟩ := hG.new 118 (by kernel_rfl) (by kernel_rfl)
        refine step_value (v := .bool false) (w' := wx) rfl (by simp [Region.wanted, yielded, q118]) ?_ (Below.refl _ _) (fun d hd => by cases hd; exact rfl)
        go_simp
      · have q15 := hG.old 15 (by kernel_rfl) (by kernel_rfl)
        obtain ⟨_, q121, rfl⟩ := hG.new 121 (by kernel_rfl) (by kernel_rfl)
        obtain ⟨z0, z1⟩ := HCX.out wx hS
        refine step_value (v := .agg #[.slice A6 n c6, .slice B6 mx2 d6]) (w' := wx) rfl (by simp [Region.wanted, yielded, q121]) ?_ (Below.refl _ _) (fun d hd => by cases hd; exact rfl)
        go_simp
      · have q18 := hG.old 18 (by kernel_rfl) (by kernel_rfl)
        obtain ⟨_, q121, rfl⟩ := hG.new 121 (by kernel_rfl) (by kernel_rfl)
        obtain ⟨z0, z1⟩ := HCY.out wx hS
        refine step_value (v := .agg #[.slice A7 n c7, .slice B7 my d7]) (w' := wx) rfl (by simp [Region.wanted, yielded, q121]) ?_ (Below.refl _ _) (fun d hd => by cases hd; exact rfl)
        go_simp
      · obtain ⟨_, q123, rfl⟩ := hG.new 123 (by kernel_rfl) (by kernel_rfl)
        obtain ⟨_, q121, rfl⟩ := hG.new 121 (by kernel_rfl) (by kernel_rfl)
        refine step_call (w1 := wx) (f := 12) (args := #[.agg #[.slice A7 n c7, .slice B7 my d7]]) rfl (by simp [Region.wanted, yielded, q121]) ?_ ((ref_dv (HY.out.on hS) (by have := HYB.out; omega)).mono ?_)
        · skip
          go_simp
        · rintro e w' ⟨v', rfl, hv, hq⟩
          exact ⟨_, rfl, hq, fun d hd => by cases hd; exact hv⟩
      · obtain ⟨_, q122, rfl⟩ := hG.new 122 (by kernel_rfl) (by kernel_rfl)
        obtain ⟨v124, q124, h124⟩ := hG.new 124 (by kernel_rfl) (by kernel_rfl)
        have p124 : DV wx v124 S Y := h124
        obtain ⟨_, q121, rfl⟩ := hG.new 121 (by kernel_rfl) (by kernel_rfl)
        refine step_call (w1 := wx) (f := 14) (args := #[.agg #[.slice A6 n c6, .slice B6 mx2 d6], v124]) rfl (by simp [Region.wanted, yielded, q121]) ?_ ((same_eq (HX2.out.on hS) p124 (by rw [HSL.out]; omega) (by have := HYB.out; omega)).mono ?_)
        · clear h124 p124
          go_simp
        · rintro e w' ⟨rfl, hq⟩
          exact ⟨_, rfl, hq, fun d hd => by cases hd; exact rfl⟩
      · obtain ⟨_, q121, rfl⟩ := hG.new 121 (by kernel_rfl) (by kernel_rfl)
        obtain ⟨_, q125, rfl⟩ := hG.new 125 (by kernel_rfl) (by kernel_rfl)
        obtain ⟨_, q118, rfl⟩ := hG.new 118 (by kernel_rfl) (by kernel_rfl)
        refine step_value (v := .bool true) (w' := wx) rfl (by simp [Region.wanted, yielded, q118]) ?_ (Below.refl _ _) (fun d hd => by cases hd; exact rfl)
        go_simp
      · obtain ⟨_, q118, rfl⟩ := hG.new 118 (by kernel_rfl) (by kernel_rfl)
        obtain ⟨_, q126, rfl⟩ := hG.new 126 (by kernel_rfl) (by kernel_rfl)
        refine step_value (v := .bool true) (w' := wx) rfl rfl ?_ (Below.refl _ _) (fun d hd => by cases hd; exact rfl)
        go_simp
      · obtain ⟨_, q127, rfl⟩ := hG.new 127 (by kernel_rfl) (by kernel_rfl)
        refine step_value (v := .bool true) (w' := wx) rfl rfl ?_ (Below.refl _ _) (fun d hd => by cases hd; exact rfl)
        go_simp
      · obtain ⟨_, q128, rfl⟩ := hG.new 128 (by kernel_rfl) (by kernel_rfl)
        refine step_call (w1 := wx) (f := 8) (args := #[]) rfl (by simp [Region.wanted, yielded, q128]) ?_ ((awake_true wx).mono ?_)
        · skip
          go_simp
        · rintro e w' ⟨rfl, hq⟩
          exact ⟨_, rfl, hq, fun d hd => by cases hd; exact rfl⟩
      · obtain ⟨_, q128, rfl⟩ := hG.new 128 (by kernel_rfl) (by kernel_rfl)
        obtain ⟨_, q129, rfl⟩ := hG.new 129 (by kernel_rfl) (by kernel_rfl)
        refine step_value (v := .bool true) (w' := wx) rfl rfl ?_ (Below.refl _ _) (fun d hd => by cases hd; exact rfl)
        go_simp
      · obtain ⟨_, q130, rfl⟩ := hG.new 130 (by kernel_rfl) (by kernel_rfl)
        refine step_value (v := .bool true) (w' := wx) rfl rfl ?_ (Below.refl _ _) (fun d hd => by cases hd; exact rfl)
        go_simp

    intro f wA hSA hVA
    have hvA : f 12 = .bool true := hVA 12 (by decide)
    simp only [puts, Act.put, List.setIfInBounds_toArray, List.set_cons_succ, List.set_cons_zero]
    clear hVA
    rw [hvA]
    go_wp2
    go_ret
    exact ⟨rfl, HB.out.trans (hSA.mono HB.out.size)⟩
  · go_wp2
    refine wp_region_inv [115, 116, 117, 118, 119, 120, 121, 122, 123, 124, 125, 126, 127, 128, 129, 130, 12] (by kernel_rfl) (by kernel_rfl) (fun w' => Below w9.heap.size w9 w') (fun wa wb => Below wa.heap.size wa wb) OnceV11B (by kernel_rfl) (fun wa wb h1 h2 => h2.trans (h1.mono h2.size)) (fun t v wa wb h1 h2 => h2.on h1) (Below.refl _ _).drew (steps_of ?_) ?_
    ·
      refine Steps1.cons (fun ax wx hS hG => ?_) (Steps1.cons (fun ax wx hS hG => ?_) (Steps1.cons (fun ax wx hS hG => ?_) (Steps1.cons (fun ax wx hS hG => ?_) (Steps1.cons (fun ax wx hS hG => ?_) (Steps1.cons (fun ax wx hS hG => ?_) (Steps1.cons (fun ax wx hS hG => ?_) (Steps1.cons (fun ax wx hS hG => ?_) (Steps1.cons (fun ax wx hS hG => ?_) (Steps1.cons (fun ax wx hS hG => ?_) (Steps1.cons (fun ax wx hS hG => ?_) (Steps1.cons (fun ax wx hS hG => ?_) (Steps1.cons (fun ax wx hS hG => ?_) (Steps1.cons (fun ax wx hS hG => ?_) (Steps1.cons (fun ax wx hS hG => ?_) (Steps1.cons (fun ax wx hS hG => ?_) (Steps1.cons (fun ax wx hS hG => ?_) Steps1.nil))))))))))))))))
      · have q17 := hG.old 17 (by kernel_rfl) (by kernel_rfl)
        refine step_value (v := .int .i64 1) (w' := wx) rfl rfl ?_ (Below.refl _ _) (fun d hd => by cases hd; exact rfl)
        go_simp
      · have q19 := hG.old 19 (by kernel_rfl) (by kernel_rfl)
        refine step_value (v := .int .i64 1) (w' := wx) rfl rfl ?_ (Below.refl _ _) (fun d hd => by cases hd; exact rfl)
        go_simp
      · obtain ⟨_, q115, rfl⟩ := hG.new 115 (by kernel_rfl) (by kernel_rfl)
        obtain ⟨_, q116, rfl⟩ := hG.new 116 (by kernel_rfl) (by kernel_rfl)
        refine step_value (v := .bool true) (w' := wx) rfl rfl ?_ (Below.refl _ _) (fun d hd => by cases hd; exact rfl)
        go_simp
      · obtain ⟨_, q117, rfl⟩ := hG.new 117 (by kernel_rfl) (by kernel_rfl)
        refine step_value (v := .bool true) (w' := wx) rfl rfl ?_ (Below.refl _ _) (fun d hd => by cases hd; exact rfl)
        go_simp
      · have q17 := hG.old 17 (by kernel_rfl) (by kernel_rfl)
        obtain ⟨_, q118, rfl⟩ := hG.new 118 (by kernel_rfl) (by kernel_rfl)
        refine step_value (v := .int .i64 1) (w' := wx) rfl (by simp [Region.wanted, yielded, q118]) ?_ (Below.refl _ _) (fun d hd => by cases hd; exact rfl)
        go_simp
      · obtain ⟨_, q119, rfl⟩ := hG.new 119 (by kernel_rfl) (by kernel_rfl)
        obtain ⟨_, q118, rfl⟩ := hG.new 118 (by kernel_rfl) (by kernel_rfl)
        refine step_value (v := .bool true) (w' := wx) rfl (by simp [Region.wanted, yielded, q118]) ?_ (Below.refl _ _) (fun d hd => by cases hd; exact rfl)
        go_simp
      · obtain ⟨_, q120, rfl⟩ := hG.new 120 (by kernel_rfl) (by kernel_rfl)
        obtain ⟨_, q118, rfl⟩ := hG.new 118 (by kernel_rfl) (by kernel_rfl)
        refine step_value (v := .bool true) (w' := wx) rfl (by simp [Region.wanted, yielded, q118]) ?_ (Below.refl _ _) (fun d hd => by cases hd; exact rfl)
        go_simp
      · obtain ⟨_, q121, rfl⟩ := hG.new 121 (by kernel_rfl) (by kernel_rfl)
        refine step_past rfl (by simp [Region.wanted, yielded, q121]) (Below.refl _ _) (fun d hd => by cases hd; exact rfl)
      · obtain ⟨_, q121, rfl⟩ := hG.new 121 (by kernel_rfl) (by kernel_rfl)
        refine step_past rfl (by simp [Region.wanted, yielded, q121]) (Below.refl _ _) (fun d hd => by cases hd; exact rfl)
      · obtain ⟨_, q121, rfl⟩ := hG.new 121 (by kernel_rfl) (by kernel_rfl)
        refine step_past rfl (by simp [Region.wanted, yielded, q121]) (Below.refl _ _) (fun d hd => by cases hd; exact rfl)
      · obtain ⟨_, q121, rfl⟩ := hG.new 121 (by kernel_rfl) (by kernel_rfl)
        refine step_past rfl (by simp [Region.wanted, yielded, q121]) (Below.refl _ _) (fun d hd => by cases hd; exact rfl)
      · obtain ⟨_, q121, rfl⟩ := hG.new 121 (by kernel_rfl) (by kernel_rfl)
        obtain ⟨_, q118, rfl⟩ := hG.new 118 (by kernel_rfl) (by kernel_rfl)
        refine step_value (v := .bool true) (w' := wx) rfl (by simp [Region.wanted, yielded, q118]) ?_ (Below.refl _ _) (fun d hd => by cases hd; exact rfl)
        go_simp
      · obtain ⟨_, q118, rfl⟩ := hG.new 118 (by kernel_rfl) (by kernel_rfl)
        obtain ⟨_, q126, rfl⟩ := hG.new 126 (by kernel_rfl) (by kernel_rfl)
        refine step_value (v := .bool true) (w' := wx) rfl rfl ?_ (Below.refl _ _) (fun d hd => by cases hd; exact rfl)
        go_simp
      · obtain ⟨_, q127, rfl⟩ := hG.new 127 (by kernel_rfl) (by kernel_rfl)
        refine step_value (v := .bool true) (w' := wx) rfl rfl ?_ (Below.refl _ _) (fun d hd => by cases hd; exact rfl)
        go_simp
      · obtain ⟨_, q128, rfl⟩ := hG.new 128 (by kernel_rfl) (by kernel_rfl)
        refine step_call (w1 := wx) (f := 8) (args := #[]) rfl (by simp [Region.wanted, yielded, q128]) ?_ ((awake_true wx).mono ?_)
        · skip
          go_simp
        · rintro e w' ⟨rfl, hq⟩
          exact ⟨_, rfl, hq, fun d hd => by cases hd; exact rfl⟩
      · obtain ⟨_, q128, rfl⟩ := hG.new 128 (by kernel_rfl) (by kernel_rfl)
        obtain ⟨_, q129, rfl⟩ := hG.new 129 (by kernel_rfl) (by kernel_rfl)
        refine step_value (v := .bool true) (w' := wx) rfl rfl ?_ (Below.refl _ _) (fun d hd => by cases hd; exact rfl)
        go_simp
      · obtain ⟨_, q130, rfl⟩ := hG.new 130 (by kernel_rfl) (by kernel_rfl)
        refine step_value (v := .bool true) (w' := wx) rfl rfl ?_ (Below.refl _ _) (fun d hd => by cases hd; exact rfl)
        go_simp

    intro f wA hSA hVA
    have hvA : f 12 = .bool true := hVA 12 (by decide)
    simp only [puts, Act.put, List.setIfInBounds_toArray, List.set_cons_succ, List.set_cons_zero]
    clear hVA
    rw [hvA]
    go_wp2
    go_ret
    exact ⟨rfl, HB.out.trans (hSA.mono HB.out.size)⟩

end Go.Proofs.Ytacllmkedadbaaa
