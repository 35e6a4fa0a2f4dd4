/- The walk of the document's Undo. -/
import Derived.Test.YtgpjbajfkagdbaaRF
import Derived.Test.YtgpjbajfkagdbaaRC
set_option linter.unusedVariables false
set_option linter.unusedSimpArgs false
namespace Go.Proofs.Ytgpjbajfkagdbaa
open Go.RowKit

theorem do_next {l q : List Pr} {D : List Ch} {k : Nat} (hk : k < D.length) (h : doL l (D.take k) = some q) : (okC q D[k] = true → doL l (D.take (k + 1)) = some (doC q D[k])) ∧ (okC q D[k] = false → doL l D = none) := by
  have e : doL l (D.take (k + 1)) = if okC q D[k] then some (doC q D[k]) else none := by
    rw [List.take_succ_eq_append_getElem hk, doL_snoc, h]; rfl
  refine ⟨fun h1 => by rw [e, if_pos h1], fun h1 => ?_⟩
  rw [← List.take_append_drop (k + 1) D, doL_append, e, h1]
  rfl
theorem back_at {C : List Ch} {k i : Nat} (h : i + k + 1 = C.length) : (backL C)[k]'(by rw [back_len]; omega) = turnC (C[i]'(by omega)) := by
  unfold backL
  rw [List.getElem_reverse, List.getElem_map]
  congr 2
  simp
  omega
theorem do_bad {l : List Pr} {D : List Ch} (h : doL l D = none) : walkE l D ≠ 0 := fun e => by
  have := (walk_ok e).2
  rw [h] at this; cases this

def RundoA (CA QA : Option Addr) (ad : Addr) (i n ccap qn qc : Nat) (xs : Int) (xk : ByteArray) (xh : Bool) (xb : ByteArray) (xg : Bool) (xa : ByteArray) (M F : Bool) (Q : List Pr) (p t : Nat) (v : Value) (w : World) : Prop :=
  match t with
  | 24 => v = .slice CA n ccap
  | 25 => v = .int .i64 (i : Int)
  | 26 => v = .pointer (some (ad.add (i * 6)))
  | 27 => v = .agg #[.int .i64 xs, .string xk, .bool xh, .string xb, .bool xg, .string xa]
  | 28 => v = .bool M
  | 29 => v = .slice QA qn qc
  | 30 => v = .slice CA n ccap
  | 31 => v = .int .i64 (i : Int)
  | 32 => v = .pointer (some (ad.add (i * 6)))
  | 33 => v = .pointer (some ⟨(ad.add (i * 6)).block, (ad.add (i * 6)).off + 1, none⟩)
  | 34 => v = .string xk
  | 35 => v = .slice CA n ccap
  | 36 => v = .int .i64 (i : Int)
  | 37 => v = .pointer (some (ad.add (i * 6)))
  | 38 => v = .pointer (some ⟨(ad.add (i * 6)).block, (ad.add (i * 6)).off + 4, none⟩)
  | 39 => v = .bool xg
  | 40 => v = .slice CA n ccap
  | 41 => v = .int .i64 (i : Int)
  | 42 => v = .pointer (some (ad.add (i * 6)))
  | 43 => v = .pointer (some ⟨(ad.add (i * 6)).block, (ad.add (i * 6)).off + 5, none⟩)
  | 44 => v = .string xa
  | 45 => v = .bool F
  | 9 => v = .bool M
  | 10 => v = .bool F
  | _ => True
theorem RundoA.on {CA QA : Option Addr} {ad : Addr} {i n ccap qn qc : Nat} {xs : Int} {xk : ByteArray} {xh : Bool} {xb : ByteArray} {xg : Bool} {xa : ByteArray} {M F : Bool} {Q : List Pr} {p t : Nat} {v : Value} {w w' : World} (h : RundoA CA QA ad i n ccap qn qc xs xk xh xb xg xa M F Q p t v w) (hb : Below w.heap.size w w') : RundoA CA QA ad i n ccap qn qc xs xk xh xb xg xa M F Q p t v w' := by
  unfold RundoA at *
  split at h <;> first | exact h

def RundoB (CA QA : Option Addr) (ad : Addr) (i n ccap qn qc : Nat) (xs : Int) (xk : ByteArray) (xh : Bool) (xb : ByteArray) (xg : Bool) (xa : ByteArray) (Q : List Pr) (p t : Nat) (v : Value) (w : World) : Prop :=
  match t with
  | 50 => v = .slice QA qn qc
  | 51 => v = .slice CA n ccap
  | 52 => v = .int .i64 (i : Int)
  | 53 => v = .pointer (some (ad.add (i * 6)))
  | 54 => v = .pointer (some ⟨(ad.add (i * 6)).block, (ad.add (i * 6)).off + 1, none⟩)
  | 55 => v = .string xk
  | 56 => v = .slice CA n ccap
  | 57 => v = .int .i64 (i : Int)
  | 58 => v = .pointer (some (ad.add (i * 6)))
  | 59 => v = .pointer (some ⟨(ad.add (i * 6)).block, (ad.add (i * 6)).off + 2, none⟩)
  | 60 => v = .bool xh
  | 61 => v = .slice CA n ccap
  | 62 => v = .int .i64 (i : Int)
  | 63 => v = .pointer (some (ad.add (i * 6)))
  | 64 => v = .pointer (some ⟨(ad.add (i * 6)).block, (ad.add (i * 6)).off + 3, none⟩)
  | 65 => v = .string xb
  | 66 => PV w v Q
  | 7 => PV w v Q
  | _ => True
theorem RundoB.on {CA QA : Option Addr} {ad : Addr} {i n ccap qn qc : Nat} {xs : Int} {xk : ByteArray} {xh : Bool} {xb : ByteArray} {xg : Bool} {xa : ByteArray} {Q : List Pr} {p t : Nat} {v : Value} {w w' : World} (h : RundoB CA QA ad i n ccap qn qc xs xk xh xb xg xa Q p t v w) (hb : Below w.heap.size w w') : RundoB CA QA ad i n ccap qn qc xs xk xh xb xg xa Q p t v w' := by
  unfold RundoB at *
  split at h <;> first | exact h | exact PV.on h hb

set_option maxRecDepth 100000 in
set_option maxHeartbeats 8000000 in
theorem rundo_any {v cv : Value} {l : List Pr} {C : List Ch} (w : World) (hv : PV w v l) (hc : CV w cv C) (hn : l.length + C.length ≤ 1000) :
    Calls Try.prog 24 #[v, cv] w fun e w' => ∃ u, e = .returned (.tuple #[u, .bool (decide (walkE l (backL C) = 0))]) ∧ PV w' u (walkA l (backL C)) ∧ Below w.heap.size w w' := by
  obtain ⟨D, hD⟩ : ∃ D, backL C = D := ⟨_, rfl⟩
  have hDL : D.length = C.length := by rw [← hD]; exact back_len C
  rw [hD]
  obtain ⟨E, hE⟩ : ∃ E, decide (walkE l D = 0) = E := ⟨_, rfl⟩
  obtain ⟨Z, hZ⟩ : ∃ Z, walkA l D = Z := ⟨_, rfl⟩
  rw [hE, hZ]
  have FINY := Lib.hid (fun (q : List Pr) (h1 : wellL l = true) (h2 : doL l D = some q) => show E = true ∧ Z = q from by
    obtain ⟨a, b⟩ := walk_yes h1 h2
    exact ⟨by rw [← hE, a]; rfl, by rw [← hZ, b]⟩)
  have FINN := Lib.hid (fun (h : walkE l D ≠ 0) => show E = false ∧ Z = l from ⟨by rw [← hE]; simpa using h, by rw [← hZ]; exact (walk_no h).2.1⟩)
  have HWE := Lib.hid (show wellL l = false → walkE l D ≠ 0 from fun h e => by have := (walk_ok e).1; rw [h] at this; cases this)
  obtain ⟨W, hW⟩ : ∃ W, wellL l = W := ⟨_, rfl⟩
  obtain ⟨A, nl, cap, rfl, hnl⟩ : ∃ A n c, v = .slice A n c ∧ l.length = n := by obtain ⟨A, c, e, _⟩ := hv; exact ⟨A, _, c, e, rfl⟩
  obtain ⟨CA, n, ccap, rfl, hcn⟩ : ∃ A n c, cv = .slice A n c ∧ C.length = n := by obtain ⟨A, c, e, _⟩ := hc; exact ⟨A, _, c, e, rfl⟩
  have hrc : Calls Try.prog 22 #[.slice A nl cap] w fun e w3 => e = .returned (.bool W) ∧ Below w.heap.size w w3 := by
    obtain ⟨A0, c0, e0, hp0, _⟩ := hv
    injection e0 with e1 e2 e3
    have := dright_pr A0 c0 l w hp0 (by unfold maxLen; omega)
    rw [hW] at this
    rw [e1, e2, e3]; exact this
  have HRC := Lib.hid hrc
  have HV := Lib.hid hv
  have HCV := Lib.hid hc
  have HW := Lib.hid hW
  have HD := Lib.hid hD
  have HDL := Lib.hid (show D.length = n from by rw [hDL, hcn])
  have HCN := Lib.hid hcn
  have HNL := Lib.hid hnl
  have HN := Lib.hid hn
  have hn1 : n ≤ 1000 := by omega
  clear hrc hv hc hW hD hDL hcn hnl hn hE hZ
  go_enter Try.func24, Try.ntmps24
  go_wp2_with fail
  refine HRC.out.mono ?_
  rintro e w1 ⟨rfl, hb1⟩
  have HB1 := Lib.hid hb1
  clear hb1 HRC
  go_wp2
  go_loopw [6, 7, 8] (fun v6 v7 vi wr => ∃ (k : Nat) (ok : Bool) (q : List Pr) (z : Int), vi = .int .i64 z ∧ k ≤ n ∧ v6 = .bool ok ∧ z + k + 1 = n ∧ Hid (PV wr v7 q) ∧ Hid (ok = true → wellL l = true ∧ doL l (D.take k) = some q) ∧ Hid (ok = false → walkE l D ≠ 0) ∧ Below w.heap.size w wr) (fun _ _ vi _ => (intOf vi + 1).toNat)
  case atStart =>
    refine ⟨0, W, l, n - 1, rfl, Nat.zero_le _, rfl, by omega, ?_, ?_, ?_, HB1.out⟩
    · exact HV.out.on HB1.out
    · exact fun h => ⟨by rw [HW.out, h], by rw [List.take_zero]; rfl⟩
    · exact fun h => HWE.out (by rw [HW.out, h])
  case round =>
    obtain ⟨k, ok, q, z, rfl, hk, rfl, hz, HQ, HYES, HNO, hbr⟩ := hrel
    by_cases hlt : k < n
    · cases ok with
      | false =>
        have HF := Lib.hid (FINN.out (HNO.out rfl))
        have HBR := Lib.hid hbr
        have hz0 : 0 ≤ z := by omega
        clear hbr
        go_wp2
        go_ret2
        obtain ⟨e1, e2⟩ := HF.out
        exact ⟨_, by rw [e1]; rfl, by rw [e2]; exact HV.out.on HBR.out, HBR.out⟩
      | true =>
        obtain ⟨hwl, hdq⟩ := HYES.out rfl
        have hqw := doL_well hwl hdq
        have HQS := Lib.hid (well_sorted hqw)
        have HQN := Lib.hid (show q.length ≤ 1000 from by
          have h1 := doL_len hdq
          have h2 := HN.out
          have h3 := HCN.out
          simp only [List.length_take] at h1
          omega)
        have HWL := Lib.hid hwl
        have HDQ := Lib.hid hdq
        obtain ⟨QA, qn, qc, rfl, hqn⟩ : ∃ A n c, u7 = .slice A n c ∧ q.length = n := by obtain ⟨A, c, e, _⟩ := HQ.out; exact ⟨A, _, c, e, rfl⟩
        obtain ⟨i, rfl⟩ : ∃ i : Nat, z = i := ⟨z.toNat, by omega⟩
        have hil : i < C.length := by rw [HCN.out]; omega
        obtain ⟨ad, rfl, hab, hca⟩ : ∃ ad, CA = some ad ∧ ad.block < wr.heap.size ∧ ∀ (i : Nat) (h : i < C.length),
            wr.cell? (ad.add (i * 6)) = some (.int .i64 C[i].seq) ∧ wr.cell? ⟨(ad.add (i * 6)).block, (ad.add (i * 6)).off + 1, none⟩ = some (.string C[i].key) ∧ wr.cell? ⟨(ad.add (i * 6)).block, (ad.add (i * 6)).off + 2, none⟩ = some (.bool C[i].had) ∧ wr.cell? ⟨(ad.add (i * 6)).block, (ad.add (i * 6)).off + 3, none⟩ = some (.string C[i].before)
             ∧ wr.cell? ⟨(ad.add (i * 6)).block, (ad.add (i * 6)).off + 4, none⟩ = some (.bool C[i].has) ∧ wr.cell? ⟨(ad.add (i * 6)).block, (ad.add (i * 6)).off + 5, none⟩ = some (.string C[i].after) := by
          obtain ⟨A0, c0, e0, hp0, _⟩ := HCV.out.on hbr
          injection e0 with e1 e2 e3
          subst e1
          exact hp0.seeC (by omega)
        obtain ⟨c1, c2, c3, c4, c5, c6⟩ := hca i hil
        obtain ⟨x, hx⟩ : ∃ x, x = C[i]'hil := ⟨_, rfl⟩
        rw [← hx] at c1 c2 c3 c4 c5 c6
        have hdx : D[k]'(by rw [HDL.out]; exact hlt) = turnC x := by rw [hx]; simp only [← HD.out]; exact back_at (by rw [HCN.out]; omega)
        have hnx := do_next (by rw [HDL.out]; exact hlt) hdq
        rw [hdx] at hnx
        clear hca hx hdx hil hwl hdq hqw
        obtain ⟨xs, xk, xh, xb, xg, xa⟩ := x
        simp only at c1 c2 c3 c4 c5 c6
        obtain ⟨M, hM⟩ : ∃ M, mayC ⟨xs, xk, xh, xb, xg, xa⟩ = M := ⟨_, rfl⟩
        obtain ⟨F, hF⟩ : ∃ F, decide (getL q xk = if xg then some xa else none) = F := ⟨_, rfl⟩
        obtain ⟨Q, hQ⟩ : ∃ Q, setL q xk (if xh then some xb else none) = Q := ⟨_, rfl⟩
        have hok : okC q (turnC ⟨xs, xk, xh, xb, xg, xa⟩) = (M && F) := by rw [← hM, ← hF]; unfold okC; rw [turn_may]; rfl
        have hdo : doC q (turnC ⟨xs, xk, xh, xb, xg, xa⟩) = Q := by rw [← hQ]; rfl
        rw [hok, hdo] at hnx
        have HNX := Lib.hid hnx
        have HMY := Lib.hid (fun wx => show Calls Try.prog 37 #[.agg #[.int .i64 xs, .string xk, .bool xh, .string xb, .bool xg, .string xa]] wx fun e w' => e = .returned (.bool M) ∧ Below wx.heap.size wx w' from by rw [← hM]; exact dmay_any _ _ _ _ _ _ wx)
        have HFT := Lib.hid (fun wx (hS : Below wr.heap.size wr wx) => show Calls Try.prog 38 #[.slice QA qn qc, .string xk, .bool xg, .string xa] wx fun e w' => e = .returned (.bool F) ∧ Below wx.heap.size wx w' from by rw [← hF]; exact rfits_any xk xg xa wx (HQ.out.on hS) (Nat.le_trans HQN.out (by decide)) HQS.out)
        have HSC0 := Lib.hid (fun wx (hS : Below wr.heap.size wr wx) => show Calls Try.prog 39 #[.slice QA qn qc, .string xk, .bool xh, .string xb] wx fun e w' => ∃ v, e = .returned v ∧ PV w' v Q ∧ Below wx.heap.size wx w' from by
          obtain ⟨A0, c0, e0, hp0, _⟩ := HQ.out.on hS
          injection e0 with e1 e2 e3
          have := set_any A0 c0 q xk xh xb wx hp0 HQN.out HQS.out
          rw [hQ] at this
          rw [e1, e2, e3]; exact this)
        have HIN := Lib.hid (show i < n ∧ n ≤ 1000 from ⟨by omega, hn1⟩)
        have HC0 := Lib.hid (show ∀ wx, Below wr.heap.size wr wx → _ ∧ _ ∧ _ ∧ _ ∧ _ ∧ _ from fun wx hb => ⟨(hb.cell (lt_of_cell c1)).trans c1, (hb.cell (lt_of_cell c2)).trans c2, (hb.cell (lt_of_cell c3)).trans c3, (hb.cell (lt_of_cell c4)).trans c4, (hb.cell (lt_of_cell c5)).trans c5, (hb.cell (lt_of_cell c6)).trans c6⟩)
        have HBR := Lib.hid hbr
        obtain ⟨wd, hwd⟩ : ∃ wd, wd = wr := ⟨_, rfl⟩
        rw [← hwd] at HQ HFT HSC0 HC0 HBR ⊢
        have HCC := HC0
        clear hM hF hQ hok hdo hnx c1 c2 c3 c4 c5 c6 hbr hwd hab
        go_upto_region 6 with fail
        refine wp_region_phase 30 [24, 25, 26, 27, 28, 29, 30, 31, 32, 33, 34, 35, 36, 37, 38, 39, 40, 41, 42, 43, 44, 45, 9, 10] (by kernel_rfl) [] [] (fun _ _ => True) 0 rfl (by kernel_rfl) ((fun _ wx => Below wd.heap.size wd wx)) (fun wa wb => Below wa.heap.size wa wb) (RundoA (some ad) QA ad i n ccap qn qc xs xk xh xb xg xa M F Q) (by kernel_rfl) (fun _ wa wb h1 h2 => h2.trans (h1.mono h2.size)) (fun _ t v wa wb h1 h2 => h2.on h1) (fun _ _ _ _ _ _ _ => trivial) (Below.refl _ _).drew trivial (phase0 ?_) ?_
        · refine Steps1.cons (fun _ ax wx hS _ hG => ?_) (Steps1.cons (fun _ ax wx hS _ hG => ?_) (Steps1.cons (fun _ ax wx hS _ hG => ?_) (Steps1.cons (fun _ ax wx hS _ hG => ?_) (Steps1.cons (fun _ ax wx hS _ hG => ?_) (Steps1.cons (fun _ ax wx hS _ hG => ?_) (Steps1.cons (fun _ ax wx hS _ hG => ?_) (Steps1.cons (fun _ ax wx hS _ hG => ?_) (Steps1.cons (fun _ ax wx hS _ hG => ?_) (Steps1.cons (fun _ ax wx hS _ hG => ?_) (Steps1.cons (fun _ ax wx hS _ hG => ?_) (Steps1.cons (fun _ ax wx hS _ hG => ?_) (Steps1.cons (fun _ ax wx hS _ hG => ?_) (Steps1.cons (fun _ ax wx hS _ hG => ?_) (Steps1.cons (fun _ ax wx hS _ hG => ?_) (Steps1.cons (fun _ ax wx hS _ hG => ?_) (Steps1.cons (fun _ ax wx hS _ hG => ?_) (Steps1.cons (fun _ ax wx hS _ hG => ?_) (Steps1.cons (fun _ ax wx hS _ hG => ?_) (Steps1.cons (fun _ ax wx hS _ hG => ?_) (Steps1.cons (fun _ ax wx hS _ hG => ?_) (Steps1.cons (fun _ ax wx hS _ hG => ?_) (Steps1.cons (fun _ ax wx hS _ hG => ?_) (Steps1.cons (fun _ ax wx hS _ hG => ?_) Steps1.nil)))))))))))))))))))))))
          · have q1 := hG.old 1 (by kernel_rfl) (by kernel_rfl)
            refine step_slot rfl rfl rfl (step_value (v := .slice (some ad) n ccap) (w' := wx) rfl rfl ?_ (Below.refl _ _) (fun d hd => by cases hd; exact rfl))
            go_simp
          · have q8 := hG.old 8 (by kernel_rfl) (by kernel_rfl)
            refine step_slot rfl rfl rfl (step_value (v := .int .i64 (i : Int)) (w' := wx) rfl rfl ?_ (Below.refl _ _) (fun d hd => by cases hd; exact rfl))
            go_simp
          · obtain ⟨_, q24, rfl⟩ := hG.new 24 (by kernel_rfl) (by kernel_rfl)
            obtain ⟨_, q25, rfl⟩ := hG.new 25 (by kernel_rfl) (by kernel_rfl)
            have hin := HIN.out
            refine step_slot rfl rfl rfl (step_value (v := .pointer (some (ad.add (i * 6)))) (w' := wx) rfl rfl ?_ (Below.refl _ _) (fun d hd => by cases hd; exact rfl))
            go_simp
          · obtain ⟨_, q26, rfl⟩ := hG.new 26 (by kernel_rfl) (by kernel_rfl)
            obtain ⟨z0, z1, z2, z3, z4, z5⟩ := HCC.out wx hS
            refine step_slot rfl rfl rfl (step_value (v := .agg #[.int .i64 xs, .string xk, .bool xh, .string xb, .bool xg, .string xa]) (w' := wx) rfl rfl ?_ (Below.refl _ _) (fun d hd => by cases hd; exact rfl))
            go_simp
          · obtain ⟨_, q27, rfl⟩ := hG.new 27 (by kernel_rfl) (by kernel_rfl)
            refine step_slot rfl rfl rfl (step_call (w1 := wx) (f := 37) (args := #[.agg #[.int .i64 xs, .string xk, .bool xh, .string xb, .bool xg, .string xa]]) rfl rfl ?_ ((HMY.out wx).mono ?_))
            · skip
              go_simp
            · rintro e w' ⟨rfl, hq⟩
              exact ⟨_, rfl, hq, fun d hd => by cases hd; exact rfl⟩
          · have q7 := hG.old 7 (by kernel_rfl) (by kernel_rfl)
            refine step_slot rfl rfl rfl (step_value (v := .slice QA qn qc) (w' := wx) rfl rfl ?_ (Below.refl _ _) (fun d hd => by cases hd; exact rfl))
            go_simp
          · have q1 := hG.old 1 (by kernel_rfl) (by kernel_rfl)
            refine step_slot rfl rfl rfl (step_value (v := .slice (some ad) n ccap) (w' := wx) rfl rfl ?_ (Below.refl _ _) (fun d hd => by cases hd; exact rfl))
            go_simp
          · have q8 := hG.old 8 (by kernel_rfl) (by kernel_rfl)
            refine step_slot rfl rfl rfl (step_value (v := .int .i64 (i : Int)) (w' := wx) rfl rfl ?_ (Below.refl _ _) (fun d hd => by cases hd; exact rfl))
            go_simp
          · obtain ⟨_, q30, rfl⟩ := hG.new 30 (by kernel_rfl) (by kernel_rfl)
            obtain ⟨_, q31, rfl⟩ := hG.new 31 (by kernel_rfl) (by kernel_rfl)
            have hin := HIN.out
            refine step_slot rfl rfl rfl (step_value (v := .pointer (some (ad.add (i * 6)))) (w' := wx) rfl rfl ?_ (Below.refl _ _) (fun d hd => by cases hd; exact rfl))
            go_simp
          · obtain ⟨_, q32, rfl⟩ := hG.new 32 (by kernel_rfl) (by kernel_rfl)
            refine step_slot rfl rfl rfl (step_value (v := .pointer (some ⟨(ad.add (i * 6)).block, (ad.add (i * 6)).off + 1, none⟩)) (w' := wx) rfl rfl ?_ (Below.refl _ _) (fun d hd => by cases hd; exact rfl))
            go_simp
          · obtain ⟨_, q33, rfl⟩ := hG.new 33 (by kernel_rfl) (by kernel_rfl)
            obtain ⟨z0, z1, z2, z3, z4, z5⟩ := HCC.out wx hS
            refine step_slot rfl rfl rfl (step_value (v := .string xk) (w' := wx) rfl rfl ?_ (Below.refl _ _) (fun d hd => by cases hd; exact rfl))
            go_simp
          · have q1 := hG.old 1 (by kernel_rfl) (by kernel_rfl)
            refine step_slot rfl rfl rfl (step_value (v := .slice (some ad) n ccap) (w' := wx) rfl rfl ?_ (Below.refl _ _) (fun d hd => by cases hd; exact rfl))
            go_simp
          · have q8 := hG.old 8 (by kernel_rfl) (by kernel_rfl)
            refine step_slot rfl rfl rfl (step_value (v := .int .i64 (i : Int)) (w' := wx) rfl rfl ?_ (Below.refl _ _) (fun d hd => by cases hd; exact rfl))
            go_simp
          · obtain ⟨_, q35, rfl⟩ := hG.new 35 (by kernel_rfl) (by kernel_rfl)
            obtain ⟨_, q36, rfl⟩ := hG.new 36 (by kernel_rfl) (by kernel_rfl)
            have hin := HIN.out
            refine step_slot rfl rfl rfl (step_value (v := .pointer (some (ad.add (i * 6)))) (w' := wx) rfl rfl ?_ (Below.refl _ _) (fun d hd => by cases hd; exact rfl))
            go_simp
          · obtain ⟨_, q37, rfl⟩ := hG.new 37 (by kernel_rfl) (by kernel_rfl)
            refine step_slot rfl rfl rfl (step_value (v := .pointer (some ⟨(ad.add (i * 6)).block, (ad.add (i * 6)).off + 4, none⟩)) (w' := wx) rfl rfl ?_ (Below.refl _ _) (fun d hd => by cases hd; exact rfl))
            go_simp
          · obtain ⟨_, q38, rfl⟩ := hG.new 38 (by kernel_rfl) (by kernel_rfl)
            obtain ⟨z0, z1, z2, z3, z4, z5⟩ := HCC.out wx hS
            refine step_slot rfl rfl rfl (step_value (v := .bool xg) (w' := wx) rfl rfl ?_ (Below.refl _ _) (fun d hd => by cases hd; exact rfl))
            go_simp
          · have q1 := hG.old 1 (by kernel_rfl) (by kernel_rfl)
            refine step_slot rfl rfl rfl (step_value (v := .slice (some ad) n ccap) (w' := wx) rfl rfl ?_ (Below.refl _ _) (fun d hd => by cases hd; exact rfl))
            go_simp
          · have q8 := hG.old 8 (by kernel_rfl) (by kernel_rfl)
            refine step_slot rfl rfl rfl (step_value (v := .int .i64 (i : Int)) (w' := wx) rfl rfl ?_ (Below.refl _ _) (fun d hd => by cases hd; exact rfl))
            go_simp
          · obtain ⟨_, q40, rfl⟩ := hG.new 40 (by kernel_rfl) (by kernel_rfl)
            obtain ⟨_, q41, rfl⟩ := hG.new 41 (by kernel_rfl) (by kernel_rfl)
            have hin := HIN.out
            refine step_slot rfl rfl rfl (step_value (v := .pointer (some (ad.add (i * 6)))) (w' := wx) rfl rfl ?_ (Below.refl _ _) (fun d hd => by cases hd; exact rfl))
            go_simp
          · obtain ⟨_, q42, rfl⟩ := hG.new 42 (by kernel_rfl) (by kernel_rfl)
            refine step_slot rfl rfl rfl (step_value (v := .pointer (some ⟨(ad.add (i * 6)).block, (ad.add (i * 6)).off + 5, none⟩)) (w' := wx) rfl rfl ?_ (Below.refl _ _) (fun d hd => by cases hd; exact rfl))
            go_simp
          · obtain ⟨_, q43, rfl⟩ := hG.new 43 (by kernel_rfl) (by kernel_rfl)
            obtain ⟨z0, z1, z2, z3, z4, z5⟩ := HCC.out wx hS
            refine step_slot rfl rfl rfl (step_value (v := .string xa) (w' := wx) rfl rfl ?_ (Below.refl _ _) (fun d hd => by cases hd; exact rfl))
            go_simp
          · obtain ⟨_, q29, rfl⟩ := hG.new 29 (by kernel_rfl) (by kernel_rfl)
            obtain ⟨_, q34, rfl⟩ := hG.new 34 (by kernel_rfl) (by kernel_rfl)
            obtain ⟨_, q39, rfl⟩ := hG.new 39 (by kernel_rfl) (by kernel_rfl)
            obtain ⟨_, q44, rfl⟩ := hG.new 44 (by kernel_rfl) (by kernel_rfl)
            refine step_slot rfl rfl rfl (step_call (w1 := wx) (f := 38) (args := #[.slice QA qn qc, .string xk, .bool xg, .string xa]) rfl rfl ?_ ((HFT.out wx hS).mono ?_))
            · skip
              go_simp
            · rintro e w' ⟨rfl, hq⟩
              exact ⟨_, rfl, hq, fun d hd => by cases hd; exact rfl⟩
          · obtain ⟨_, q28, rfl⟩ := hG.new 28 (by kernel_rfl) (by kernel_rfl)
            refine step_slot rfl rfl rfl (step_value (v := .bool M) (w' := wx) rfl rfl ?_ (Below.refl _ _) (fun d hd => by cases hd; exact rfl))
            go_simp
          · obtain ⟨_, q45, rfl⟩ := hG.new 45 (by kernel_rfl) (by kernel_rfl)
            refine step_slot rfl rfl rfl (step_value (v := .bool F) (w' := wx) rfl rfl ?_ (Below.refl _ _) (fun d hd => by cases hd; exact rfl))
            go_simp
        intro fv we hbe _ hV8
        have e9 : fv 9 = .bool M := hV8 9 (by decide)
        have e10 : fv 10 = .bool F := hV8 10 (by decide)
        simp only [puts, Act.put, List.setIfInBounds_toArray, List.set_cons_succ, List.set_cons_zero]
        clear hV8
        rw [e9, e10]
        have HBE := Lib.hid (show Below wd.heap.size wd we from hbe)
        clear hbe HFT HMY HCC
        cases M with
        | false =>
          have HCC8 := Lib.hid (show ∀ wx, Below we.heap.size we wx → _ ∧ _ ∧ _ ∧ _ ∧ _ ∧ _ from fun wx hb => HC0.out wx ((show Below wd.heap.size wd we from HBE.out).trans (hb.mono HBE.out.size)))
          have HSC := Lib.hid (fun wx (hb : Below we.heap.size we wx) => HSC0.out wx ((show Below wd.heap.size wd we from HBE.out).trans (hb.mono HBE.out.size)))
          go_upto_region 8 with fail
          refine wp_region_phase 24 [50, 51, 52, 53, 54, 55, 56, 57, 58, 59, 60, 61, 62, 63, 64, 65, 66, 7] (by kernel_rfl) [] [] (fun _ _ => True) 0 rfl (by kernel_rfl) ((fun _ wx => Below we.heap.size we wx)) (fun wa wb => Below wa.heap.size wa wb) (RundoB (some ad) QA ad i n ccap qn qc xs xk xh xb xg xa Q) (by kernel_rfl) (fun _ wa wb h1 h2 => h2.trans (h1.mono h2.size)) (fun _ t v wa wb h1 h2 => h2.on h1) (fun _ _ _ _ _ _ _ => trivial) (Below.refl _ _).drew trivial (phase0 ?_) ?_
          · refine Steps1.cons (fun _ ax wx hS _ hG => ?_) (Steps1.cons (fun _ ax wx hS _ hG => ?_) (Steps1.cons (fun _ ax wx hS _ hG => ?_) (Steps1.cons (fun _ ax wx hS _ hG => ?_) (Steps1.cons (fun _ ax wx hS _ hG => ?_) (Steps1.cons (fun _ ax wx hS _ hG => ?_) (Steps1.cons (fun _ ax wx hS _ hG => ?_) (Steps1.cons (fun _ ax wx hS _ hG => ?_) (Steps1.cons (fun _ ax wx hS _ hG => ?_) (Steps1.cons (fun _ ax wx hS _ hG => ?_) (Steps1.cons (fun _ ax wx hS _ hG => ?_) (Steps1.cons (fun _ ax wx hS _ hG => ?_) (Steps1.cons (fun _ ax wx hS _ hG => ?_) (Steps1.cons (fun _ ax wx hS _ hG => ?_) (Steps1.cons (fun _ ax wx hS _ hG => ?_) (Steps1.cons (fun _ ax wx hS _ hG => ?_) (Steps1.cons (fun _ ax wx hS _ hG => ?_) (Steps1.cons (fun _ ax wx hS _ hG => ?_) Steps1.nil)))))))))))))))))
            · have q7 := hG.old 7 (by kernel_rfl) (by kernel_rfl)
              refine step_slot rfl rfl rfl (step_value (v := .slice QA qn qc) (w' := wx) rfl rfl ?_ (Below.refl _ _) (fun d hd => by cases hd; exact rfl))
              go_simp
            · have q1 := hG.old 1 (by kernel_rfl) (by kernel_rfl)
              refine step_slot rfl rfl rfl (step_value (v := .slice (some ad) n ccap) (w' := wx) rfl rfl ?_ (Below.refl _ _) (fun d hd => by cases hd; exact rfl))
              go_simp
            · have q8 := hG.old 8 (by kernel_rfl) (by kernel_rfl)
              refine step_slot rfl rfl rfl (step_value (v := .int .i64 (i : Int)) (w' := wx) rfl rfl ?_ (Below.refl _ _) (fun d hd => by cases hd; exact rfl))
              go_simp
            · obtain ⟨_, q51, rfl⟩ := hG.new 51 (by kernel_rfl) (by kernel_rfl)
              obtain ⟨_, q52, rfl⟩ := hG.new 52 (by kernel_rfl) (by kernel_rfl)
              have hin := HIN.out
              refine step_slot rfl rfl rfl (step_value (v := .pointer (some (ad.add (i * 6)))) (w' := wx) rfl rfl ?_ (Below.refl _ _) (fun d hd => by cases hd; exact rfl))
              go_simp
            · obtain ⟨_, q53, rfl⟩ := hG.new 53 (by kernel_rfl) (by kernel_rfl)
              refine step_slot rfl rfl rfl (step_value (v := .pointer (some ⟨(ad.add (i * 6)).block, (ad.add (i * 6)).off + 1, none⟩)) (w' := wx) rfl rfl ?_ (Below.refl _ _) (fun d hd => by cases hd; exact rfl))
              go_simp
            · obtain ⟨_, q54, rfl⟩ := hG.new 54 (by kernel_rfl) (by kernel_rfl)
              obtain ⟨z0, z1, z2, z3, z4, z5⟩ := HCC8.out wx hS
              refine step_slot rfl rfl rfl (step_value (v := .string xk) (w' := wx) rfl rfl ?_ (Below.refl _ _) (fun d hd => by cases hd; exact rfl))
              go_simp
            · have q1 := hG.old 1 (by kernel_rfl) (by kernel_rfl)
              refine step_slot rfl rfl rfl (step_value (v := .slice (some ad) n ccap) (w' := wx) rfl rfl ?_ (Below.refl _ _) (fun d hd => by cases hd; exact rfl))
              go_simp
            · have q8 := hG.old 8 (by kernel_rfl) (by kernel_rfl)
              refine step_slot rfl rfl rfl (step_value (v := .int .i64 (i : Int)) (w' := wx) rfl rfl ?_ (Below.refl _ _) (fun d hd => by cases hd; exact rfl))
              go_simp
            · obtain ⟨_, q56, rfl⟩ := hG.new 56 (by kernel_rfl) (by kernel_rfl)
              obtain ⟨_, q57, rfl⟩ := hG.new 57 (by kernel_rfl) (by kernel_rfl)
              have hin := HIN.out
              refine step_slot rfl rfl rfl (step_value (v := .pointer (some (ad.add (i * 6)))) (w' := wx) rfl rfl ?_ (Below.refl _ _) (fun d hd => by cases hd; exact rfl))
              go_simp
            · obtain ⟨_, q58, rfl⟩ := hG.new 58 (by kernel_rfl) (by kernel_rfl)
              refine step_slot rfl rfl rfl (step_value (v := .pointer (some ⟨(ad.add (i * 6)).block, (ad.add (i * 6)).off + 2, none⟩)) (w' := wx) rfl rfl ?_ (Below.refl _ _) (fun d hd => by cases hd; exact rfl))
              go_simp
            · obtain ⟨_, q59, rfl⟩ := hG.new 59 (by kernel_rfl) (by kernel_rfl)
              obtain ⟨z0, z1, z2, z3, z4, z5⟩ := HCC8.out wx hS
              refine step_slot rfl rfl rfl (step_value (v := .bool xh) (w' := wx) rfl rfl ?_ (Below.refl _ _) (fun d hd => by cases hd; exact rfl))
              go_simp
            · have q1 := hG.old 1 (by kernel_rfl) (by kernel_rfl)
              refine step_slot rfl rfl rfl (step_value (v := .slice (some ad) n ccap) (w' := wx) rfl rfl ?_ (Below.refl _ _) (fun d hd => by cases hd; exact rfl))
              go_simp
            · have q8 := hG.old 8 (by kernel_rfl) (by kernel_rfl)
              refine step_slot rfl rfl rfl (step_value (v := .int .i64 (i : Int)) (w' := wx) rfl rfl ?_ (Below.refl _ _) (fun d hd => by cases hd; exact rfl))
              go_simp
            · obtain ⟨_, q61, rfl⟩ := hG.new 61 (by kernel_rfl) (by kernel_rfl)
              obtain ⟨_, q62, rfl⟩ := hG.new 62 (by kernel_rfl) (by kernel_rfl)
              have hin := HIN.out
              refine step_slot rfl rfl rfl (step_value (v := .pointer (some (ad.add (i * 6)))) (w' := wx) rfl rfl ?_ (Below.refl _ _) (fun d hd => by cases hd; exact rfl))
              go_simp
            · obtain ⟨_, q63, rfl⟩ := hG.new 63 (by kernel_rfl) (by kernel_rfl)
              refine step_slot rfl rfl rfl (step_value (v := .pointer (some ⟨(ad.add (i * 6)).block, (ad.add (i * 6)).off + 3, none⟩)) (w' := wx) rfl rfl ?_ (Below.refl _ _) (fun d hd => by cases hd; exact rfl))
              go_simp
            · obtain ⟨_, q64, rfl⟩ := hG.new 64 (by kernel_rfl) (by kernel_rfl)
              obtain ⟨z0, z1, z2, z3, z4, z5⟩ := HCC8.out wx hS
              refine step_slot rfl rfl rfl (step_value (v := .string xb) (w' := wx) rfl rfl ?_ (Below.refl _ _) (fun d hd => by cases hd; exact rfl))
              go_simp
            · obtain ⟨_, q50, rfl⟩ := hG.new 50 (by kernel_rfl) (by kernel_rfl)
              obtain ⟨_, q55, rfl⟩ := hG.new 55 (by kernel_rfl) (by kernel_rfl)
              obtain ⟨_, q60, rfl⟩ := hG.new 60 (by kernel_rfl) (by kernel_rfl)
              obtain ⟨_, q65, rfl⟩ := hG.new 65 (by kernel_rfl) (by kernel_rfl)
              refine step_slot rfl rfl rfl (step_call (w1 := wx) (f := 39) (args := #[.slice QA qn qc, .string xk, .bool xh, .string xb]) rfl rfl ?_ ((HSC.out wx hS).mono ?_))
              · skip
                go_simp
              · rintro e w' ⟨v', rfl, hv, hq⟩
                exact ⟨_, rfl, hq, fun d hd => by cases hd; exact hv⟩
            · obtain ⟨v66, q66, h66⟩ := hG.new 66 (by kernel_rfl) (by kernel_rfl)
              have p66 : PV wx v66 Q := h66
              refine step_slot rfl rfl rfl (step_value (v := v66) (w' := wx) rfl rfl ?_ (Below.refl _ _) (fun d hd => by cases hd; exact p66))
              clear h66 p66
              go_simp
          intro fv wf hbf _ hV8
          have e7 : PV wf (fv 7) Q := hV8 7 (by decide)
          simp only [puts, Act.put, List.setIfInBounds_toArray, List.set_cons_succ, List.set_cons_zero]
          clear hV8
          have hbw : Below w.heap.size w wf := HBR.out.trans ((HBE.out.trans (hbf.mono HBE.out.size)).mono HBR.out.size)
          have HBW := Lib.hid hbw
          have HE7 := Lib.hid e7
          clear hbw hbf e7
          go_wp2
          go_roundw
          case rel => exact ⟨k + 1, false, Q, (i : Int) - 1, by go_num, by omega, rfl, by omega, HE7.out, fun h => (by cases h), fun _ => do_bad (HNX.out.2 rfl), HBW.out⟩
          case measure => simp [intOf]
        | true =>
          cases F with
          | false =>
            have HCC8 := Lib.hid (show ∀ wx, Below we.heap.size we wx → _ ∧ _ ∧ _ ∧ _ ∧ _ ∧ _ from fun wx hb => HC0.out wx ((show Below wd.heap.size wd we from HBE.out).trans (hb.mono HBE.out.size)))
            have HSC := Lib.hid (fun wx (hb : Below we.heap.size we wx) => HSC0.out wx ((show Below wd.heap.size wd we from HBE.out).trans (hb.mono HBE.out.size)))
            go_upto_region 8 with fail
            refine wp_region_phase 24 [50, 51, 52, 53, 54, 55, 56, 57, 58, 59, 60, 61, 62, 63, 64, 65, 66, 7] (by kernel_rfl) [] [] (fun _ _ => True) 0 rfl (by kernel_rfl) ((fun _ wx => Below we.heap.size we wx)) (fun wa wb => Below wa.heap.size wa wb) (RundoB (some ad) QA ad i n ccap qn qc xs xk xh xb xg xa Q) (by kernel_rfl) (fun _ wa wb h1 h2 => h2.trans (h1.mono h2.size)) (fun _ t v wa wb h1 h2 => h2.on h1) (fun _ _ _ _ _ _ _ => trivial) (Below.refl _ _).drew trivial (phase0 ?_) ?_
            · refine Steps1.cons (fun _ ax wx hS _ hG => ?_) (Steps1.cons (fun _ ax wx hS _ hG => ?_) (Steps1.cons (fun _ ax wx hS _ hG => ?_) (Steps1.cons (fun _ ax wx hS _ hG => ?_) (Steps1.cons (fun _ ax wx hS _ hG => ?_) (Steps1.cons (fun _ ax wx hS _ hG => ?_) (Steps1.cons (fun _ ax wx hS _ hG => ?_) (Steps1.cons (fun _ ax wx hS _ hG => ?_) (Steps1.cons (fun _ ax wx hS _ hG => ?_) (Steps1.cons (fun _ ax wx hS _ hG => ?_) (Steps1.cons (fun _ ax wx hS _ hG => ?_) (Steps1.cons (fun _ ax wx hS _ hG => ?_) (Steps1.cons (fun _ ax wx hS _ hG => ?_) (Steps1.cons (fun _ ax wx hS _ hG => ?_) (Steps1.cons (fun _ ax wx hS _ hG => ?_) (Steps1.cons (fun _ ax wx hS _ hG => ?_) (Steps1.cons (fun _ ax wx hS _ hG => ?_) (Steps1.cons (fun _ ax wx hS _ hG => ?_) Steps1.nil)))))))))))))))))
              · have q7 := hG.old 7 (by kernel_rfl) (by kernel_rfl)
                refine step_slot rfl rfl rfl (step_value (v := .slice QA qn qc) (w' := wx) rfl rfl ?_ (Below.refl _ _) (fun d hd => by cases hd; exact rfl))
                go_simp
              · have q1 := hG.old 1 (by kernel_rfl) (by kernel_rfl)
                refine step_slot rfl rfl rfl (step_value (v := .slice (some ad) n ccap) (w' := wx) rfl rfl ?_ (Below.refl _ _) (fun d hd => by cases hd; exact rfl))
                go_simp
              · have q8 := hG.old 8 (by kernel_rfl) (by kernel_rfl)
                refine step_slot rfl rfl rfl (step_value (v := .int .i64 (i : Int)) (w' := wx) rfl rfl ?_ (Below.refl _ _) (fun d hd => by cases hd; exact rfl))
                go_simp
              · obtain ⟨_, q51, rfl⟩ := hG.new 51 (by kernel_rfl) (by kernel_rfl)
                obtain ⟨_, q52, rfl⟩ := hG.new 52 (by kernel_rfl) (by kernel_rfl)
                have hin := HIN.out
                refine step_slot rfl rfl rfl (step_value (v := .pointer (some (ad.add (i * 6)))) (w' := wx) rfl rfl ?_ (Below.refl _ _) (fun d hd => by cases hd; exact rfl))
                go_simp
              · obtain ⟨_, q53, rfl⟩ := hG.new 53 (by kernel_rfl) (by kernel_rfl)
                refine step_slot rfl rfl rfl (step_value (v := .pointer (some ⟨(ad.add (i * 6)).block, (ad.add (i * 6)).off + 1, none⟩)) (w' := wx) rfl rfl ?_ (Below.refl _ _) (fun d hd => by cases hd; exact rfl))
                go_simp
              · obtain ⟨_, q54, rfl⟩ := hG.new 54 (by kernel_rfl) (by kernel_rfl)
                obtain ⟨z0, z1, z2, z3, z4, z5⟩ := HCC8.out wx hS
                refine step_slot rfl rfl rfl (step_value (v := .string xk) (w' := wx) rfl rfl ?_ (Below.refl _ _) (fun d hd => by cases hd; exact rfl))
                go_simp
              · have q1 := hG.old 1 (by kernel_rfl) (by kernel_rfl)
                refine step_slot rfl rfl rfl (step_value (v := .slice (some ad) n ccap) (w' := wx) rfl rfl ?_ (Below.refl _ _) (fun d hd => by cases hd; exact rfl))
                go_simp
              · have q8 := hG.old 8 (by kernel_rfl) (by kernel_rfl)
                refine step_slot rfl rfl rfl (step_value (v := .int .i64 (i : Int)) (w' := wx) rfl rfl ?_ (Below.refl _ _) (fun d hd => by cases hd; exact rfl))
                go_simp
              · obtain ⟨_, q56, rfl⟩ := hG.new 56 (by kernel_rfl) (by kernel_rfl)
                obtain ⟨_, q57, rfl⟩ := hG.new 57 (by kernel_rfl) (by kernel_rfl)
                have hin := HIN.out
                refine step_slot rfl rfl rfl (step_value (v := .pointer (some (ad.add (i * 6)))) (w' := wx) rfl rfl ?_ (Below.refl _ _) (fun d hd => by cases hd; exact rfl))
                go_simp
              · obtain ⟨_, q58, rfl⟩ := hG.new 58 (by kernel_rfl) (by kernel_rfl)
                refine step_slot rfl rfl rfl (step_value (v := .pointer (some ⟨(ad.add (i * 6)).block, (ad.add (i * 6)).off + 2, none⟩)) (w' := wx) rfl rfl ?_ (Below.refl _ _) (fun d hd => by cases hd; exact rfl))
                go_simp
              · obtain ⟨_, q59, rfl⟩ := hG.new 59 (by kernel_rfl) (by kernel_rfl)
                obtain ⟨z0, z1, z2, z3, z4, z5⟩ := HCC8.out wx hS
                refine step_slot rfl rfl rfl (step_value (v := .bool xh) (w' := wx) rfl rfl ?_ (Below.refl _ _) (fun d hd => by cases hd; exact rfl))
                go_simp
              · have q1 := hG.old 1 (by kernel_rfl) (by kernel_rfl)
                refine step_slot rfl rfl rfl (step_value (v := .slice (some ad) n ccap) (w' := wx) rfl rfl ?_ (Below.refl _ _) (fun d hd => by cases hd; exact rfl))
                go_simp
              · have q8 := hG.old 8 (by kernel_rfl) (by kernel_rfl)
                refine step_slot rfl rfl rfl (step_value (v := .int .i64 (i : Int)) (w' := wx) rfl rfl ?_ (Below.refl _ _) (fun d hd => by cases hd; exact rfl))
                go_simp
              · obtain ⟨_, q61, rfl⟩ := hG.new 61 (by kernel_rfl) (by kernel_rfl)
                obtain ⟨_, q62, rfl⟩ := hG.new 62 (by kernel_rfl) (by kernel_rfl)
                have hin := HIN.out
                refine step_slot rfl rfl rfl (step_value (v := .pointer (some (ad.add (i * 6)))) (w' := wx) rfl rfl ?_ (Below.refl _ _) (fun d hd => by cases hd; exact rfl))
                go_simp
              · obtain ⟨_, q63, rfl⟩ := hG.new 63 (by kernel_rfl) (by kernel_rfl)
                refine step_slot rfl rfl rfl (step_value (v := .pointer (some ⟨(ad.add (i * 6)).block, (ad.add (i * 6)).off + 3, none⟩)) (w' := wx) rfl rfl ?_ (Below.refl _ _) (fun d hd => by cases hd; exact rfl))
                go_simp
              · obtain ⟨_, q64, rfl⟩ := hG.new 64 (by kernel_rfl) (by kernel_rfl)
                obtain ⟨z0, z1, z2, z3, z4, z5⟩ := HCC8.out wx hS
                refine step_slot rfl rfl rfl (step_value (v := .string xb) (w' := wx) rfl rfl ?_ (Below.refl _ _) (fun d hd => by cases hd; exact rfl))
                go_simp
              · obtain ⟨_, q50, rfl⟩ := hG.new 50 (by kernel_rfl) (by kernel_rfl)
                obtain ⟨_, q55, rfl⟩ := hG.new 55 (by kernel_rfl) (by kernel_rfl)
                obtain ⟨_, q60, rfl⟩ := hG.new 60 (by kernel_rfl) (by kernel_rfl)
                obtain ⟨_, q65, rfl⟩ := hG.new 65 (by kernel_rfl) (by kernel_rfl)
                refine step_slot rfl rfl rfl (step_call (w1 := wx) (f := 39) (args := #[.slice QA qn qc, .string xk, .bool xh, .string xb]) rfl rfl ?_ ((HSC.out wx hS).mono ?_))
                · skip
                  go_simp
                · rintro e w' ⟨v', rfl, hv, hq⟩
                  exact ⟨_, rfl, hq, fun d hd => by cases hd; exact hv⟩
              · obtain ⟨v66, q66, h66⟩ := hG.new 66 (by kernel_rfl) (by kernel_rfl)
                have p66 : PV wx v66 Q := h66
                refine step_slot rfl rfl rfl (step_value (v := v66) (w' := wx) rfl rfl ?_ (Below.refl _ _) (fun d hd => by cases hd; exact p66))
                clear h66 p66
                go_simp
            intro fv wf hbf _ hV8
            have e7 : PV wf (fv 7) Q := hV8 7 (by decide)
            simp only [puts, Act.put, List.setIfInBounds_toArray, List.set_cons_succ, List.set_cons_zero]
            clear hV8
            have hbw : Below w.heap.size w wf := HBR.out.trans ((HBE.out.trans (hbf.mono HBE.out.size)).mono HBR.out.size)
            have HBW := Lib.hid hbw
            have HE7 := Lib.hid e7
            clear hbw hbf e7
            go_wp2
            go_roundw
            case rel => exact ⟨k + 1, false, Q, (i : Int) - 1, by go_num, by omega, rfl, by omega, HE7.out, fun h => (by cases h), fun _ => do_bad (HNX.out.2 rfl), HBW.out⟩
            case measure => simp [intOf]
          | true =>
            have HCC8 := Lib.hid (show ∀ wx, Below we.heap.size we wx → _ ∧ _ ∧ _ ∧ _ ∧ _ ∧ _ from fun wx hb => HC0.out wx ((show Below wd.heap.size wd we from HBE.out).trans (hb.mono HBE.out.size)))
            have HSC := Lib.hid (fun wx (hb : Below we.heap.size we wx) => HSC0.out wx ((show Below wd.heap.size wd we from HBE.out).trans (hb.mono HBE.out.size)))
            go_upto_region 8 with fail
            refine wp_region_phase 24 [50, 51, 52, 53, 54, 55, 56, 57, 58, 59, 60, 61, 62, 63, 64, 65, 66, 7] (by kernel_rfl) [] [] (fun _ _ => True) 0 rfl (by kernel_rfl) ((fun _ wx => Below we.heap.size we wx)) (fun wa wb => Below wa.heap.size wa wb) (RundoB (some ad) QA ad i n ccap qn qc xs xk xh xb xg xa Q) (by kernel_rfl) (fun _ wa wb h1 h2 => h2.trans (h1.mono h2.size)) (fun _ t v wa wb h1 h2 => h2.on h1) (fun _ _ _ _ _ _ _ => trivial) (Below.refl _ _).drew trivial (phase0 ?_) ?_
            · refine Steps1.cons (fun _ ax wx hS _ hG => ?_) (Steps1.cons (fun _ ax wx hS _ hG => ?_) (Steps1.cons (fun _ ax wx hS _ hG => ?_) (Steps1.cons (fun _ ax wx hS _ hG => ?_) (Steps1.cons (fun _ ax wx hS _ hG => ?_) (Steps1.cons (fun _ ax wx hS _ hG => ?_) (Steps1.cons (fun _ ax wx hS _ hG => ?_) (Steps1.cons (fun _ ax wx hS _ hG => ?_) (Steps1.cons (fun _ ax wx hS _ hG => ?_) (Steps1.cons (fun _ ax wx hS _ hG => ?_) (Steps1.cons (fun _ ax wx hS _ hG => ?_) (Steps1.cons (fun _ ax wx hS _ hG => ?_) (Steps1.cons (fun _ ax wx hS _ hG => ?_) (Steps1.cons (fun _ ax wx hS _ hG => ?_) (Steps1.cons (fun _ ax wx hS _ hG => ?_) (Steps1.cons (fun _ ax wx hS _ hG => ?_) (Steps1.cons (fun _ ax wx hS _ hG => ?_) (Steps1.cons (fun _ ax wx hS _ hG => ?_) Steps1.nil)))))))))))))))))
              · have q7 := hG.old 7 (by kernel_rfl) (by kernel_rfl)
                refine step_slot rfl rfl rfl (step_value (v := .slice QA qn qc) (w' := wx) rfl rfl ?_ (Below.refl _ _) (fun d hd => by cases hd; exact rfl))
                go_simp
              · have q1 := hG.old 1 (by kernel_rfl) (by kernel_rfl)
                refine step_slot rfl rfl rfl (step_value (v := .slice (some ad) n ccap) (w' := wx) rfl rfl ?_ (Below.refl _ _) (fun d hd => by cases hd; exact rfl))
                go_simp
              · have q8 := hG.old 8 (by kernel_rfl) (by kernel_rfl)
                refine step_slot rfl rfl rfl (step_value (v := .int .i64 (i : Int)) (w' := wx) rfl rfl ?_ (Below.refl _ _) (fun d hd => by cases hd; exact rfl))
                go_simp
              · obtain ⟨_, q51, rfl⟩ := hG.new 51 (by kernel_rfl) (by kernel_rfl)
                obtain ⟨_, q52, rfl⟩ := hG.new 52 (by kernel_rfl) (by kernel_rfl)
                have hin := HIN.out
                refine step_slot rfl rfl rfl (step_value (v := .pointer (some (ad.add (i * 6)))) (w' := wx) rfl rfl ?_ (Below.refl _ _) (fun d hd => by cases hd; exact rfl))
                go_simp
              · obtain ⟨_, q53, rfl⟩ := hG.new 53 (by kernel_rfl) (by kernel_rfl)
                refine step_slot rfl rfl rfl (step_value (v := .pointer (some ⟨(ad.add (i * 6)).block, (ad.add (i * 6)).off + 1, none⟩)) (w' := wx) rfl rfl ?_ (Below.refl _ _) (fun d hd => by cases hd; exact rfl))
                go_simp
              · obtain ⟨_, q54, rfl⟩ := hG.new 54 (by kernel_rfl) (by kernel_rfl)
                obtain ⟨z0, z1, z2, z3, z4, z5⟩ := HCC8.out wx hS
                refine step_slot rfl rfl rfl (step_value (v := .string xk) (w' := wx) rfl rfl ?_ (Below.refl _ _) (fun d hd => by cases hd; exact rfl))
                go_simp
              · have q1 := hG.old 1 (by kernel_rfl) (by kernel_rfl)
                refine step_slot rfl rfl rfl (step_value (v := .slice (some ad) n ccap) (w' := wx) rfl rfl ?_ (Below.refl _ _) (fun d hd => by cases hd; exact rfl))
                go_simp
              · have q8 := hG.old 8 (by kernel_rfl) (by kernel_rfl)
                refine step_slot rfl rfl rfl (step_value (v := .int .i64 (i : Int)) (w' := wx) rfl rfl ?_ (Below.refl _ _) (fun d hd => by cases hd; exact rfl))
                go_simp
              · obtain ⟨_, q56, rfl⟩ := hG.new 56 (by kernel_rfl) (by kernel_rfl)
                obtain ⟨_, q57, rfl⟩ := hG.new 57 (by kernel_rfl) (by kernel_rfl)
                have hin := HIN.out
                refine step_slot rfl rfl rfl (step_value (v := .pointer (some (ad.add (i * 6)))) (w' := wx) rfl rfl ?_ (Below.refl _ _) (fun d hd => by cases hd; exact rfl))
                go_simp
              · obtain ⟨_, q58, rfl⟩ := hG.new 58 (by kernel_rfl) (by kernel_rfl)
                refine step_slot rfl rfl rfl (step_value (v := .pointer (some ⟨(ad.add (i * 6)).block, (ad.add (i * 6)).off + 2, none⟩)) (w' := wx) rfl rfl ?_ (Below.refl _ _) (fun d hd => by cases hd; exact rfl))
                go_simp
              · obtain ⟨_, q59, rfl⟩ := hG.new 59 (by kernel_rfl) (by kernel_rfl)
                obtain ⟨z0, z1, z2, z3, z4, z5⟩ := HCC8.out wx hS
                refine step_slot rfl rfl rfl (step_value (v := .bool xh) (w' := wx) rfl rfl ?_ (Below.refl _ _) (fun d hd => by cases hd; exact rfl))
                go_simp
              · have q1 := hG.old 1 (by kernel_rfl) (by kernel_rfl)
                refine step_slot rfl rfl rfl (step_value (v := .slice (some ad) n ccap) (w' := wx) rfl rfl ?_ (Below.refl _ _) (fun d hd => by cases hd; exact rfl))
                go_simp
              · have q8 := hG.old 8 (by kernel_rfl) (by kernel_rfl)
                refine step_slot rfl rfl rfl (step_value (v := .int .i64 (i : Int)) (w' := wx) rfl rfl ?_ (Below.refl _ _) (fun d hd => by cases hd; exact rfl))
                go_simp
              · obtain ⟨_, q61, rfl⟩ := hG.new 61 (by kernel_rfl) (by kernel_rfl)
                obtain ⟨_, q62, rfl⟩ := hG.new 62 (by kernel_rfl) (by kernel_rfl)
                have hin := HIN.out
                refine step_slot rfl rfl rfl (step_value (v := .pointer (some (ad.add (i * 6)))) (w' := wx) rfl rfl ?_ (Below.refl _ _) (fun d hd => by cases hd; exact rfl))
                go_simp
              · obtain ⟨_, q63, rfl⟩ := hG.new 63 (by kernel_rfl) (by kernel_rfl)
                refine step_slot rfl rfl rfl (step_value (v := .pointer (some ⟨(ad.add (i * 6)).block, (ad.add (i * 6)).off + 3, none⟩)) (w' := wx) rfl rfl ?_ (Below.refl _ _) (fun d hd => by cases hd; exact rfl))
                go_simp
              · obtain ⟨_, q64, rfl⟩ := hG.new 64 (by kernel_rfl) (by kernel_rfl)
                obtain ⟨z0, z1, z2, z3, z4, z5⟩ := HCC8.out wx hS
                refine step_slot rfl rfl rfl (step_value (v := .string xb) (w' := wx) rfl rfl ?_ (Below.refl _ _) (fun d hd => by cases hd; exact rfl))
                go_simp
              · obtain ⟨_, q50, rfl⟩ := hG.new 50 (by kernel_rfl) (by kernel_rfl)
                obtain ⟨_, q55, rfl⟩ := hG.new 55 (by kernel_rfl) (by kernel_rfl)
                obtain ⟨_, q60, rfl⟩ := hG.new 60 (by kernel_rfl) (by kernel_rfl)
                obtain ⟨_, q65, rfl⟩ := hG.new 65 (by kernel_rfl) (by kernel_rfl)
                refine step_slot rfl rfl rfl (step_call (w1 := wx) (f := 39) (args := #[.slice QA qn qc, .string xk, .bool xh, .string xb]) rfl rfl ?_ ((HSC.out wx hS).mono ?_))
                · skip
                  go_simp
                · rintro e w' ⟨v', rfl, hv, hq⟩
                  exact ⟨_, rfl, hq, fun d hd => by cases hd; exact hv⟩
              · obtain ⟨v66, q66, h66⟩ := hG.new 66 (by kernel_rfl) (by kernel_rfl)
                have p66 : PV wx v66 Q := h66
                refine step_slot rfl rfl rfl (step_value (v := v66) (w' := wx) rfl rfl ?_ (Below.refl _ _) (fun d hd => by cases hd; exact p66))
                clear h66 p66
                go_simp
            intro fv wf hbf _ hV8
            have e7 : PV wf (fv 7) Q := hV8 7 (by decide)
            simp only [puts, Act.put, List.setIfInBounds_toArray, List.set_cons_succ, List.set_cons_zero]
            clear hV8
            have hbw : Below w.heap.size w wf := HBR.out.trans ((HBE.out.trans (hbf.mono HBE.out.size)).mono HBR.out.size)
            have HBW := Lib.hid hbw
            have HE7 := Lib.hid e7
            clear hbw hbf e7
            go_wp2
            go_roundw
            case rel => exact ⟨k + 1, true, Q, (i : Int) - 1, by go_num, by omega, rfl, by omega, HE7.out, fun _ => ⟨HWL.out, HNX.out.1 rfl⟩, fun h => (by cases h), HBW.out⟩
            case measure => simp [intOf]
    · obtain rfl : k = n := by omega
      obtain rfl : z = -1 := by omega
      have HBR := Lib.hid hbr
      clear hbr
      cases ok with
      | false =>
        have HF := Lib.hid (FINN.out (HNO.out rfl))
        go_wp2
        go_ret2
        obtain ⟨e1, e2⟩ := HF.out
        exact ⟨_, by rw [e1]; rfl, by rw [e2]; exact HV.out.on HBR.out, HBR.out⟩
      | true =>
        obtain ⟨hwl, hdq⟩ := HYES.out rfl
        rw [List.take_of_length_le (by rw [HDL.out]; exact Nat.le_refl _)] at hdq
        have HF := Lib.hid (FINY.out q hwl hdq)
        clear hwl hdq
        go_wp2
        go_ret2
        obtain ⟨e1, e2⟩ := HF.out
        exact ⟨_, by rw [e1]; rfl, by rw [e2]; exact HQ.out, HBR.out⟩

end Go.Proofs.Ytgpjbajfkagdbaa
