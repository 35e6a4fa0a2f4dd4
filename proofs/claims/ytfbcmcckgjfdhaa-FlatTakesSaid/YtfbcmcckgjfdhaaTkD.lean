/- The condition of FlatTakes' loop: all its cases in one. -/
import Derived.Test.YtfbcmcckgjfdhaaTkC
set_option linter.unusedVariables false
set_option linter.unusedSimpArgs false
namespace Go.Proofs.Ytfbcmcckgjfdhaa
open Go.RowKit Go.Sort

set_option maxRecDepth 100000 in
set_option maxHeartbeats 4000000 in
theorem tk28 (gG k : Nat) (gn0 gn1 gn2 : Bool) (wb : World) {AN : Option Addr} {nN cN gxN : Nat} {EN : Int} {LN : List Nt} {xk : Int} {xkey xval : ByteArray} {xn : UInt64} {AP : Option Addr} {nP cP gxP : Nat} {EP : Int} {LP : List Pr} {pk pv : ByteArray} {AC : Option Addr} {nC cC gxC : Nat} {EC : Int} {LC : List Ch} {cs : Int} {ck cb ca : ByteArray} {ch cg : Bool} (a0 : Act) (w0 : World) (Q : Exit → Act → World → Prop) (hsz : a0.tmps.size = 315) (o21 : a0.tmps[21]? = some (.pointer (some ⟨gG, 0, none⟩))) (o23 : a0.tmps[23]? = some (.int .i64 (k : Int)))
    (HB : Hid (Below wb.heap.size wb w0)) (BG : Hid (Box w0 gG 59 #[.bool gn0, .bool gn1, .bool gn2]))
    (o3 : a0.tmps[3]? = some (.slice AN nN cN)) (o5 : a0.tmps[5]? = some (.int .i64 EN)) (o24 : a0.tmps[24]? = some (.pointer (some ⟨gxN, 0, none⟩)))
    (NLN : Hid (LN.length = nN)) (HAN : Hid (Nts wb wb.heap.size AN LN)) (BXN : Hid (Box w0 gxN 62 #[.int .i64 xk, .string xkey, .string xval, .int .u64 (xn.toNat : Int)])) (HCN : Hid (EN = 2 ∨ (EN = 0 ∧ gn0 = true ∧ ∃ h : k < LN.length, LN[k] = (⟨xk, xkey, xval, xn⟩ : Nt))))
    (o6 : a0.tmps[6]? = some (.slice AP nP cP)) (o8 : a0.tmps[8]? = some (.int .i64 EP)) (o26 : a0.tmps[26]? = some (.pointer (some ⟨gxP, 0, none⟩)))
    (NLP : Hid (LP.length = nP)) (HAP : Hid (Prs wb wb.heap.size AP LP)) (BXP : Hid (Box w0 gxP 66 #[.string pk, .string pv])) (HCP : Hid (EP = 2 ∨ (EP = 0 ∧ gn1 = true ∧ ∃ h : k < LP.length, LP[k] = (⟨pk, pv⟩ : Pr))))
    (o9 : a0.tmps[9]? = some (.slice AC nC cC)) (o11 : a0.tmps[11]? = some (.int .i64 EC)) (o28 : a0.tmps[28]? = some (.pointer (some ⟨gxC, 0, none⟩)))
    (NLC : Hid (LC.length = nC)) (HAC : Hid (Chs wb wb.heap.size AC LC)) (BXC : Hid (Box w0 gxC 42 #[.int .i64 cs, .string ck, .bool ch, .string cb, .bool cg, .string ca])) (HCC : Hid (EC = 2 ∨ (EC = 0 ∧ gn2 = true ∧ ∃ h : k < LC.length, LC[k] = (⟨cs, ck, ch, cb, cg, ca⟩ : Ch))))
    (done : ∀ (fv : Nat → Value) (wf : World), Below w0.heap.size w0 wf → fv 239 = .bool false → Q .normal (puts a0 [173, 174, 175, 176, 177, 178, 179, 180, 181, 182, 183, 184, 185, 186, 187, 188, 189, 190, 191, 192, 193, 194, 195, 196, 197, 198, 199, 200, 201, 202, 203, 204, 205, 206, 207, 208, 209, 210, 211, 212, 213, 214, 215, 216, 217, 218, 219, 220, 221, 222, 223, 224, 225, 226, 227, 228, 229, 230, 231, 232, 233, 234, 235, 236, 237, 238, 239] fv) wf) : Code.wp Try.prog rg28 Q a0 w0 := by
  rcases HCN.out with rfl | ⟨rfl, hgtN, hklN, hxeN⟩
  · skip
    rcases HCP.out with rfl | ⟨rfl, hgtP, hklP, hxeP⟩
    · skip
      rcases HCC.out with rfl | ⟨rfl, hgtC, hklC, hxeC⟩
      · skip
        exact tk28_000 gG k a0 w0 Q hsz o21 o23 o5 o8 o11 done
      · skip
        obtain ⟨adC, hadC, habC, hcaC⟩ := (HAC.out.below HB.out).seeC (by omega)
        subst hadC
        have hcxC := hcaC k hklC
        rw [hxeC] at hcxC
        simp only at hcxC
        have hltC : k < nC := by rw [← NLC.out]; exact hklC
        have hglC : (adC.add (k * 6)).block < w0.heap.size := by rw [block_of_add]; have := HB.out.size; omega
        have HVC := Lib.hid (show ∀ wx, Below w0.heap.size w0 wx → wx.cell? (adC.add (k * 6)) = some (.int .i64 cs) ∧ wx.cell? ⟨(adC.add (k * 6)).block, (adC.add (k * 6)).off + 1, none⟩ = some (.string ck) ∧ wx.cell? ⟨(adC.add (k * 6)).block, (adC.add (k * 6)).off + 2, none⟩ = some (.bool ch) ∧ wx.cell? ⟨(adC.add (k * 6)).block, (adC.add (k * 6)).off + 3, none⟩ = some (.string cb) ∧ wx.cell? ⟨(adC.add (k * 6)).block, (adC.add (k * 6)).off + 4, none⟩ = some (.bool cg) ∧ wx.cell? ⟨(adC.add (k * 6)).block, (adC.add (k * 6)).off + 5, none⟩ = some (.string ca) from fun wx hx => by
          obtain ⟨d0, d1, d2, d3, d4, d5⟩ := hcxC
          exact ⟨(hx.cell (p := adC.add (k * 6)) hglC).trans d0, (hx.cell (p := ⟨(adC.add (k * 6)).block, (adC.add (k * 6)).off + 1, none⟩) hglC).trans d1, (hx.cell (p := ⟨(adC.add (k * 6)).block, (adC.add (k * 6)).off + 2, none⟩) hglC).trans d2, (hx.cell (p := ⟨(adC.add (k * 6)).block, (adC.add (k * 6)).off + 3, none⟩) hglC).trans d3, (hx.cell (p := ⟨(adC.add (k * 6)).block, (adC.add (k * 6)).off + 4, none⟩) hglC).trans d4, (hx.cell (p := ⟨(adC.add (k * 6)).block, (adC.add (k * 6)).off + 5, none⟩) hglC).trans d5⟩)
        have HXC := Lib.hid (show ∀ wx, Below w0.heap.size w0 wx → wx.cell? ⟨gxC, 0, none⟩ = some (.int .i64 cs) ∧ wx.cell? ⟨gxC, 1, none⟩ = some (.string ck) ∧ wx.cell? ⟨gxC, 2, none⟩ = some (.bool ch) ∧ wx.cell? ⟨gxC, 3, none⟩ = some (.string cb) ∧ wx.cell? ⟨gxC, 4, none⟩ = some (.bool cg) ∧ wx.cell? ⟨gxC, 5, none⟩ = some (.string ca) from fun wx hx => by
          have hb := BXC.out.on hx
          exact ⟨hb.cell 0 rfl, hb.cell 1 rfl, hb.cell 2 rfl, hb.cell 3 rfl, hb.cell 4 rfl, hb.cell 5 rfl⟩)
        have HGC := Lib.hid (show ∀ wx, Below w0.heap.size w0 wx → wx.cell? ⟨gG, 2, none⟩ = some (.bool true) from fun wx hx => by
          have hb := (BG.out.on hx).cell 2 rfl
          rw [hgtC] at hb
          exact hb)
        have HLTC := Lib.hid hltC
        have HGEC := Lib.hid (show decide ((nC : Int) ≤ (k : Int)) = false by simp; omega)
        have HGFC := Lib.hid (show decide (nC ≤ k) = false by simp; omega)
        exact tk28_001 gG k adC nC cC cs ck cb ca ch cg a0 w0 Q hsz o21 o23 o5 o8 o11 gxC o9 o28 HLTC HGEC HGFC HGC HVC HXC done
    · skip
      obtain ⟨adP, hadP, habP, hcaP⟩ := (HAP.out.below HB.out).seeP (by omega)
      subst hadP
      have hcxP := hcaP k hklP
      rw [hxeP] at hcxP
      simp only at hcxP
      have hltP : k < nP := by rw [← NLP.out]; exact hklP
      have hglP : (adP.add (k * 2)).block < w0.heap.size := by rw [block_of_add]; have := HB.out.size; omega
      have HVP := Lib.hid (show ∀ wx, Below w0.heap.size w0 wx → wx.cell? (adP.add (k * 2)) = some (.string pk) ∧ wx.cell? ⟨(adP.add (k * 2)).block, (adP.add (k * 2)).off + 1, none⟩ = some (.string pv) from fun wx hx => by
        obtain ⟨d0, d1⟩ := hcxP
        exact ⟨(hx.cell (p := adP.add (k * 2)) hglP).trans d0, (hx.cell (p := ⟨(adP.add (k * 2)).block, (adP.add (k * 2)).off + 1, none⟩) hglP).trans d1⟩)
      have HXP := Lib.hid (show ∀ wx, Below w0.heap.size w0 wx → wx.cell? ⟨gxP, 0, none⟩ = some (.string pk) ∧ wx.cell? ⟨gxP, 1, none⟩ = some (.string pv) from fun wx hx => by
        have hb := BXP.out.on hx
        exact ⟨hb.cell 0 rfl, hb.cell 1 rfl⟩)
      have HGP := Lib.hid (show ∀ wx, Below w0.heap.size w0 wx → wx.cell? ⟨gG, 1, none⟩ = some (.bool true) from fun wx hx => by
        have hb := (BG.out.on hx).cell 1 rfl
        rw [hgtP] at hb
        exact hb)
      have HLTP := Lib.hid hltP
      have HGEP := Lib.hid (show decide ((nP : Int) ≤ (k : Int)) = false by simp; omega)
      have HGFP := Lib.hid (show decide (nP ≤ k) = false by simp; omega)
      rcases HCC.out with rfl | ⟨rfl, hgtC, hklC, hxeC⟩
      · skip
        exact tk28_010 gG k adP nP cP pk pv a0 w0 Q hsz o21 o23 o5 o8 gxP o6 o26 HLTP HGEP HGFP HGP HVP HXP o11 done
      · skip
        obtain ⟨adC, hadC, habC, hcaC⟩ := (HAC.out.below HB.out).seeC (by omega)
        subst hadC
        have hcxC := hcaC k hklC
        rw [hxeC] at hcxC
        simp only at hcxC
        have hltC : k < nC := by rw [← NLC.out]; exact hklC
        have hglC : (adC.add (k * 6)).block < w0.heap.size := by rw [block_of_add]; have := HB.out.size; omega
        have HVC := Lib.hid (show ∀ wx, Below w0.heap.size w0 wx → wx.cell? (adC.add (k * 6)) = some (.int .i64 cs) ∧ wx.cell? ⟨(adC.add (k * 6)).block, (adC.add (k * 6)).off + 1, none⟩ = some (.string ck) ∧ wx.cell? ⟨(adC.add (k * 6)).block, (adC.add (k * 6)).off + 2, none⟩ = some (.bool ch) ∧ wx.cell? ⟨(adC.add (k * 6)).block, (adC.add (k * 6)).off + 3, none⟩ = some (.string cb) ∧ wx.cell? ⟨(adC.add (k * 6)).block, (adC.add (k * 6)).off + 4, none⟩ = some (.bool cg) ∧ wx.cell? ⟨(adC.add (k * 6)).block, (adC.add (k * 6)).off + 5, none⟩ = some (.string ca) from fun wx hx => by
          obtain ⟨d0, d1, d2, d3, d4, d5⟩ := hcxC
          exact ⟨(hx.cell (p := adC.add (k * 6)) hglC).trans d0, (hx.cell (p := ⟨(adC.add (k * 6)).block, (adC.add (k * 6)).off + 1, none⟩) hglC).trans d1, (hx.cell (p := ⟨(adC.add (k * 6)).block, (adC.add (k * 6)).off + 2, none⟩) hglC).trans d2, (hx.cell (p := ⟨(adC.add (k * 6)).block, (adC.add (k * 6)).off + 3, none⟩) hglC).trans d3, (hx.cell (p := ⟨(adC.add (k * 6)).block, (adC.add (k * 6)).off + 4, none⟩) hglC).trans d4, (hx.cell (p := ⟨(adC.add (k * 6)).block, (adC.add (k * 6)).off + 5, none⟩) hglC).trans d5⟩)
        have HXC := Lib.hid (show ∀ wx, Below w0.heap.size w0 wx → wx.cell? ⟨gxC, 0, none⟩ = some (.int .i64 cs) ∧ wx.cell? ⟨gxC, 1, none⟩ = some (.string ck) ∧ wx.cell? ⟨gxC, 2, none⟩ = some (.bool ch) ∧ wx.cell? ⟨gxC, 3, none⟩ = some (.string cb) ∧ wx.cell? ⟨gxC, 4, none⟩ = some (.bool cg) ∧ wx.cell? ⟨gxC, 5, none⟩ = some (.string ca) from fun wx hx => by
          have hb := BXC.out.on hx
          exact ⟨hb.cell 0 rfl, hb.cell 1 rfl, hb.cell 2 rfl, hb.cell 3 rfl, hb.cell 4 rfl, hb.cell 5 rfl⟩)
        have HGC := Lib.hid (show ∀ wx, Below w0.heap.size w0 wx → wx.cell? ⟨gG, 2, none⟩ = some (.bool true) from fun wx hx => by
          have hb := (BG.out.on hx).cell 2 rfl
          rw [hgtC] at hb
          exact hb)
        have HLTC := Lib.hid hltC
        have HGEC := Lib.hid (show decide ((nC : Int) ≤ (k : Int)) = false by simp; omega)
        have HGFC := Lib.hid (show decide (nC ≤ k) = false by simp; omega)
        exact tk28_011 gG k adP nP cP pk pv adC nC cC cs ck cb ca ch cg a0 w0 Q hsz o21 o23 o5 o8 gxP o6 o26 HLTP HGEP HGFP HGP HVP HXP o11 gxC o9 o28 HLTC HGEC HGFC HGC HVC HXC done
  · skip
    obtain ⟨adN, hadN, habN, hcaN⟩ := (HAN.out.below HB.out).seeN (by omega)
    subst hadN
    have hcxN := hcaN k hklN
    rw [hxeN] at hcxN
    simp only at hcxN
    have hltN : k < nN := by rw [← NLN.out]; exact hklN
    have hglN : (adN.add (k * 4)).block < w0.heap.size := by rw [block_of_add]; have := HB.out.size; omega
    have HVN := Lib.hid (show ∀ wx, Below w0.heap.size w0 wx → wx.cell? (adN.add (k * 4)) = some (.int .i64 xk) ∧ wx.cell? ⟨(adN.add (k * 4)).block, (adN.add (k * 4)).off + 1, none⟩ = some (.string xkey) ∧ wx.cell? ⟨(adN.add (k * 4)).block, (adN.add (k * 4)).off + 2, none⟩ = some (.string xval) ∧ wx.cell? ⟨(adN.add (k * 4)).block, (adN.add (k * 4)).off + 3, none⟩ = some (.int .u64 (xn.toNat : Int)) from fun wx hx => by
      obtain ⟨d0, d1, d2, d3⟩ := hcxN
      exact ⟨(hx.cell (p := adN.add (k * 4)) hglN).trans d0, (hx.cell (p := ⟨(adN.add (k * 4)).block, (adN.add (k * 4)).off + 1, none⟩) hglN).trans d1, (hx.cell (p := ⟨(adN.add (k * 4)).block, (adN.add (k * 4)).off + 2, none⟩) hglN).trans d2, (hx.cell (p := ⟨(adN.add (k * 4)).block, (adN.add (k * 4)).off + 3, none⟩) hglN).trans d3⟩)
    have HXN := Lib.hid (show ∀ wx, Below w0.heap.size w0 wx → wx.cell? ⟨gxN, 0, none⟩ = some (.int .i64 xk) ∧ wx.cell? ⟨gxN, 1, none⟩ = some (.string xkey) ∧ wx.cell? ⟨gxN, 2, none⟩ = some (.string xval) ∧ wx.cell? ⟨gxN, 3, none⟩ = some (.int .u64 (xn.toNat : Int)) from fun wx hx => by
      have hb := BXN.out.on hx
      exact ⟨hb.cell 0 rfl, hb.cell 1 rfl, hb.cell 2 rfl, hb.cell 3 rfl⟩)
    have HGN := Lib.hid (show ∀ wx, Below w0.heap.size w0 wx → wx.cell? ⟨gG, 0, none⟩ = some (.bool true) from fun wx hx => by
      have hb := (BG.out.on hx).cell 0 rfl
      rw [hgtN] at hb
      exact hb)
    have HLTN := Lib.hid hltN
    have HGEN := Lib.hid (show decide ((nN : Int) ≤ (k : Int)) = false by simp; omega)
    have HGFN := Lib.hid (show decide (nN ≤ k) = false by simp; omega)
    rcases HCP.out with rfl | ⟨rfl, hgtP, hklP, hxeP⟩
    · skip
      rcases HCC.out with rfl | ⟨rfl, hgtC, hklC, hxeC⟩
      · skip
        exact tk28_100 gG k adN nN cN xk xkey xval xn a0 w0 Q hsz o21 o23 o5 gxN o3 o24 HLTN HGEN HGFN HGN HVN HXN o8 o11 done
      · skip
        obtain ⟨adC, hadC, habC, hcaC⟩ := (HAC.out.below HB.out).seeC (by omega)
        subst hadC
        have hcxC := hcaC k hklC
        rw [hxeC] at hcxC
        simp only at hcxC
        have hltC : k < nC := by rw [← NLC.out]; exact hklC
        have hglC : (adC.add (k * 6)).block < w0.heap.size := by rw [block_of_add]; have := HB.out.size; omega
        have HVC := Lib.hid (show ∀ wx, Below w0.heap.size w0 wx → wx.cell? (adC.add (k * 6)) = some (.int .i64 cs) ∧ wx.cell? ⟨(adC.add (k * 6)).block, (adC.add (k * 6)).off + 1, none⟩ = some (.string ck) ∧ wx.cell? ⟨(adC.add (k * 6)).block, (adC.add (k * 6)).off + 2, none⟩ = some (.bool ch) ∧ wx.cell? ⟨(adC.add (k * 6)).block, (adC.add (k * 6)).off + 3, none⟩ = some (.string cb) ∧ wx.cell? ⟨(adC.add (k * 6)).block, (adC.add (k * 6)).off + 4, none⟩ = some (.bool cg) ∧ wx.cell? ⟨(adC.add (k * 6)).block, (adC.add (k * 6)).off + 5, none⟩ = some (.string ca) from fun wx hx => by
          obtain ⟨d0, d1, d2, d3, d4, d5⟩ := hcxC
          exact ⟨(hx.cell (p := adC.add (k * 6)) hglC).trans d0, (hx.cell (p := ⟨(adC.add (k * 6)).block, (adC.add (k * 6)).off + 1, none⟩) hglC).trans d1, (hx.cell (p := ⟨(adC.add (k * 6)).block, (adC.add (k * 6)).off + 2, none⟩) hglC).trans d2, (hx.cell (p := ⟨(adC.add (k * 6)).block, (adC.add (k * 6)).off + 3, none⟩) hglC).trans d3, (hx.cell (p := ⟨(adC.add (k * 6)).block, (adC.add (k * 6)).off + 4, none⟩) hglC).trans d4, (hx.cell (p := ⟨(adC.add (k * 6)).block, (adC.add (k * 6)).off + 5, none⟩) hglC).trans d5⟩)
        have HXC := Lib.hid (show ∀ wx, Below w0.heap.size w0 wx → wx.cell? ⟨gxC, 0, none⟩ = some (.int .i64 cs) ∧ wx.cell? ⟨gxC, 1, none⟩ = some (.string ck) ∧ wx.cell? ⟨gxC, 2, none⟩ = some (.bool ch) ∧ wx.cell? ⟨gxC, 3, none⟩ = some (.string cb) ∧ wx.cell? ⟨gxC, 4, none⟩ = some (.bool cg) ∧ wx.cell? ⟨gxC, 5, none⟩ = some (.string ca) from fun wx hx => by
          have hb := BXC.out.on hx
          exact ⟨hb.cell 0 rfl, hb.cell 1 rfl, hb.cell 2 rfl, hb.cell 3 rfl, hb.cell 4 rfl, hb.cell 5 rfl⟩)
        have HGC := Lib.hid (show ∀ wx, Below w0.heap.size w0 wx → wx.cell? ⟨gG, 2, none⟩ = some (.bool true) from fun wx hx => by
          have hb := (BG.out.on hx).cell 2 rfl
          rw [hgtC] at hb
          exact hb)
        have HLTC := Lib.hid hltC
        have HGEC := Lib.hid (show decide ((nC : Int) ≤ (k : Int)) = false by simp; omega)
        have HGFC := Lib.hid (show decide (nC ≤ k) = false by simp; omega)
        exact tk28_101 gG k adN nN cN xk xkey xval xn adC nC cC cs ck cb ca ch cg a0 w0 Q hsz o21 o23 o5 gxN o3 o24 HLTN HGEN HGFN HGN HVN HXN o8 o11 gxC o9 o28 HLTC HGEC HGFC HGC HVC HXC done
    · skip
      obtain ⟨adP, hadP, habP, hcaP⟩ := (HAP.out.below HB.out).seeP (by omega)
      subst hadP
      have hcxP := hcaP k hklP
      rw [hxeP] at hcxP
      simp only at hcxP
      have hltP : k < nP := by rw [← NLP.out]; exact hklP
      have hglP : (adP.add (k * 2)).block < w0.heap.size := by rw [block_of_add]; have := HB.out.size; omega
      have HVP := Lib.hid (show ∀ wx, Below w0.heap.size w0 wx → wx.cell? (adP.add (k * 2)) = some (.string pk) ∧ wx.cell? ⟨(adP.add (k * 2)).block, (adP.add (k * 2)).off + 1, none⟩ = some (.string pv) from fun wx hx => by
        obtain ⟨d0, d1⟩ := hcxP
        exact ⟨(hx.cell (p := adP.add (k * 2)) hglP).trans d0, (hx.cell (p := ⟨(adP.add (k * 2)).block, (adP.add (k * 2)).off + 1, none⟩) hglP).trans d1⟩)
      have HXP := Lib.hid (show ∀ wx, Below w0.heap.size w0 wx → wx.cell? ⟨gxP, 0, none⟩ = some (.string pk) ∧ wx.cell? ⟨gxP, 1, none⟩ = some (.string pv) from fun wx hx => by
        have hb := BXP.out.on hx
        exact ⟨hb.cell 0 rfl, hb.cell 1 rfl⟩)
      have HGP := Lib.hid (show ∀ wx, Below w0.heap.size w0 wx → wx.cell? ⟨gG, 1, none⟩ = some (.bool true) from fun wx hx => by
        have hb := (BG.out.on hx).cell 1 rfl
        rw [hgtP] at hb
        exact hb)
      have HLTP := Lib.hid hltP
      have HGEP := Lib.hid (show decide ((nP : Int) ≤ (k : Int)) = false by simp; omega)
      have HGFP := Lib.hid (show decide (nP ≤ k) = false by simp; omega)
      rcases HCC.out with rfl | ⟨rfl, hgtC, hklC, hxeC⟩
      · skip
        exact tk28_110 gG k adN nN cN xk xkey xval xn adP nP cP pk pv a0 w0 Q hsz o21 o23 o5 gxN o3 o24 HLTN HGEN HGFN HGN HVN HXN o8 gxP o6 o26 HLTP HGEP HGFP HGP HVP HXP o11 done
      · skip
        obtain ⟨adC, hadC, habC, hcaC⟩ := (HAC.out.below HB.out).seeC (by omega)
        subst hadC
        have hcxC := hcaC k hklC
        rw [hxeC] at hcxC
        simp only at hcxC
        have hltC : k < nC := by rw [← NLC.out]; exact hklC
        have hglC : (adC.add (k * 6)).block < w0.heap.size := by rw [block_of_add]; have := HB.out.size; omega
        have HVC := Lib.hid (show ∀ wx, Below w0.heap.size w0 wx → wx.cell? (adC.add (k * 6)) = some (.int .i64 cs) ∧ wx.cell? ⟨(adC.add (k * 6)).block, (adC.add (k * 6)).off + 1, none⟩ = some (.string ck) ∧ wx.cell? ⟨(adC.add (k * 6)).block, (adC.add (k * 6)).off + 2, none⟩ = some (.bool ch) ∧ wx.cell? ⟨(adC.add (k * 6)).block, (adC.add (k * 6)).off + 3, none⟩ = some (.string cb) ∧ wx.cell? ⟨(adC.add (k * 6)).block, (adC.add (k * 6)).off + 4, none⟩ = some (.bool cg) ∧ wx.cell? ⟨(adC.add (k * 6)).block, (adC.add (k * 6)).off + 5, none⟩ = some (.string ca) from fun wx hx => by
          obtain ⟨d0, d1, d2, d3, d4, d5⟩ := hcxC
          exact ⟨(hx.cell (p := adC.add (k * 6)) hglC).trans d0, (hx.cell (p := ⟨(adC.add (k * 6)).block, (adC.add (k * 6)).off + 1, none⟩) hglC).trans d1, (hx.cell (p := ⟨(adC.add (k * 6)).block, (adC.add (k * 6)).off + 2, none⟩) hglC).trans d2, (hx.cell (p := ⟨(adC.add (k * 6)).block, (adC.add (k * 6)).off + 3, none⟩) hglC).trans d3, (hx.cell (p := ⟨(adC.add (k * 6)).block, (adC.add (k * 6)).off + 4, none⟩) hglC).trans d4, (hx.cell (p := ⟨(adC.add (k * 6)).block, (adC.add (k * 6)).off + 5, none⟩) hglC).trans d5⟩)
        have HXC := Lib.hid (show ∀ wx, Below w0.heap.size w0 wx → wx.cell? ⟨gxC, 0, none⟩ = some (.int .i64 cs) ∧ wx.cell? ⟨gxC, 1, none⟩ = some (.string ck) ∧ wx.cell? ⟨gxC, 2, none⟩ = some (.bool ch) ∧ wx.cell? ⟨gxC, 3, none⟩ = some (.string cb) ∧ wx.cell? ⟨gxC, 4, none⟩ = some (.bool cg) ∧ wx.cell? ⟨gxC, 5, none⟩ = some (.string ca) from fun wx hx => by
          have hb := BXC.out.on hx
          exact ⟨hb.cell 0 rfl, hb.cell 1 rfl, hb.cell 2 rfl, hb.cell 3 rfl, hb.cell 4 rfl, hb.cell 5 rfl⟩)
        have HGC := Lib.hid (show ∀ wx, Below w0.heap.size w0 wx → wx.cell? ⟨gG, 2, none⟩ = some (.bool true) from fun wx hx => by
          have hb := (BG.out.on hx).cell 2 rfl
          rw [hgtC] at hb
          exact hb)
        have HLTC := Lib.hid hltC
        have HGEC := Lib.hid (show decide ((nC : Int) ≤ (k : Int)) = false by simp; omega)
        have HGFC := Lib.hid (show decide (nC ≤ k) = false by simp; omega)
        exact tk28_111 gG k adN nN cN xk xkey xval xn adP nP cP pk pv adC nC cC cs ck cb ca ch cg a0 w0 Q hsz o21 o23 o5 gxN o3 o24 HLTN HGEN HGFN HGN HVN HXN o8 gxP o6 o26 HLTP HGEP HGFP HGP HVP HXP o11 gxC o9 o28 HLTC HGEC HGFC HGC HVC HXC done

end Go.Proofs.Ytfbcmcckgjfdhaa
