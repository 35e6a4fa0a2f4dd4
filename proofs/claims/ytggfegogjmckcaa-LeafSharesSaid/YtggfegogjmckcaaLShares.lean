/- The walk of the law LeafShares. -/
import Derived.Test.YtggfegogjmckcaaAwk
import Derived.Test.YtggfegogjmckcaaFct
import Derived.Test.YtggfegogjmckcaaRShare
namespace Go.Proofs.Ytggfegogjmckcaa
open Go.RowKit

theorem flat_take (ps : List (List Pr)) (i : Nat) (h : i < ps.length) : (ps.take (i + 1)).flatten = (ps.take i).flatten ++ ps[i] := by
  rw [List.take_succ_eq_append_getElem h, List.flatten_append, List.flatten_singleton]
theorem flat_le (ps : List (List Pr)) (i : Nat) : (ps.take i).flatten.length ≤ ps.flatten.length := by
  have h : ps.flatten = (ps.take i).flatten ++ (ps.drop i).flatten := by rw [← List.flatten_append, List.take_append_drop]
  rw [h, List.length_append]
  omega
theorem share_le (l : List Pr) (most : Int) : (shareL l most).flatten.length ≤ l.length := by
  by_cases h : most < 1
  · unfold shareL
    rw [if_pos (.inr h)]
    simp
  · rw [flat_share l most h]
    exact Nat.le_refl _

set_option maxHeartbeats 4000000 in
set_option maxRecDepth 100000 in
theorem shares_walk (v : Value) (l : List Pr) (most : Int) (w : World) (hP : PV w v l) (hn : l.length ≤ maxLen) (hm : -9223372036854775808 ≤ most ∧ most ≤ 9223372036854775807) :
    Calls Try.prog 4 #[v, .int .i64 most] w fun e w' => e = .returned (.bool true) ∧ Below w.heap.size w w' := by
  have HP := Lib.hid hP
  obtain ⟨A, c, rfl, _, _, _⟩ := hP
  have HN := Lib.hid hn
  have HM := Lib.hid hm
  have HB := Lib.hid (Below.refl w.heap.size w)
  obtain ⟨n, hl⟩ : ∃ n, l.length = n := ⟨_, rfl⟩
  rw [hl] at HP ⊢
  have HL := Lib.hid hl
  clear hl hn hm
  by_cases h60 : n ≤ 60
  case neg =>
    have hd : decide (60 < (n : Int)) = true := by simp; omega
    have hd' : decide (60 < n) = true := by simp; omega
    clear h60
    go_enter Try.func4, Try.ntmps4
    go_wp2_with fail
    refine (awake_true _).mono ?_
    rintro e w9 ⟨rfl, hb9⟩
    have HB9 := Lib.hid (HB.out.trans (hb9.mono HB.out.size))
    clear hb9
    go_wp2
    go_ret
    exact ⟨rfl, HB9.out⟩
  have hd : decide (60 < (n : Int)) = false := by simp; omega
  have hd' : decide (60 < n) = false := by simp; omega
  have H60 := Lib.hid h60
  clear h60
  obtain ⟨ps, hps⟩ : ∃ ps, ps = shareL l most := ⟨_, rfl⟩
  have hsh := share_v HP.out most (by have h1 := H60.out; have h2 := HL.out; omega) HM.out.2
  rw [← hps] at hsh
  have hds := fun wx => dshare_any n most wx (by have h1 := H60.out; omega) HM.out.2
  have hdl : dshareL n most = ps.map List.length := by rw [hps, ← HL.out]; exact dshare_len l most
  rw [hdl] at hds
  have HDS := Lib.hid hds
  have HPS := Lib.hid hps
  clear hds hdl hps
  go_enter Try.func4, Try.ntmps4
  go_wp2_with fail
  refine hsh.mono ?_
  clear hsh
  rintro e w1 ⟨vs, rfl, hsv, hb1⟩
  have HS1 := Lib.hid hsv
  clear hsv
  have HB1 := Lib.hid (HB.out.trans (hb1.mono HB.out.size))
  have HP1 := Lib.hid (HP.out.on hb1)
  clear hb1 HB HP
  go_wp2_with fail
  refine (HDS.out _).mono ?_
  clear HDS
  rintro e w2 ⟨vn, rfl, hiv, hb2⟩
  have HI2 := Lib.hid hiv
  clear hiv
  have HB2 := Lib.hid (HB1.out.trans (hb2.mono HB1.out.size))
  have HP2 := Lib.hid (HP1.out.on hb2)
  have HS2 := Lib.hid (HS1.out.on hb2)
  clear hb2 HB1 HP1 HS1
  obtain ⟨As, cs, rfl, hparts⟩ := HS2.out.part
  obtain ⟨An, cn, rfl, hnums⟩ := HI2.out
  have hml : (ps.map List.length).length = ps.length := List.length_map _
  obtain ⟨K, hK⟩ : ∃ K, ps.length = K := ⟨_, rfl⟩
  rw [hml, hK]
  have HKK := Lib.hid hK
  have HPT := Lib.hid (show ∀ (i : Nat) (hi : i < ps.length), ∃ (ad : Addr) (u : Value), As = some ad ∧ ad.block < w2.heap.size ∧ w2.cell? (ad.add i) = some u ∧ PV w2 u ps[i] from hparts)
  have HNM := Lib.hid (show ∀ (i : Nat) (hi : i < ps.length), ∃ (ad : Addr), An = some ad ∧ ad.block < w2.heap.size ∧ w2.cell? (ad.add i) = some (.int .i64 (ps[i].length : Int)) from fun i hi => by
    obtain ⟨ad, e, hB, hc⟩ := hnums (by rw [hml]; omega)
    have h1 := hc i (by rw [hml]; omega) 0 _ rfl
    rw [Addr.add_zero', Nat.mul_one] at h1
    rw [List.getElem_map] at h1
    exact ⟨ad, e, hB, h1⟩)
  clear hparts hnums hml hK HS2 HI2
  have hKb : K ≤ 60 := by
    have h1 := share_total l most
    rw [← HPS.out, HKK.out, HL.out] at h1
    have h2 := H60.out
    omega
  have hkk : ((K : Int) != (K : Int)) = false := by simp
  go_wp2
  go_loopw [7, 28] (fun va vi wr => ∃ (i m : Nat), vi = .int .i64 i ∧ i ≤ K ∧ Hid (wr.ownsRow w2.heap.size 36 2 va m ((ps.take i).flatten.flatMap Pr.cells)) ∧ Hid (m = (ps.take i).flatten.length) ∧ Below w2.heap.size w2 wr) (fun _ vi _ => (K - intOf vi).toNat)
  case atStart => exact ⟨0, 0, rfl, by omega, World.ownsRow_nil _ _ _ _, rfl, Below.refl _ _⟩
  case round =>
    obtain ⟨i, m, rfl, hi, HO, HMM, hbr⟩ := hrel
    have hbs := hbr.size
    by_cases hlt : i < K
    · have hil : i < ps.length := by rw [HKK.out]; exact hlt
      obtain ⟨ads, u, rfl, hab, hcu, hpu⟩ := HPT.out i hil
      obtain ⟨adn, rfl, habn, hcn⟩ := HNM.out i hil
      have hst := flat_take ps i hil
      obtain ⟨p, hp⟩ : ∃ p, p = ps[i]'hil := ⟨_, rfl⟩
      rw [← hp] at hpu hcn hst
      have hle := flat_le ps (i + 1)
      have hle2 := share_le l most
      rw [← HPS.out] at hle2
      rw [hst, List.length_append] at hle
      have hmp : m + p.length ≤ 60 := by have h1 := HMM.out; have h2 := H60.out; have h3 := HL.out; omega
      have hpr := hpu.on hbr
      obtain ⟨Au, cu, rfl, hpl, hcu1, hcu2⟩ := hpr
      obtain ⟨q, hq⟩ : ∃ q, p.length = q := ⟨_, rfl⟩
      rw [hq] at hcu hcn hmp
      have HQ := Lib.hid hq
      have HST := Lib.hid hst
      have HPL := Lib.hid hpl
      have hc1 : wr.cell? (ads.add i) = some (.slice Au q cu) := (hbr.cell (by rw [block_of_add]; exact hab)).trans hcu
      have hc2 : wr.cell? (adn.add i) = some (.int .i64 (q : Int)) := (hbr.cell (by rw [block_of_add]; exact habn)).trans hcn
      have hqq : ((q : Int) != (q : Int)) = false := by simp
      have hown := HO.out
      clear hcu hcn hst hle hle2 hp hq hpl hpu
      go_wp2_with (at_builtin; refine append_prs _ rfl _ _ rfl w2.heap.size _ m ((ps.take i).flatten.flatMap Pr.cells) rfl hown wr.heap.size Au q cu p rfl ?d1 ?d2 ?d3 ?d4 hbs ?_)
      case d1 => exact HQ.out
      case d2 => exact HPL.out
      case d3 => exact hcu2
      case d4 => omega
      intro v' w5 hown5 hg5
      have hk5 : ∀ k, Value.ownBlock _ = some k → w2.heap.size ≤ k := fun k hk => (own_lt hown hk).1
      have hb5 : Below w2.heap.size w2 w5 := hbr.grown hg5 hbs hk5
      have HO5 := Lib.hid (show w5.ownsRow w2.heap.size 36 2 v' (m + q) ((ps.take (i + 1)).flatten.flatMap Pr.cells) from by
        show World.ownsRow _ _ _ _ _ _ _
        rw [HST.out, List.flatMap_append]; exact hown5)
      have HM5 := Lib.hid (show m + q = (ps.take (i + 1)).flatten.length from by rw [HST.out, List.length_append, HQ.out, ← HMM.out])
      clear hown hown5 hg5 hk5 hc1 hc2
      go_wp2
      go_roundw
      case rel => exact ⟨i + 1, m + q, by first | rfl | go_num, by omega, HO5, HM5, hb5⟩
      case measure => simp [intOf]; omega
    · have hiK : i = K := by omega
      have htk : ps.take i = ps := List.take_of_length_le (by rw [HKK.out]; omega)
      have HPA := Lib.hid (show PV wr u7 ps.flatten from by
        have h1 := HO.out; have h2 := HMM.out
        rw [htk] at h1 h2
        exact PV.own h1 h2)
      have HPr := Lib.hid (HP2.out.on hbr)
      have HBr := Lib.hid (HB2.out.trans (hbr.mono HB2.out.size))
      clear htk HO HMM hiK hbr hbs
      by_cases hm1 : most < 1
      · have hmd : decide (most < 1) = true := decide_eq_true hm1
        go_wp2_with fail
        refine (awake_true _).mono ?_
        rintro e w9 ⟨rfl, hb9⟩
        have HB9 := Lib.hid (HBr.out.trans (hb9.mono HBr.out.size))
        clear hb9
        go_wp2
        go_ret
        exact ⟨rfl, HB9.out⟩
      · have hmd : decide (most < 1) = false := decide_eq_false hm1
        have HF := Lib.hid (show ps.flatten = l from by rw [HPS.out]; exact flat_share l most hm1)
        have ca := same_v HPA.out HPr.out (by rw [HF.out]; exact HN.out)
        rw [decide_eq_true HF.out] at ca
        clear hm1
        go_wp2_with fail
        refine ca.mono ?_
        clear ca
        rintro e w6 ⟨rfl, hb6⟩
        have HB6 := Lib.hid (HBr.out.trans (hb6.mono HBr.out.size))
        clear hb6 HBr
        go_wp2_with fail
        refine (awake_true _).mono ?_
        rintro e w9 ⟨rfl, hb9⟩
        have HB9 := Lib.hid (HB6.out.trans (hb9.mono HB6.out.size))
        clear hb9
        go_wp2
        go_ret
        exact ⟨rfl, HB9.out⟩

end Go.Proofs.Ytggfegogjmckcaa
