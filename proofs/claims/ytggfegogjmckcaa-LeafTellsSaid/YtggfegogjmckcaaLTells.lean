/- The walk of the law LeafTells. -/
import Derived.Test.YtggfegogjmckcaaAwk
import Derived.Test.YtggfegogjmckcaaFct
import Derived.Test.YtggfegogjmckcaaROne
namespace Go.Proofs.Ytggfegogjmckcaa
open Go.RowKit

set_option maxHeartbeats 8000000 in
set_option maxRecDepth 100000 in
theorem tells_walk (v u : Value) (l : List Pr) (ns : List Nt) (key : ByteArray) (w0 : World) (hP : PV w0 v l) (hQ : NV w0 u ns) (hn : l.length ≤ maxLen) (hm : ns.length ≤ maxLen) :
    Calls Try.prog 3 #[v, u, .string key] w0 fun e w' => e = .returned (.bool true) ∧ Below w0.heap.size w0 w' := by
  have HP0 := Lib.hid hP
  have HQ0 := Lib.hid hQ
  obtain ⟨A, c, rfl, _, _, _⟩ := hP
  have HN := Lib.hid hn
  have HB0 := Lib.hid (Below.refl w0.heap.size w0)
  obtain ⟨n, hl⟩ : ∃ n, l.length = n := ⟨_, rfl⟩
  rw [hl] at HP0 ⊢
  have HL := Lib.hid hl
  clear hl hn hm hQ
  go_enter Try.func3, Try.ntmps3
  go_wp2_with fail
  refine (small_v HP0.out).mono ?_
  rintro e w1 ⟨R, rfl, h60, hb1⟩
  have H60 := Lib.hid h60
  clear h60
  have HB1 := Lib.hid (HB0.out.trans (hb1.mono HB0.out.size))
  have HP1 := Lib.hid (HP0.out.on hb1)
  have HQ1 := Lib.hid (HQ0.out.on hb1)
  clear hb1 HB0 HP0 HQ0
  cases R with
  | false =>
    go_wp2_with fail
    refine (awake_true _).mono ?_
    rintro e w9 ⟨rfl, hb9⟩
    have HB9 := Lib.hid (HB1.out.trans (hb9.mono HB1.out.size))
    clear hb9
    go_wp2
    go_ret
    exact ⟨rfl, HB9.out⟩
  | true =>
  have hl60 : n ≤ 60 := by have := H60.out rfl; have := HL.out; omega
  have HL60 := Lib.hid hl60
  clear hl60 H60
  go_wp2_with fail
  refine (few_v HQ1.out).mono ?_
  rintro e w2 ⟨R, rfl, h60, hb2⟩
  have H60 := Lib.hid h60
  clear h60
  have HB2 := Lib.hid (HB1.out.trans (hb2.mono HB1.out.size))
  have HP2 := Lib.hid (HP1.out.on hb2)
  have HQ2 := Lib.hid (HQ1.out.on hb2)
  clear hb2 HB1 HP1 HQ1
  cases R with
  | false =>
    go_wp2_with fail
    refine (awake_true _).mono ?_
    rintro e w9 ⟨rfl, hb9⟩
    have HB9 := Lib.hid (HB2.out.trans (hb9.mono HB2.out.size))
    clear hb9
    go_wp2
    go_ret
    exact ⟨rfl, HB9.out⟩
  | true =>
  have HM60 := Lib.hid (H60.out rfl)
  clear H60
  by_cases hk : key.size ≤ 300
  case neg =>
    have hd : decide (300 < (key.size : Int)) = true := by simp; omega
    clear hk
    go_wp2_with fail
    refine (awake_true _).mono ?_
    rintro e w9 ⟨rfl, hb9⟩
    have HB9 := Lib.hid (HB2.out.trans (hb9.mono HB2.out.size))
    clear hb9
    go_wp2
    go_ret
    exact ⟨rfl, HB9.out⟩
  have hd : decide (300 < (key.size : Int)) = false := by simp; omega
  clear hk
  obtain ⟨E1, hE1⟩ : ∃ E1, E1 = applyE l ns := ⟨_, rfl⟩
  obtain ⟨L1, hL1⟩ : ∃ L1, L1 = applyL l ns := ⟨_, rfl⟩
  obtain ⟨gv, hgv⟩ : ∃ gv, gv = (getA l key).1 := ⟨_, rfl⟩
  obtain ⟨gh, hgh⟩ : ∃ gh, gh = (getA l key).2 := ⟨_, rfl⟩
  obtain ⟨p, hp⟩ : ∃ p, p = nextA l key := ⟨_, rfl⟩
  obtain ⟨W, hW⟩ : ∃ W, wellL l = W := ⟨_, rfl⟩
  have c1 := apply_v HP2.out HQ2.out (by have h1 := HL.out; have h3 := HL60.out; have h4 := HM60.out; omega)
  rw [← hE1, ← hL1] at c1
  have C2 := Lib.hid (fun (wx : World) (h : PV wx (.slice A n c) l) (g : NV wx u ns) => show Calls Try.prog 13 #[.slice A n c, u] wx fun e w' => ∃ v', e = .returned (.tuple #[v', .int .i64 E1]) ∧ PV w' v' L1 ∧ Below wx.heap.size wx w' from by
    have h := dapply_v h g (by have h1 := HL.out; have h3 := HL60.out; have h4 := HM60.out; omega)
    rw [← hE1, ← hL1] at h; exact h)
  have CG := Lib.hid (fun (wx : World) (h : PV wx (.slice A n c) l) => show Calls Try.prog 14 #[.slice A n c, .string key] wx fun e w' => e = .returned (.tuple #[.string gv, .bool gh]) ∧ Below wx.heap.size wx w' from by
    have h1 := get_v h key (by have h1 := HL.out; have h3 := HL60.out; omega)
    rw [← hgv, ← hgh] at h1; exact h1)
  have CN := Lib.hid (fun (wx : World) (h : PV wx (.slice A n c) l) => show Calls Try.prog 20 #[.slice A n c, .string key] wx fun e w' => e = .returned (.int .i64 (p : Int)) ∧ Below wx.heap.size wx w' from by
    have h1 := next_v h key (by have h1 := HL.out; have h3 := HL60.out; omega)
    rw [← hp] at h1; exact h1)
  have CR := Lib.hid (fun (wx : World) (h : PV wx (.slice A n c) l) => show Calls Try.prog 15 #[.slice A n c] wx fun e w' => e = .returned (.bool W) ∧ Below wx.heap.size wx w' from by
    obtain ⟨A', c', e', h1, _, _⟩ := h
    injection e' with e1 e2 e3
    subst e1 e3
    have h2 := dright_pr A c l wx h1 HN.out
    rw [hW, HL.out] at h2; exact h2)
  have CF := Lib.hid (fun (wx : World) (h : PV wx (.slice A n c) l) => show Calls Try.prog 16 #[.slice A n c, .string key] wx fun e w' => ∃ z, e = .returned (.int .i64 z) ∧ FoundAt l key z ∧ Below wx.heap.size wx w' from by
    obtain ⟨A', c', e', h1, _, _⟩ := h
    injection e' with e1 e2 e3
    subst e1 e3
    have h2 := dfind_any A c l key wx h1 HN.out
    rw [HL.out] at h2; exact h2)
  have CL := Lib.hid (fun (hw : W = true) (wx : World) (h : PV wx (.slice A n c) l) => show Calls Try.prog 17 #[.slice A n c, .string key] wx fun e w' => e = .returned (.int .i64 (p : Int)) ∧ Below wx.heap.size wx w' from by
    obtain ⟨A', c', e', h1, _, _⟩ := h
    injection e' with e1 e2 e3
    subst e1 e3
    have h2 := dless_any A c l key wx h1 (by have h1 := HL.out; have h3 := HL60.out; omega)
    have h3 : p = lessL l key := by rw [hp]; exact next_well (hW.trans hw) key
    rw [HL.out, ← h3] at h2; exact h2)
  have HGN := Lib.hid (show (W = false → gv = noB ∧ gh = false ∧ p = 0) ∧ (W = true → (∀ q ∈ l, q.k ≠ key) → gv = noB ∧ gh = false) ∧ (W = true → ∀ (i : Nat) (h : i < l.length), l[i].k = key → gv = l[i].v ∧ gh = true) from by
    refine ⟨fun h => ?_, fun h h2 => ?_, fun h i hi h2 => ?_⟩
    · have h3 := hW.trans h
      rw [hgv, hgh, hp]
      unfold getA nextA
      rw [h3]
      exact ⟨rfl, rfl, rfl⟩
    · have h3 := hW.trans h
      rw [hgv, hgh]
      unfold getA
      rw [h3, if_pos rfl, getL_none h2]
      exact ⟨rfl, rfl⟩
    · have h3 := get_place (hW.trans h) i hi
      rw [h2] at h3
      rw [hgv, hgh, h3]
      exact ⟨rfl, rfl⟩)
  have HLL := Lib.hid (show L1.length ≤ 120 from by have h0 := apply_len l ns; rw [← hL1] at h0; have h1 := HL.out; have h3 := HL60.out; have h4 := HM60.out; omega)
  have HW := Lib.hid hW
  have hee : (E1 == E1) = true := by simp
  have hgg : (gv.toList == gv.toList) = true := by simp
  have hpp : ((p : Int) == (p : Int)) = true := by simp
  clear hE1 hL1 hgv hgh hp hW
  go_wp2_with fail
  refine c1.mono ?_
  clear c1
  rintro e w3 ⟨va, rfl, hpa, hb3⟩
  have HX3 := Lib.hid hpa
  clear hpa
  have HB3 := Lib.hid (HB2.out.trans (hb3.mono HB2.out.size))
  have HP3 := Lib.hid (HP2.out.on hb3)
  have HQ3 := Lib.hid (HQ2.out.on hb3)
  clear hb3 HB2 HP2 HQ2
  go_wp2_with fail
  refine (C2.out _ HP3.out HQ3.out).mono ?_
  clear C2
  rintro e w4 ⟨vb, rfl, hpb, hb4⟩
  have HY4 := Lib.hid hpb
  clear hpb HQ3
  have HB4 := Lib.hid (HB3.out.trans (hb4.mono HB3.out.size))
  have HP4 := Lib.hid (HP3.out.on hb4)
  have HX4 := Lib.hid (HX3.out.on hb4)
  clear hb4 HB3 HP3 HX3
  go_wp2_with fail
  refine (CG.out _ HP4.out).mono ?_
  clear CG
  rintro e w5 ⟨rfl, hb5⟩
  have HB5 := Lib.hid (HB4.out.trans (hb5.mono HB4.out.size))
  have HP5 := Lib.hid (HP4.out.on hb5)
  have HX5 := Lib.hid (HX4.out.on hb5)
  have HY5 := Lib.hid (HY4.out.on hb5)
  clear hb5 HB4 HP4 HX4 HY4
  go_wp2_with fail
  refine (CR.out _ HP5.out).mono ?_
  clear CR
  rintro e w6 ⟨rfl, hb6⟩
  have HB6 := Lib.hid (HB5.out.trans (hb6.mono HB5.out.size))
  have HP6 := Lib.hid (HP5.out.on hb6)
  have HX6 := Lib.hid (HX5.out.on hb6)
  have HY6 := Lib.hid (HY5.out.on hb6)
  clear hb6 HB5 HP5 HX5 HY5
  go_wp2_with fail
  refine (CF.out _ HP6.out).mono ?_
  clear CF
  rintro e w7 ⟨z, rfl, hz, hb7⟩
  have HZ := Lib.hid hz
  clear hz
  have HB7 := Lib.hid (HB6.out.trans (hb7.mono HB6.out.size))
  have HP7 := Lib.hid (HP6.out.on hb7)
  have HX7 := Lib.hid (HX6.out.on hb7)
  have HY7 := Lib.hid (HY6.out.on hb7)
  clear hb7 HB6 HP6 HX6 HY6
  cases W with
  | false =>
    obtain ⟨rfl, rfl, rfl⟩ := HGN.out.1 rfl
    have ca := right_v HP7.out HN.out
    rw [HW.out] at ca
    go_wp2_with fail
    refine ca.mono ?_
    clear ca
    rintro e wf1 ⟨rfl, hbf1⟩
    have HBf1 := Lib.hid (HB7.out.trans (hbf1.mono HB7.out.size))
    have HPf1 := Lib.hid (HP7.out.on hbf1)
    have HXf1 := Lib.hid (HX7.out.on hbf1)
    have HYf1 := Lib.hid (HY7.out.on hbf1)
    clear hbf1 HB7 HP7 HX7 HY7
    have ca := same_v HXf1.out HYf1.out (by have := HLL.out; unfold maxLen; omega)
    rw [decide_eq_true rfl] at ca
    go_wp2_with fail
    refine ca.mono ?_
    clear ca HXf1 HYf1
    rintro e wf2 ⟨rfl, hbf2⟩
    have HBf2 := Lib.hid (HBf1.out.trans (hbf2.mono HBf1.out.size))
    have HPf2 := Lib.hid (HPf1.out.on hbf2)
    clear hbf2 HBf1 HPf1
    go_wp2_with fail
    refine (CN.out _ HPf2.out).mono ?_
    rintro e wf3 ⟨rfl, hbf3⟩
    have HBf3 := Lib.hid (HBf2.out.trans (hbf3.mono HBf2.out.size))
    clear hbf3 HBf2
    go_wp2_with fail
    refine (awake_true _).mono ?_
    rintro e w9 ⟨rfl, hb9⟩
    have HB9 := Lib.hid (HBf3.out.trans (hb9.mono HBf3.out.size))
    clear hb9
    go_wp2
    go_ret
    exact ⟨rfl, HB9.out⟩
  | true =>
  rcases HZ.out with ⟨hz, hno⟩ | ⟨i, hz, hi, hki⟩
  · subst hz
    obtain ⟨rfl, rfl⟩ := HGN.out.2.1 rfl hno
    clear hno
    go_wp2_with fail
    refine (CL.out (by first | rfl | trivial) _ HP7.out).mono ?_
    rintro e w8 ⟨rfl, hb8⟩
    have HB8 := Lib.hid (HB7.out.trans (hb8.mono HB7.out.size))
    have HP8 := Lib.hid (HP7.out.on hb8)
    have HX8 := Lib.hid (HX7.out.on hb8)
    have HY8 := Lib.hid (HY7.out.on hb8)
    clear hb8 HB7 HP7 HX7 HY7
    have ca := right_v HP8.out HN.out
    rw [HW.out] at ca
    go_wp2_with fail
    refine ca.mono ?_
    clear ca
    rintro e wf1 ⟨rfl, hbf1⟩
    have HBf1 := Lib.hid (HB8.out.trans (hbf1.mono HB8.out.size))
    have HPf1 := Lib.hid (HP8.out.on hbf1)
    have HXf1 := Lib.hid (HX8.out.on hbf1)
    have HYf1 := Lib.hid (HY8.out.on hbf1)
    clear hbf1 HB8 HP8 HX8 HY8
    have ca := same_v HXf1.out HYf1.out (by have := HLL.out; unfold maxLen; omega)
    rw [decide_eq_true rfl] at ca
    go_wp2_with fail
    refine ca.mono ?_
    clear ca HXf1 HYf1
    rintro e wf2 ⟨rfl, hbf2⟩
    have HBf2 := Lib.hid (HBf1.out.trans (hbf2.mono HBf1.out.size))
    have HPf2 := Lib.hid (HPf1.out.on hbf2)
    clear hbf2 HBf1 HPf1
    go_wp2_with fail
    refine (CN.out _ HPf2.out).mono ?_
    rintro e wf3 ⟨rfl, hbf3⟩
    have HBf3 := Lib.hid (HBf2.out.trans (hbf3.mono HBf2.out.size))
    clear hbf3 HBf2
    go_wp2_with fail
    refine (awake_true _).mono ?_
    rintro e w9 ⟨rfl, hb9⟩
    have HB9 := Lib.hid (HBf3.out.trans (hb9.mono HBf3.out.size))
    clear hb9
    go_wp2
    go_ret
    exact ⟨rfl, HB9.out⟩
  · subst hz
    obtain ⟨hgl, rfl⟩ := HGN.out.2.2 rfl i hi hki
    obtain ⟨A', c', e', hpl, _, _⟩ := HP7.out
    injection e' with e1 e2 e3
    subst e1 e3
    obtain ⟨ad, rfl, hab, hca⟩ := hpl.seeP (by omega)
    obtain ⟨c1, c2⟩ := hca i hi
    rw [← hgl] at c2
    have hin : i < n := by have := HL.out; omega
    have hil : i < l.length := hi
    clear hca hpl e2 hgl hki c1
    go_wp2_with fail
    refine (CL.out (by first | rfl | trivial) _ HP7.out).mono ?_
    rintro e w8 ⟨rfl, hb8⟩
    clear c2
    have HB8 := Lib.hid (HB7.out.trans (hb8.mono HB7.out.size))
    have HP8 := Lib.hid (HP7.out.on hb8)
    have HX8 := Lib.hid (HX7.out.on hb8)
    have HY8 := Lib.hid (HY7.out.on hb8)
    clear hb8 HB7 HP7 HX7 HY7
    have ca := right_v HP8.out HN.out
    rw [HW.out] at ca
    go_wp2_with fail
    refine ca.mono ?_
    clear ca
    rintro e wf1 ⟨rfl, hbf1⟩
    have HBf1 := Lib.hid (HB8.out.trans (hbf1.mono HB8.out.size))
    have HPf1 := Lib.hid (HP8.out.on hbf1)
    have HXf1 := Lib.hid (HX8.out.on hbf1)
    have HYf1 := Lib.hid (HY8.out.on hbf1)
    clear hbf1 HB8 HP8 HX8 HY8
    have ca := same_v HXf1.out HYf1.out (by have := HLL.out; unfold maxLen; omega)
    rw [decide_eq_true rfl] at ca
    go_wp2_with fail
    refine ca.mono ?_
    clear ca HXf1 HYf1
    rintro e wf2 ⟨rfl, hbf2⟩
    have HBf2 := Lib.hid (HBf1.out.trans (hbf2.mono HBf1.out.size))
    have HPf2 := Lib.hid (HPf1.out.on hbf2)
    clear hbf2 HBf1 HPf1
    go_wp2_with fail
    refine (CN.out _ HPf2.out).mono ?_
    rintro e wf3 ⟨rfl, hbf3⟩
    have HBf3 := Lib.hid (HBf2.out.trans (hbf3.mono HBf2.out.size))
    clear hbf3 HBf2
    go_wp2_with fail
    refine (awake_true _).mono ?_
    rintro e w9 ⟨rfl, hb9⟩
    have HB9 := Lib.hid (HBf3.out.trans (hb9.mono HBf3.out.size))
    clear hb9
    go_wp2
    go_ret
    exact ⟨rfl, HB9.out⟩

end Go.Proofs.Ytggfegogjmckcaa
