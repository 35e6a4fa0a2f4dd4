/- The walk of the law LeafStays. -/
import Derived.Test.YtggfegogjmckcaaAwk
import Derived.Test.YtggfegogjmckcaaFct
import Derived.Test.YtggfegogjmckcaaRStep
namespace Go.Proofs.Ytggfegogjmckcaa
open Go.RowKit

set_option maxHeartbeats 4000000 in
set_option maxRecDepth 100000 in
theorem stays_walk (v u : Value) (l : List Pr) (ns : List Nt) (key : ByteArray) (w : World) (hP : PV w v l) (hQ : NV w u ns) (hn : l.length ≤ maxLen) (hm : ns.length ≤ maxLen) :
    Calls Try.prog 5 #[v, u, .string key] w fun e w' => e = .returned (.bool true) ∧ Below w.heap.size w w' := by
  have HP := Lib.hid hP
  have HQ := Lib.hid hQ
  obtain ⟨A, c, rfl, _, hlc, hzc⟩ := hP
  obtain ⟨B, d, rfl, _, _, _⟩ := hQ
  have HN := Lib.hid hn
  have HB := Lib.hid (Below.refl w.heap.size w)
  have HLC := Lib.hid (And.intro hlc hzc)
  obtain ⟨n, hl⟩ : ∃ n, l.length = n := ⟨_, rfl⟩
  obtain ⟨m, hm2⟩ : ∃ m, ns.length = m := ⟨_, rfl⟩
  rw [hl] at HP HLC ⊢
  rw [hm2] at HQ ⊢
  have HL := Lib.hid hl
  have HM := Lib.hid hm2
  clear hl hm2 hn hm hlc hzc
  go_enter Try.func5, Try.ntmps5
  go_wp2_with fail
  refine (small_v HP.out).mono ?_
  rintro e w1 ⟨R, rfl, h60, hb1⟩
  have H60 := Lib.hid h60
  clear h60
  have HB1 := Lib.hid (HB.out.trans (hb1.mono HB.out.size))
  have HP1 := Lib.hid (HP.out.on hb1)
  have HQ1 := Lib.hid (HQ.out.on hb1)
  clear hb1 HB HP HQ
  cases R with
  | false =>
    go_wp2_with fail
    refine (awake_true _).mono ?_
    rintro e w9 ⟨rfl, hb9⟩
    have HB9 := Lib.hid (HB1.out.trans (hb9.mono HB1.out.size))
    clear hb9
    go_wp2
    go_ret
    exact ⟨rfl, HB9.out⟩
  | true =>
  have hl60 : n ≤ 60 := by have := H60.out rfl; have := HL.out; omega
  have HL60 := Lib.hid hl60
  clear hl60 H60
  go_wp2_with fail
  refine (few_v HQ1.out).mono ?_
  rintro e w2 ⟨R, rfl, h60, hb2⟩
  have H60 := Lib.hid h60
  clear h60
  have HB2 := Lib.hid (HB1.out.trans (hb2.mono HB1.out.size))
  have HP2 := Lib.hid (HP1.out.on hb2)
  have HQ2 := Lib.hid (HQ1.out.on hb2)
  clear hb2 HB1 HP1 HQ1
  cases R with
  | false =>
    go_wp2_with fail
    refine (awake_true _).mono ?_
    rintro e w9 ⟨rfl, hb9⟩
    have HB9 := Lib.hid (HB2.out.trans (hb9.mono HB2.out.size))
    clear hb9
    go_wp2
    go_ret
    exact ⟨rfl, HB9.out⟩
  | true =>
  have hm60 : m ≤ 60 := by have := H60.out rfl; have := HM.out; omega
  have HM60 := Lib.hid hm60
  clear hm60 H60
  by_cases hk : key.size ≤ 300
  case neg =>
    have hd : decide (300 < (key.size : Int)) = true := by simp; omega
    clear hk
    go_wp2_with fail
    refine (awake_true _).mono ?_
    rintro e w9 ⟨rfl, hb9⟩
    have HB9 := Lib.hid (HB2.out.trans (hb9.mono HB2.out.size))
    clear hb9
    go_wp2
    go_ret
    exact ⟨rfl, HB9.out⟩
  have hd : decide (300 < (key.size : Int)) = false := by simp; omega
  clear hk
  go_wp2_with fail
  refine (right_v HP2.out HN.out).mono ?_
  rintro e w3 ⟨rfl, hb3⟩
  have HB3 := Lib.hid (HB2.out.trans (hb3.mono HB2.out.size))
  have HP3 := Lib.hid (HP2.out.on hb3)
  have HQ3 := Lib.hid (HQ2.out.on hb3)
  clear hb3 HB2 HP2 HQ2
  cases hwell : wellL l with
  | false =>
    clear hwell
    go_wp2_with fail
    refine (awake_true _).mono ?_
    rintro e w9 ⟨rfl, hb9⟩
    have HB9 := Lib.hid (HB3.out.trans (hb9.mono HB3.out.size))
    clear hb9
    go_wp2
    go_ret
    exact ⟨rfl, HB9.out⟩
  | true =>
  have HW := Lib.hid hwell
  clear hwell
  obtain ⟨A', c', e', hpl, _, _⟩ := HP3.out
  injection e' with e1 e2 e3
  subst e1 e3
  have HPL := Lib.hid hpl
  clear hpl e2
  have hbs3 := HB3.out.size
  go_wp2_with (at_builtin; refine append_prs _ rfl _ _ rfl w3.heap.size (.slice (some ⟨w3.heap.size, 0, none⟩) 0 0) 0 [] rfl ?a0 w3.heap.size A n c l rfl ?d1 ?d2 ?d3 ?d4 ?d5 ?_)
  case a0 => exact World.ownsRow_lit (size := 2) w3 #[] 0 (Nat.le_refl _) (by unfold maxLen; omega) rfl
  case d1 => exact HL.out
  case d2 => exact HPL.out.below ((Below.refl _ w3).alloc (Nat.le_refl _) _)
  case d3 => exact HLC.out.2
  case d4 => have := HL60.out; omega
  case d5 => simp
  intro vw w4 hown4 hg4
  have hb4 : Below w3.heap.size w3 w4 := ((Below.refl _ w3).alloc (Nat.le_refl _) _).grown hg4 (by simp) (by intro k hk; simp [Value.ownBlock] at hk; omega)
  have HWAS := Lib.hid (show PV w4 vw l from PV.own hown4 HL.out.symm)
  clear hown4 hg4
  have HB4 := Lib.hid (HB3.out.trans (hb4.mono HB3.out.size))
  have HP4 := Lib.hid (HP3.out.on hb4)
  have HQ4 := Lib.hid (HQ3.out.on hb4)
  clear hb4 HB3 HP3 HQ3
  obtain ⟨E1, hE1⟩ : ∃ E1, E1 = applyE l ns := ⟨_, rfl⟩
  obtain ⟨L1, hL1⟩ : ∃ L1, L1 = applyL l ns := ⟨_, rfl⟩
  obtain ⟨gv, hgv⟩ : ∃ gv, gv = (getA l key).1 := ⟨_, rfl⟩
  obtain ⟨gh, hgh⟩ : ∃ gh, gh = (getA l key).2 := ⟨_, rfl⟩
  have ca := apply_v HP4.out HQ4.out (by have h1 := HL.out; have h2 := HM.out; have h3 := HL60.out; have h4 := HM60.out; omega)
  rw [← hE1, ← hL1] at ca
  have HE := Lib.hid (show E1 = 0 ∨ E1 = 1 ∧ L1 = l from by
    by_cases h0 : applyE l ns = 0
    · exact .inl (hE1.trans h0)
    · obtain ⟨h1, h2, _⟩ := apply_no h0
      exact .inr ⟨hE1.trans h1, hL1.trans h2⟩)
  have HW1 := Lib.hid (show wellL L1 = true from by rw [hL1]; exact apply_well ns HW.out)
  have HLL := Lib.hid (show L1.length ≤ 120 from by have h0 := apply_len l ns; rw [← hL1] at h0; have h1 := HL.out; have h2 := HM.out; have h3 := HL60.out; have h4 := HM60.out; omega)
  have HGE := Lib.hid (fun (wx : World) (h : PV wx (.slice A n c) l) => show Calls Try.prog 14 #[.slice A n c, .string key] wx fun e w' => e = .returned (.tuple #[.string gv, .bool gh]) ∧ Below wx.heap.size wx w' from by
    have h1 := get_v h key (by have h1 := HL.out; have h3 := HL60.out; omega)
    rw [← hgv, ← hgh] at h1; exact h1)
  have HG2 := Lib.hid (fun (hk : ∀ x ∈ ns, x.key ≠ key) (wx : World) (va : Value) (h : PV wx va L1) => show Calls Try.prog 14 #[va, .string key] wx fun e w' => e = .returned (.tuple #[.string gv, .bool gh]) ∧ Below wx.heap.size wx w' from by
    have h1 := get_v h key (by have h1 := HLL.out; omega)
    rw [hL1, stays HW.out ns key hk, ← hgv, ← hgh] at h1; exact h1)
  clear hE1 hL1 hgv hgh
  go_wp2_with fail
  refine ca.mono ?_
  clear ca
  rintro e w5 ⟨va, rfl, hpa, hb5⟩
  have HPA := Lib.hid hpa
  clear hpa
  have HB5 := Lib.hid (HB4.out.trans (hb5.mono HB4.out.size))
  have HP5 := Lib.hid (HP4.out.on hb5)
  have HQ5 := Lib.hid (HQ4.out.on hb5)
  have HWAS5 := Lib.hid (HWAS.out.on hb5)
  clear hb5 HB4 HP4 HQ4 HWAS
  have ca := right_v HPA.out (by have := HLL.out; unfold maxLen; omega)
  rw [HW1.out] at ca
  go_wp2_with fail
  refine ca.mono ?_
  clear ca
  rintro e w6 ⟨rfl, hb6⟩
  have HB6 := Lib.hid (HB5.out.trans (hb6.mono HB5.out.size))
  have HP6 := Lib.hid (HP5.out.on hb6)
  have HQ6 := Lib.hid (HQ5.out.on hb6)
  have HWAS6 := Lib.hid (HWAS5.out.on hb6)
  have HPA6 := Lib.hid (HPA.out.on hb6)
  clear hb6 HB5 HP5 HQ5 HWAS5 HPA
  have ca := same_v HP6.out HWAS6.out HN.out
  rw [decide_eq_true rfl] at ca
  go_wp2_with fail
  refine ca.mono ?_
  clear ca HWAS6
  rintro e w7 ⟨rfl, hb7⟩
  have HB7 := Lib.hid (HB6.out.trans (hb7.mono HB6.out.size))
  have HP7 := Lib.hid (HP6.out.on hb7)
  have HQ7 := Lib.hid (HQ6.out.on hb7)
  have HPA7 := Lib.hid (HPA6.out.on hb7)
  clear hb7 HB6 HP6 HQ6 HPA6
  rcases HE.out with hE | ⟨hE, hL1⟩
  · subst hE
    obtain ⟨wz, hwz⟩ : ∃ wz, wz = w7 := ⟨_, rfl⟩
    rw [← hwz]
    have HBz := Lib.hid (show Below w.heap.size w wz from by rw [hwz]; exact HB7.out)
    have HPz := Lib.hid (show PV wz (.slice A n c) l from by rw [hwz]; exact HP7.out)
    have HQz := Lib.hid (show NV wz (.slice B m d) ns from by rw [hwz]; exact HQ7.out)
    have HPAz := Lib.hid (show PV wz va L1 from by rw [hwz]; exact HPA7.out)
    clear hwz HB7 HP7 HQ7 HPA7
    go_wp2
    go_loopw [65] (fun vi wr => ∃ i : Nat, vi = .int .i64 i ∧ i ≤ m ∧ Hid (∀ (j : Nat) (h : j < ns.length), j < i → ns[j].key ≠ key) ∧ Below wz.heap.size wz wr) (fun vi _ => (m - intOf vi).toNat)
    case atStart => exact ⟨0, rfl, by omega, fun j h h0 => by omega, Below.refl _ _⟩
    case round =>
      obtain ⟨i, rfl, hi, HK, hbr⟩ := hrel
      have hm60 := HM60.out
      by_cases hlt : i < m
      · obtain ⟨B', d', e', hnts, _, _⟩ := HQz.out
        injection e' with e1 e2 e3
        subst e1 e3
        obtain ⟨ad, rfl, hab, hca⟩ := (hnts.below hbr).seeN (by rw [HM.out]; omega)
        have hil : i < ns.length := by rw [HM.out]; exact hlt
        obtain ⟨c1, c2, c3, c4⟩ := hca i hil
        obtain ⟨x, hx⟩ : ∃ x, x = ns[i]'hil := ⟨_, rfl⟩
        rw [← hx] at c1 c2 c3 c4
        have HX := Lib.hid hx
        clear hx hca hnts e2
        obtain ⟨xk, xkey, xval, xn⟩ := x
        simp only at c1 c2 c3 c4
        have hlt3 : (ad.add (i * 4)).block < wz.heap.size := by rw [block_of_add]; exact hab
        have hbs := hbr.size
        have HBr := Lib.hid (HBz.out.trans ((hbr.alloc hbs (.cells #[.int .i64 xk, .string xkey, .string xval, .int .u64 (xn.toNat : Int)] 46)).mono HBz.out.size))
        by_cases hke : xkey = key
        · have hz := str_eq hke
          clear hke
          go_wp2_with fail
          refine (awake_true _).mono ?_
          rintro e w9 ⟨rfl, hb9⟩
          have HB9 := Lib.hid (HBr.out.trans (hb9.mono HBr.out.size))
          clear hb9
          go_wp2
          go_ret
          exact ⟨rfl, HB9.out⟩
        · have hz := str_ne hke
          have HK2 := Lib.hid (show ∀ (j : Nat) (h : j < ns.length), j < i + 1 → ns[j].key ≠ key from fun j h h1 => by
            by_cases hj : j < i
            · exact HK.out j h hj
            · have : j = i := by omega
              subst this
              rw [← HX.out]; exact hke)
          clear hke
          go_wp2
          go_roundw
          case rel => exact ⟨i + 1, by first | rfl | go_num, by omega, HK2, hbr.alloc hbs _⟩
          case measure => simp [intOf]; omega
      · have HK2 := Lib.hid (show ∀ x ∈ ns, x.key ≠ key from fun x hx => by
          obtain ⟨j, hj, rfl⟩ := List.getElem_of_mem hx
          exact HK.out j hj (by rw [HM.out] at hj; omega))
        have HBr := Lib.hid (HBz.out.trans (hbr.mono HBz.out.size))
        have HPr := Lib.hid (HPz.out.on hbr)
        have HPAr := Lib.hid (HPAz.out.on hbr)
        clear HK hbr
        go_wp2_with fail
        refine (HGE.out _ HPr.out).mono ?_
        rintro e w8 ⟨rfl, hb8⟩
        have HB8 := Lib.hid (HBr.out.trans (hb8.mono HBr.out.size))
        have HPA8 := Lib.hid (HPAr.out.on hb8)
        clear hb8 HBr HPAr
        go_wp2_with fail
        refine (HG2.out HK2.out _ _ HPA8.out).mono ?_
        rintro e w9 ⟨rfl, hb9⟩
        have HB9b := Lib.hid (HB8.out.trans (hb9.mono HB8.out.size))
        clear hb9 HB8
        have hgg : (gv.toList == gv.toList) = true := by simp
        go_wp2_with fail
        refine (awake_true _).mono ?_
        rintro e w9 ⟨rfl, hb9⟩
        have HB9 := Lib.hid (HB9b.out.trans (hb9.mono HB9b.out.size))
        clear hb9
        go_wp2
        go_ret
        exact ⟨rfl, HB9.out⟩
  · have HLE := Lib.hid hL1
    subst hE
    have ca := same_v HPA7.out HP7.out (by have := HLL.out; unfold maxLen; omega)
    rw [decide_eq_true HLE.out] at ca
    clear hL1
    go_wp2_with fail
    refine ca.mono ?_
    clear ca
    rintro e wz ⟨rfl, hbz⟩
    have HBz := Lib.hid (HB7.out.trans (hbz.mono HB7.out.size))
    have HPz := Lib.hid (HP7.out.on hbz)
    have HQz := Lib.hid (HQ7.out.on hbz)
    have HPAz := Lib.hid (HPA7.out.on hbz)
    clear hbz HB7 HP7 HQ7 HPA7
    go_wp2
    go_loopw [65] (fun vi wr => ∃ i : Nat, vi = .int .i64 i ∧ i ≤ m ∧ Hid (∀ (j : Nat) (h : j < ns.length), j < i → ns[j].key ≠ key) ∧ Below wz.heap.size wz wr) (fun vi _ => (m - intOf vi).toNat)
    case atStart => exact ⟨0, rfl, by omega, fun j h h0 => by omega, Below.refl _ _⟩
    case round =>
      obtain ⟨i, rfl, hi, HK, hbr⟩ := hrel
      have hm60 := HM60.out
      by_cases hlt : i < m
      · obtain ⟨B', d', e', hnts, _, _⟩ := HQz.out
        injection e' with e1 e2 e3
        subst e1 e3
        obtain ⟨ad, rfl, hab, hca⟩ := (hnts.below hbr).seeN (by rw [HM.out]; omega)
        have hil : i < ns.length := by rw [HM.out]; exact hlt
        obtain ⟨c1, c2, c3, c4⟩ := hca i hil
        obtain ⟨x, hx⟩ : ∃ x, x = ns[i]'hil := ⟨_, rfl⟩
        rw [← hx] at c1 c2 c3 c4
        have HX := Lib.hid hx
        clear hx hca hnts e2
        obtain ⟨xk, xkey, xval, xn⟩ := x
        simp only at c1 c2 c3 c4
        have hlt3 : (ad.add (i * 4)).block < wz.heap.size := by rw [block_of_add]; exact hab
        have hbs := hbr.size
        have HBr := Lib.hid (HBz.out.trans ((hbr.alloc hbs (.cells #[.int .i64 xk, .string xkey, .string xval, .int .u64 (xn.toNat : Int)] 46)).mono HBz.out.size))
        by_cases hke : xkey = key
        · have hz := str_eq hke
          clear hke
          go_wp2_with fail
          refine (awake_true _).mono ?_
          rintro e w9 ⟨rfl, hb9⟩
          have HB9 := Lib.hid (HBr.out.trans (hb9.mono HBr.out.size))
          clear hb9
          go_wp2
          go_ret
          exact ⟨rfl, HB9.out⟩
        · have hz := str_ne hke
          have HK2 := Lib.hid (show ∀ (j : Nat) (h : j < ns.length), j < i + 1 → ns[j].key ≠ key from fun j h h1 => by
            by_cases hj : j < i
            · exact HK.out j h hj
            · have : j = i := by omega
              subst this
              rw [← HX.out]; exact hke)
          clear hke
          go_wp2
          go_roundw
          case rel => exact ⟨i + 1, by first | rfl | go_num, by omega, HK2, hbr.alloc hbs _⟩
          case measure => simp [intOf]; omega
      · have HK2 := Lib.hid (show ∀ x ∈ ns, x.key ≠ key from fun x hx => by
          obtain ⟨j, hj, rfl⟩ := List.getElem_of_mem hx
          exact HK.out j hj (by rw [HM.out] at hj; omega))
        have HBr := Lib.hid (HBz.out.trans (hbr.mono HBz.out.size))
        have HPr := Lib.hid (HPz.out.on hbr)
        have HPAr := Lib.hid (HPAz.out.on hbr)
        clear HK hbr
        go_wp2_with fail
        refine (HGE.out _ HPr.out).mono ?_
        rintro e w8 ⟨rfl, hb8⟩
        have HB8 := Lib.hid (HBr.out.trans (hb8.mono HBr.out.size))
        have HPA8 := Lib.hid (HPAr.out.on hb8)
        clear hb8 HBr HPAr
        go_wp2_with fail
        refine (HG2.out HK2.out _ _ HPA8.out).mono ?_
        rintro e w9 ⟨rfl, hb9⟩
        have HB9b := Lib.hid (HB8.out.trans (hb9.mono HB8.out.size))
        clear hb9 HB8
        have hgg : (gv.toList == gv.toList) = true := by simp
        go_wp2_with fail
        refine (awake_true _).mono ?_
        rintro e w9 ⟨rfl, hb9⟩
        have HB9 := Lib.hid (HB9b.out.trans (hb9.mono HB9b.out.size))
        clear hb9
        go_wp2
        go_ret
        exact ⟨rfl, HB9.out⟩

end Go.Proofs.Ytggfegogjmckcaa
