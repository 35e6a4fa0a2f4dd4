/- The walk of run.of: the pairs of one key, as they are. -/
import Derived.Test.YtgpjbajfkagdbaaRn
import Derived.Test.YtgpjbajfkagdbaaNW
import Derived.Test.YtgpjbajfkagdbaaAp
import Derived.Test.YtgpjbajfkagdbaaOf
import Derived.Test.YtgpjbajfkagdbaaCa
set_option linter.unusedVariables false
set_option linter.unusedSimpArgs false
namespace Go.Proofs.Ytgpjbajfkagdbaa
open Go.RowKit Go.Maps

/-- What lies in one slice of pairs, below B: a part of it. -/
theorem px_part {B : Nat} {w : World} {A : Option Addr} {l : List Pr} (hA : Prs w B A l) (hB : B ≤ w.heap.size) {i : Nat} (hi : i < l.length) {ad : Addr} (e : A = some ad) (c : Nat) (hc : 1 ≤ c) :
    PX B w (.slice (some (ad.add (i * 2))) 1 c) [l[i]] := by
  refine ⟨hB, .inl ⟨some (ad.add (i * 2)), c, rfl, ?_, hc, fun h => by cases h⟩⟩
  subst e
  intro hpos
  obtain ⟨ad', e, hab, hcells⟩ := hA (by omega)
  injection e with e
  subst e
  refine ⟨_, rfl, by rw [block_of_add]; exact hab, fun j hj u v hv => ?_⟩
  have hj0 : j = 0 := by simpa using hj
  subst hj0
  have := hcells i hi u v (by simpa using hv)
  simpa [Addr.add_zero'] using this
theorem px_none {B : Nat} {w : World} (hB : B ≤ w.heap.size) (A : Option Addr) (c : Nat) (h : A = none → c = 0) : PX B w (.slice A 0 c) [] := ⟨hB, .inl ⟨A, c, rfl, fun h => absurd h (by simp), Nat.zero_le _, h⟩⟩

set_option maxHeartbeats 4000000 in
set_option maxRecDepth 100000 in
theorem of_any {B g m : Nat} {lv : Value} {l : List Pr} {s0 : Int} {r : Rs} {w : World} (h : RunS B g m lv l r w) (hi : RInv l s0 r) (key : ByteArray) (hk : key.size ≤ maxLen) (hn : l.length ≤ 100000) :
    Calls Try.prog 56 #[.pointer (some ⟨g, 0, none⟩), .string key] w fun e w' => ∃ v, e = .returned v ∧ PX B w' v (ofK r.p key) ∧ Below w.heap.size w w' := by
  obtain ⟨gr, hgr⟩ : ∃ q, q = w.heap.size := ⟨_, rfl⟩
  obtain ⟨w1, hw1⟩ : ∃ q, q = w.alloc (.cells #[.pointer (some ⟨g, 0, none⟩)] 84) := ⟨_, rfl⟩
  obtain ⟨w2, hw2⟩ : ∃ q, q = w1.alloc (.cells #[.string key] 9) := ⟨_, rfl⟩
  have e1 : w1.heap.size = gr + 1 := by rw [hw1, hgr]; simp
  have hb2 : Below gr w w2 := by rw [hw2, hw1, hgr]; exact ((Below.refl _ _).alloc (Nat.le_refl _) _).alloc (by simp) _
  have hr : Box w2 gr 84 #[.pointer (some ⟨g, 0, none⟩)] := by rw [hw2]; exact Box.push (by rw [hw1]; exact Box.at_ w _ _ hgr) _
  have hk2 : Box w2 (gr + 1) 9 #[.string key] := by rw [hw2]; exact Box.at_ w1 _ _ e1.symm
  have hR := h.on (by rw [← hgr]; exact hb2)
  obtain ⟨v, hlook0, hv⟩ := hR.map.look hk
  have hlook := fun q => hlook0 (w2.drewN q) rfl
  clear hlook0
  obtain ⟨cv, hbx, _⟩ := hR.box
  have hlie := hR.lies
  obtain ⟨A, c, rfl, hA, hcap, hz⟩ := hlie
  have HGR := Lib.hid hgr
  have HB2 := Lib.hid hb2
  have r0 := hr.cell 0 rfl
  have k0 := hk2.cell 0 rfl
  have g0 := hbx.cell 0 rfl
  have g1 := hbx.cell 1 rfl
  obtain ⟨n, hl⟩ : ∃ n, l.length = n := ⟨_, rfl⟩
  have HL := Lib.hid hl
  have HR := Lib.hid hR
  have HBX := Lib.hid hbx
  have HRB := Lib.hid (And.intro hr hk2)
  have HA := Lib.hid hA
  have HZ := Lib.hid hz
  have HI := Lib.hid hi
  have HN := Lib.hid hn
  have HCAP := Lib.hid hcap
  rw [hl] at hbx g0 hcap
  cases ht : touched r.C key with
  | true =>
    rw [ht] at hlook
    have HV := Lib.hid (hv ht)
    clear hv ht hR hbx hA hz hi hr hk2 h hl hn hcap g0
    go_enter Try.func56, Try.ntmps56
    go_upto_region 1 with fail
    rw [← hgr, ← hw1, ← hw2]
    clear hw1 hw2 e1 hgr
    go_quiet (fail)
    go_wp2
    go_ret
    have hb3 : Below w2.heap.size w2 (w2.drewN nq) := ⟨rfl, rfl, rfl, Nat.le_refl _, fun _ _ => rfl⟩
    have hB := HR.out.hB
    exact ⟨v, rfl, HV.out.kp (Kp.of hb3 hB), by rw [← HGR.out]; exact HB2.out.trans (hb3.mono (by have := HB2.out.size; have := HGR.out; omega))⟩
  | false =>
    rw [ht] at hlook
    obtain ⟨Z, hZ⟩ : ∃ Z, Z = lessL l key := ⟨_, rfl⟩
    have HOF := Lib.hid (show ofK r.p key = ofK l key from by unfold ofK; rw [doL_other hi.does (touched_no ht)])
    have HYES := Lib.hid (ofK_at hi.well key)
    have HNO := Lib.hid (ofK_no hi.well key)
    rw [← hZ] at HYES HNO
    have hZn : Z ≤ n := by rw [hZ, ← hl]; exact lessL_le l key
    have hst := less_is (well_sorted hi.well) key
    have hsr := fun (w3 : World) (hb : Below w2.heap.size w2 w3) => search_z n Z gr (gr + 1) w3 (by omega) hZn (fun wr hbr i hin => by
      have hb' := hb.trans (hbr.mono hb.size)
      have := closureS l key i g gr (gr + 1) (.map (some m)) cv r.s wr (by omega) (hr.on hb') (hk2.on hb') (HBX.out.on hb') ((hR.on hb').pv) (by omega)
      rw [show (decide (l[i].k < key)) = decide (i < Z) from by rw [hZ]; exact decide_eq_decide.2 (hst i (by omega))] at this
      exact this)
    have HSR := Lib.hid hsr
    have hnn : n ≤ 100000 := by omega
    clear hv ht hR hbx hA hz hi hr hk2 h hn hZ hst hsr
    go_enter Try.func56, Try.ntmps56
    go_upto_region 1 with fail
    rw [← hgr, ← hw1, ← hw2]
    clear hw1 hw2 e1 hgr
    go_quiet (fail)
    have hb3 : Below w2.heap.size w2 (w2.drewN nq) := ⟨rfl, rfl, rfl, Nat.le_refl _, fun _ _ => rfl⟩
    have HB3 := Lib.hid hb3
    clear hb3
    go_wp2_with fail
    refine (HSR.out _ HB3.out).mono ?_
    rintro e w4 ⟨rfl, hb4⟩
    have hb24 := HB3.out.trans (hb4.mono HB3.out.size)
    have HB4 := Lib.hid hb24
    have r0 := (HRB.out.1.on hb24).cell 0 rfl
    have k0 := (HRB.out.2.on hb24).cell 0 rfl
    have g0 := (HBX.out.on hb24).cell 0 rfl
    rw [hl] at g0
    clear hb4 hlook
    have hfin : ∀ (q : Nat) (u : Value), PX B w4 u (ofK l key) → ∃ v, Ending.returned u = Ending.returned v ∧ PX B (w4.drewN q) v (ofK r.p key) ∧ Below w.heap.size w (w4.drewN q) := fun q u hu => by
      have hb5 : Below w4.heap.size w4 (w4.drewN q) := ⟨rfl, rfl, rfl, Nat.le_refl _, fun _ _ => rfl⟩
      have hB := HR.out.hB
      refine ⟨u, rfl, by rw [HOF.out]; exact hu.kp (Kp.of hb5 (Nat.le_trans hB HB4.out.size)), ?_⟩
      rw [← HGR.out]
      have h1 := HB2.out.size
      have h2 := HGR.out
      have h3 := HB4.out.size
      exact (HB2.out.trans (HB4.out.mono (by omega))).trans (hb5.mono (by omega))
    have HFIN := Lib.hid hfin
    clear hfin
    by_cases hzn : Z < n
    · have hd : decide (Z < n) = true := decide_eq_true hzn
      have hzl : Z < l.length := by omega
      obtain ⟨ad, rfl, hab, hca⟩ := (HA.out.below (hb24.mono HR.out.hB)).seeP (by omega)
      obtain ⟨c1, _⟩ := hca Z hzl
      have HPP := Lib.hid (px_part (HA.out.below (hb24.mono HR.out.hB)) (Nat.le_trans HR.out.hB hb24.size) hzl rfl (c - Z) (by omega))
      by_cases hkey : l[Z].k = key
      · obtain ⟨_, hof⟩ := HYES.out ⟨hzl, hkey⟩
        rw [← hof] at HPP
        rw [hkey] at c1
        have he : (key.toList == key.toList) = true := by simp
        clear hb24 hab hca hkey hof
        go_wp2_with fail
        go_quiet (fail)
        go_wp2
        go_ret
        exact HFIN.out _ _ HPP.out
      · have HPN := Lib.hid (show PX B w4 (.slice (some (ad.add (Z * 2))) 0 (c - Z)) (ofK l key) from by
          rw [HNO.out (fun ⟨_, h⟩ => hkey h)]
          exact px_none (Nat.le_trans HR.out.hB hb24.size) _ _ (fun h => by cases h))
        obtain ⟨xk, hxk⟩ : ∃ x, x = l[Z].k := ⟨_, rfl⟩
        rw [← hxk] at c1 hkey
        have he : (xk.toList == key.toList) = false := beq_eq_false_iff_ne.2 fun e => hkey (tl_inj e)
        clear hb24 hab hca hkey hxk HPP
        go_wp2_with fail
        go_quiet (fail)
        go_wp2
        go_ret
        exact HFIN.out _ _ HPN.out
    · have hd : decide (Z < n) = false := decide_eq_false hzn
      have hZe : Z = n := by omega
      have HPN := Lib.hid (show ∀ A' c', (A' = none → c' = 0) → PX B w4 (.slice A' 0 c') (ofK l key) from fun A' c' hz => by
        rw [HNO.out (fun ⟨h, _⟩ => by omega)]
        exact px_none (Nat.le_trans HR.out.hB hb24.size) _ _ hz)
      clear hb24
      subst hZe
      by_cases hcz : c = Z
      · go_wp2_with fail
        go_quiet (fail)
        go_wp2
        go_ret
        exact HFIN.out _ _ (HPN.out _ _ fun _ => rfl)
      · obtain ⟨ad, rfl⟩ : ∃ ad, A = some ad := by
          cases A with
          | none => exact absurd (HZ.out rfl) (by omega)
          | some a => exact ⟨a, rfl⟩
        go_wp2_with fail
        go_quiet (fail)
        go_wp2
        go_ret
        exact HFIN.out _ _ (HPN.out _ _ fun h => by cases h)

end Go.Proofs.Ytgpjbajfkagdbaa

namespace Go.Proofs.Ytgpjbajfkagdbaa
open Go.RowKit Go.Shelf

theorem clone_o {v : Value} {l : List Pr} {w : World} (h : PV w v l) (hn : l.length ≤ 1000000) :
    Calls Try.prog 28 #[v] w fun e w' => ∃ v', e = .returned v' ∧ w'.ownsRow w.heap.size 41 2 v' l.length (l.flatMap Pr.cells) ∧ Below w.heap.size w w' := by
  obtain ⟨A, c, rfl, h1, h2, h3⟩ := h
  exact clone_pr A c l w h1 hn

set_option maxRecDepth 100000 in
set_option maxHeartbeats 2000000 in
theorem walk_own {v : Value} {l : List Pr} {C : List Ch} (gf : Nat) (lb : Array Value) (w : World) (hv : PV w v l) (hn : l.length ≤ 100000) (hC : C.length ≤ 100000) (hk : ∀ c ∈ C, c.key.size ≤ maxLen)
    (eg : ∀ args w, (callFunc gf args).run Try.prog w = .ok (.enter gf args) w) (hseq : ∀ w', Below w.heap.size w w' → Gives 48 Try.prog gf lb (fun c : Ch => #[c.v]) (Below w'.heap.size) C w') :
    Calls Try.prog 33 #[v, .func (.func gf) #[] lb] w fun e w' => ∃ v', e = .returned (.tuple #[v', .int .i64 (walkE l C)]) ∧ w'.ownsRow w.heap.size 41 2 v' (walkA l C).length ((walkA l C).flatMap Pr.cells) ∧ Below w.heap.size w w' := by
  have hr := right_v hv (by unfold maxLen; omega)
  have hcl := fun w' (hb : Below w.heap.size w w') => clone_o (hv.on hb) (by omega)
  have HCL := Lib.hid hcl
  cases hw : wellL l with
  | false =>
    have h1 : walkE l C = 1 ∧ walkA l C = l := by unfold walkE walkA; rw [hw]; exact ⟨rfl, rfl⟩
    rw [h1.1, h1.2]
    rw [hw] at hr
    clear h1 hw hseq hk eg hv hcl
    go_enter Try.func33, Try.ntmps33
    go_wp2_with fail
    refine hr.mono ?_
    clear hr
    rintro e w1 ⟨rfl, hb1⟩
    have HB := Lib.hid hb1
    clear hb1
    go_wp2_with fail
    refine (HCL.out _ HB.out).mono ?_
    rintro e w2 ⟨v', rfl, hv', hb2⟩
    have HV := Lib.hid (And.intro (own_more hv' HB.out.size) (HB.out.trans (hb2.mono HB.out.size)))
    clear hv' hb2
    go_wp2
    go_ret2
    exact ⟨v', rfl, HV.out⟩
  | true =>
    rw [hw] at hr
    have hno := fun w' (hb : Below w.heap.size w w') => notesOf_any gf lb w' (hv.on hb) hw hn hC hk eg (hseq w' hb)
    have HNO := Lib.hid hno
    have HVV := Lib.hid hv
    have HW := Lib.hid hw
    clear hno hseq hk eg hv hcl hw
    cases hs : doL l C with
    | none =>
      have h1 := walk_no (l := l) (C := C) (by unfold walkE; rw [hs]; simp)
      rw [h1.1, h1.2.1]
      rw [hs] at HNO
      clear h1 hs
      go_enter Try.func33, Try.ntmps33
      go_wp2_with fail
      refine hr.mono ?_
      clear hr
      rintro e w1 ⟨rfl, hb1⟩
      have HB := Lib.hid hb1
      clear hb1
      go_wp2_with fail
      refine (HNO.out _ HB.out).mono ?_
      rintro e w2 ⟨u, rfl, _, hb2⟩
      have HB2 := Lib.hid (HB.out.trans (hb2.mono HB.out.size))
      clear hb2
      simp only [Option.isSome_none]
      go_wp2_with fail
      refine (HCL.out _ HB2.out).mono ?_
      rintro e w3 ⟨v', rfl, hv', hb3⟩
      have HV := Lib.hid (And.intro (own_more hv' HB2.out.size) (HB2.out.trans (hb3.mono HB2.out.size)))
      clear hv' hb3
      go_wp2
      go_ret2
      exact ⟨v', rfl, HV.out⟩
    | some q =>
      obtain ⟨h1, h2⟩ := walk_yes HW.out hs
      rw [h1, h2]
      obtain ⟨a1, a2⟩ := apply_yes HW.out (doL_notes hs)
      rw [fold_notes hs] at a2
      rw [hs] at HNO
      have HA := Lib.hid (And.intro a1 a2)
      clear h1 h2 a1 a2 hs
      go_enter Try.func33, Try.ntmps33
      go_wp2_with fail
      refine hr.mono ?_
      clear hr
      rintro e w1 ⟨rfl, hb1⟩
      have HB := Lib.hid hb1
      clear hb1
      go_wp2_with fail
      refine (HNO.out _ HB.out).mono ?_
      rintro e w2 ⟨u, rfl, hu, hb2⟩
      have HB2 := Lib.hid (HB.out.trans (hb2.mono HB.out.size))
      have hap := apply_o (HVV.out.on HB2.out) (hu rfl) (by rw [List.length_map]; omega)
      rw [HA.out.1, HA.out.2] at hap
      have HAP := Lib.hid hap
      clear hb2 hu hap
      simp only [Option.isSome_some]
      go_wp2_with fail
      refine HAP.out.mono ?_
      rintro e w3 ⟨v', rfl, hv', hb3⟩
      have HV := Lib.hid (And.intro (own_more hv' HB2.out.size) (HB2.out.trans (hb3.mono HB2.out.size)))
      clear hv' hb3
      go_wp2
      go_ret2
      exact ⟨v', rfl, HV.out⟩

set_option maxRecDepth 100000 in
set_option maxHeartbeats 1000000 in
theorem do_o {v u : Value} {l : List Pr} {C : List Ch} {w : World} (hv : PV w v l) (hu : CV w u C) (hn : l.length ≤ 100000) (hC : C.length ≤ 100000) (hk : ∀ c ∈ C, c.key.size ≤ maxLen) :
    Calls Try.prog 30 #[v, u] w fun e w' => ∃ v', e = .returned (.tuple #[v', .int .i64 (walkE l C)]) ∧ w'.ownsRow w.heap.size 41 2 v' (walkA l C).length ((walkA l C).flatMap Pr.cells) ∧ Below w.heap.size w w' := by
  obtain ⟨A, n, c, rfl⟩ : ∃ A n c, u = .slice A n c := by obtain ⟨A, c, e, _⟩ := hu; exact ⟨A, _, c, e⟩
  have hb1 : Below w.heap.size w (w.alloc (.cells #[.slice A n c] 23)) := (Below.refl _ _).alloc (Nat.le_refl _) _
  have hx := Box.fresh w 23 #[.slice A n c]
  have hwk := walk_own 58 #[.pointer (some ⟨w.heap.size, 0, none⟩)] _ (hv.on hb1) hn hC hk (enters_of Try.func58 (by kernel_rfl) rfl)
    (fun w' hb => values1_gives 48 w' w.heap.size ((hu.on hb1).on hb) (by omega) (hx.on hb).lt ((hx.on hb).cell 0 rfl))
  have HWK := Lib.hid hwk
  have HB1 := Lib.hid hb1
  clear hwk hx hb1 hv hu hn hC hk
  go_enter Try.func30, Try.ntmps30
  go_wp2_with fail
  refine (values_any A n c w).mono ?_
  rintro e w1 ⟨rfl, rfl⟩
  go_wp2_with fail
  refine HWK.out.mono ?_
  rintro e w3 ⟨v', rfl, hv', hb3⟩
  have HV := Lib.hid (And.intro (own_more hv' HB1.out.size) (HB1.out.trans (hb3.mono HB1.out.size)))
  clear hv' hb3
  go_wp2
  go_ret2
  exact ⟨v', rfl, HV.out⟩

end Go.Proofs.Ytgpjbajfkagdbaa

namespace Go.Proofs.Ytgpjbajfkagdbaa
open Go.RowKit Go.Maps

theorem Kp.k2 {B g : Nat} {r : Option Nat} {a b : World} (h : K2 g r a b) (hB : B ≤ a.heap.size) (hg : B ≤ g) (hgn : NoRow a g) (hr : ∀ q, r = some q → B ≤ q ∧ NoRow a q) : Kp B a b :=
  ⟨K2.below (Below.refl B a) h hg (fun q e => (hr q e).1) hB, fun k cs T s h1 h2 hk => h.block k (Array.getElem?_eq_some_iff.1 hk).1 (fun e => by subst e; exact hgn cs T s h1 h2 hk) (fun e => (hr k e.symm).2 cs T s h1 h2 hk)⟩
theorem PX.shape {B : Nat} {w : World} {v : Value} {P : List Pr} (h : PX B w v P) : ∃ A n c, v = .slice A n c := by
  obtain ⟨A, c, e, _⟩ := h.pv
  exact ⟨A, _, c, e⟩

def Do2 (nk : Int) (nkey nval : ByteArray) (xn : Int) (g : Nat) (s : Int) (A1 : Option Addr) (n1 c1 : Nat) (EE : Int) (qs : Int) (qk : ByteArray) (qh : Bool) (qb : ByteArray) (qg : Bool) (qa : ByteArray) (B0 : Nat) (p t : Nat) (v : Value) (w : World) : Prop :=
  match t with
  | 12 => v = .slice A1 n1 c1
  | 13 => v = .pointer (some ⟨g, 0, none⟩)
  | 14 => v = .pointer (some ⟨g, 0, none⟩)
  | 15 => v = .pointer (some ⟨g, 3, none⟩)
  | 16 => v = .int .i64 s
  | 17 => v = .int .i64 (s + 1)
  | 18 => v = .agg #[.int .i64 nk, .string nkey, .string nval, .int .u64 xn]
  | 19 => v = .tuple #[.agg #[.int .i64 qs, .string qk, .bool qh, .string qb, .bool qg, .string qa], .int .i64 EE]
  | 11 => v = .tuple #[.agg #[.int .i64 qs, .string qk, .bool qh, .string qb, .bool qg, .string qa], .int .i64 EE]
  | 20 => v = .agg #[.int .i64 qs, .string qk, .bool qh, .string qb, .bool qg, .string qa]
  | 21 => v = .int .i64 EE
  | 5 => NewB B0 55 #[.int .i64 0, .string ⟨#[]⟩, .bool false, .string ⟨#[]⟩, .bool false, .string ⟨#[]⟩] #[.int .i64 qs, .string qk, .bool qh, .string qb, .bool qg, .string qa] p v w
  | 6 => v = .int .i64 EE
  | _ => True
theorem Do2.on {nk : Int} {nkey nval : ByteArray} {xn : Int} {g : Nat} {s : Int} {A1 : Option Addr} {n1 c1 : Nat} {EE : Int} {qs : Int} {qk : ByteArray} {qh : Bool} {qb : ByteArray} {qg : Bool} {qa : ByteArray} {B0 : Nat} {p t : Nat} {v : Value} {w w' : World} (h : Do2 nk nkey nval xn g s A1 n1 c1 EE qs qk qh qb qg qa B0 p t v w) (hb : Below w.heap.size w w') : Do2 nk nkey nval xn g s A1 n1 c1 EE qs qk qh qb qg qa B0 p t v w' := by
  unfold Do2 at *
  split at h <;> first | exact h | exact NewB.on h hb

def Do4 (g m gn : Nat) (nkey : ByteArray) (A1 : Option Addr) (n1 c1 : Nat) (B : Nat) (KK : List Pr) (qs : Int) (qk : ByteArray) (qh : Bool) (qb : ByteArray) (qg : Bool) (qa : ByteArray) (p t : Nat) (v : Value) (w : World) : Prop :=
  match t with
  | 25 => v = .pointer (some ⟨g, 0, none⟩)
  | 26 => v = .pointer (some ⟨g, 0, none⟩)
  | 27 => v = .pointer (some ⟨g, 1, none⟩)
  | 28 => v = .map (some m)
  | 29 => v = .pointer (some ⟨gn, 1, none⟩)
  | 30 => v = .string nkey
  | 31 => v = .slice A1 n1 c1
  | 32 => v = .agg #[.int .i64 qs, .string qk, .bool qh, .string qb, .bool qg, .string qa]
  | 33 => p = 0 → ∃ h, v = .slice (some ⟨h, 0, none⟩) 1 1 ∧ Box w h 55 #[.int .i64 qs, .string qk, .bool qh, .string qb, .bool qg, .string qa]
  | 34 => ∃ u, v = .tuple #[u, .int .i64 0] ∧ (p = 0 → PX B w u KK)
  | 24 => ∃ u, v = .tuple #[u, .int .i64 0] ∧ (p = 0 → PX B w u KK)
  | 35 => p = 0 → PX B w v KK
  | 36 => v = .int .i64 0
  | _ => True
theorem Do4.on {g m gn : Nat} {nkey : ByteArray} {A1 : Option Addr} {n1 c1 : Nat} {B : Nat} {KK : List Pr} {qs : Int} {qk : ByteArray} {qh : Bool} {qb : ByteArray} {qg : Bool} {qa : ByteArray} {p t : Nat} {v : Value} {w w' : World} (h : Do4 g m gn nkey A1 n1 c1 B KK qs qk qh qb qg qa p t v w) (hb : Below w.heap.size w w') : Do4 g m gn nkey A1 n1 c1 B KK qs qk qh qb qg qa p t v w' := by
  unfold Do4 at *
  split at h <;> first | exact h | exact fun e => (let ⟨q, e1, h1⟩ := h e; ⟨q, e1, h1.on hb⟩) | exact fun e => (h e).on hb | exact (let ⟨q, e1, h1⟩ := h; ⟨q, e1, fun e => (h1 e).on hb⟩)

def Do5 (g : Nat) (n B : Nat) (u : Value) (XS : List Value) (qs : Int) (qk : ByteArray) (qh : Bool) (qb : ByteArray) (qg : Bool) (qa : ByteArray) (p t : Nat) (v : Value) (w : World) : Prop :=
  match t with
  | 37 => v = .pointer (some ⟨g, 0, none⟩)
  | 38 => v = .pointer (some ⟨g, 0, none⟩)
  | 39 => v = .pointer (some ⟨g, 0, none⟩)
  | 40 => v = .pointer (some ⟨g, 2, none⟩)
  | 41 => v = u
  | 42 => v = .agg #[.int .i64 qs, .string qk, .bool qh, .string qb, .bool qg, .string qa]
  | 43 => p = 0 → ∃ h, v = .slice (some ⟨h, 0, none⟩) 1 1 ∧ Box w h 55 #[.int .i64 qs, .string qk, .bool qh, .string qb, .bool qg, .string qa]
  | 44 => p = 1 → ∃ A' c', v = .slice A' (n + 1) c' ∧ w.ownsRow B 55 6 (.slice A' (n + 1) c') (n + 1) (XS ++ [.int .i64 qs, .string qk, .bool qh, .string qb, .bool qg, .string qa])
  | 45 => v = .pointer (some ⟨g, 0, none⟩)
  | 46 => v = .pointer (some ⟨g, 2, none⟩)
  | _ => True
theorem Do5.on {g : Nat} {n B : Nat} {u : Value} {XS : List Value} {qs : Int} {qk : ByteArray} {qh : Bool} {qb : ByteArray} {qg : Bool} {qa : ByteArray} {p t : Nat} {v : Value} {w w' : World} (h : Do5 g n B u XS qs qk qh qb qg qa p t v w) (hb : Below w.heap.size w w') : Do5 g n B u XS qs qk qh qb qg qa p t v w' := by
  unfold Do5 at *
  split at h <;> first | exact h | exact fun e => (let ⟨q, e1, h1⟩ := h e; ⟨q, e1, h1.on hb⟩) | exact fun e => (let ⟨A', c', e1, h1⟩ := h e; ⟨A', c', e1, own_on h1 hb⟩)

set_option maxRecDepth 100000 in
set_option maxHeartbeats 4000000 in
theorem do_any {B g m : Nat} {lv : Value} {l : List Pr} {s0 : Int} {r : Rs} {w : World} (h : RunS B g m lv l r w) (hi : RInv l s0 r) (x : Nt) (hr : rightN x = true) (ht : r.s + 1 ≤ 2147483647) (hn : l.length ≤ 50000) (hc : r.C.length ≤ 50000) :
    Calls Try.prog 44 #[.pointer (some ⟨g, 0, none⟩), .agg x.cells.toArray] w fun e w' => e = .returned (.tuple #[]) ∧ RunS B g m lv l (stepR r x) w' ∧ Kp B w w' := by
  have hk16 : x.key.size ≤ 16 := (rightN_iff _).1 hr |>.1
  have hpw := hi.pwell
  have hpos := hi.pos
  obtain ⟨k1, k2⟩ := ofK_of hpw hr (r.s + 1)
  have htwo := of_two (p := r.p) (s := r.s + 1) (n := x) hpw hr (by omega) ht
  have HDOK := Lib.hid (fun h0 => ofK_do hpw hr (s := r.s + 1) h0)
  have HCH := Lib.hid (fun h0 => of_change (p := r.p) (s := r.s + 1) (n := x) h0)
  have HST := Lib.hid (show (ofE r.p (r.s + 1) x = 0 → stepR r x = ⟨applyL r.p [x], r.C ++ [ofA r.p (r.s + 1) x], r.s + 1⟩) ∧ (ofE r.p (r.s + 1) x = 3 → stepR r x = r) from by
    unfold stepR
    exact ⟨fun e => by rw [if_pos e], fun e => by rw [if_neg (by omega)]⟩)
  have HOK := Lib.hid (show ofE r.p (r.s + 1) x = 0 → mayC (ofA r.p (r.s + 1) x) = true from fun h0 => (okC_iff.1 (of_change h0).2.1).1)
  have HKEYC := Lib.hid (show ofE r.p (r.s + 1) x = 0 → (ofA r.p (r.s + 1) x).key = x.key from fun h0 => by unfold ofA; rw [if_pos h0]; rfl)
  obtain ⟨gn, hgn⟩ : ∃ q, q = w.heap.size := ⟨_, rfl⟩
  obtain ⟨nk, nkey, nval, nn⟩ := x
  obtain ⟨xn, hxn⟩ : ∃ xn : Int, ((nn.toNat : Nat) : Int) = xn := ⟨_, rfl⟩
  obtain ⟨w1, hw1⟩ : ∃ q, q = w.alloc (.cells #[.int .i64 nk, .string nkey, .string nval, .int .u64 xn] 48) := ⟨_, rfl⟩
  have hb1 : Below w.heap.size w w1 := by rw [hw1]; exact (Below.refl _ _).alloc (Nat.le_refl _) _
  have hbn : Box w1 gn 48 #[.int .i64 nk, .string nkey, .string nval, .int .u64 xn] := by rw [hw1]; exact Box.at_ w _ _ hgn
  obtain ⟨EE, hEE⟩ : ∃ q, ofE r.p (r.s + 1) ⟨nk, nkey, nval, nn⟩ = q := ⟨_, rfl⟩
  obtain ⟨AA, hAA⟩ : ∃ q, ofA r.p (r.s + 1) ⟨nk, nkey, nval, nn⟩ = q := ⟨_, rfl⟩
  obtain ⟨KK, hKK⟩ : ∃ q, q = ofK (applyL r.p [⟨nk, nkey, nval, nn⟩]) nkey := ⟨_, rfl⟩
  rw [hEE, hAA] at HST HDOK HCH HOK HKEYC
  rw [hAA] at k2
  rw [hEE] at htwo k1
  have hof := fun (v : Value) (wx : World) (hv : PX B wx v (ofK r.p nkey)) => of_v (r.s + 1) ⟨nk, nkey, nval, nn⟩ wx hv.pv (by have := ofK_len r.p nkey; omega)
  simp only [Nt.cells, hxn] at hof k1 k2
  rw [k1, k2] at hof
  have HOFV := Lib.hid hof
  have HW := Lib.hid (show nkey.size ≤ maxLen from by unfold maxLen; simp only at hk16; omega)
  have HRI := Lib.hid hi
  have hR1 := h.on hb1
  have hoff := fun (wx : World) (hx : RunS B g m lv l r wx) => of_any hx hi nkey HW.out (by omega)
  have HOFF := Lib.hid hoff
  have HR1 := Lib.hid hR1
  have HBN := Lib.hid hbn
  have HGN := Lib.hid hgn
  have HB01 := Lib.hid hb1
  have HBW := Lib.hid h.hB
  have HN := Lib.hid hn
  have HC := Lib.hid hc
  have nc1 := hbn.cell 1 rfl
  have HTOP := Lib.hid ht
  have HPOS := Lib.hid hpos
  have HHKK := Lib.hid hKK
  show Calls _ _ #[.pointer (some ⟨g, 0, none⟩), .agg #[.int .i64 nk, .string nkey, .string nval, .int .u64 ((nn.toNat : Nat) : Int)]] _ _
  rw [hxn]
  clear h hi hk16 hpw hpos k1 k2 hxn hb1 hbn hEE hAA hof hR1 hn hc hr hoff ht hKK
  go_enter Try.func44, Try.ntmps44
  go_upto_region 1 with fail
  rw [← hgn, ← hw1]
  clear hgn hw1
  go_wp2_with fail
  refine (HOFF.out w1 HR1.out).mono ?_
  rintro e w2 ⟨v, rfl, hv, hb2⟩
  obtain ⟨A1, n1, c1, rfl⟩ := hv.shape
  have HOF := Lib.hid (show ∀ wx, Below w2.heap.size w2 wx → _ from fun wx hx => HOFV.out (.slice A1 n1 c1) wx (hv.on hx))
  have hR2 := HR1.out.on hb2
  obtain ⟨cv, hbx, hown⟩ := hR2.box
  have HS2 := Lib.hid (show ∀ wx, Below w2.heap.size w2 wx → wx.cell? ⟨g, 3, none⟩ = some (.int .i64 r.s) from fun wx hx => (hbx.on hx).cell 3 rfl)
  have HBN2 := Lib.hid (HBN.out.on hb2)
  have HN2 := Lib.hid (show ∀ wx, Below w2.heap.size w2 wx → _ ∧ _ ∧ _ ∧ _ from fun wx hx => let q := HBN2.out.on hx; ⟨q.cell 0 rfl, q.cell 1 rfl, q.cell 2 rfl, q.cell 3 rfl⟩)
  have HR2 := Lib.hid hR2
  have HV2 := Lib.hid hv
  have HB02 := Lib.hid (HB01.out.trans (hb2.mono HB01.out.size))
  obtain ⟨s, hs⟩ : ∃ s, r.s = s := ⟨_, rfl⟩
  obtain ⟨qs, qk, qh, qb, qg, qa⟩ := AA
  have hpos := HPOS.out
  have htop := HTOP.out
  rw [hs] at HS2 HOF hpos htop
  have hwr : IntKind.i64.wrap (s + 1) = s + 1 := IntWalk.i64_in _ (by omega)
  clear hpos htop
  simp only [Ch.v, chV] at HOF
  have HS := Lib.hid hs
  clear hv hb2 hR2 hbx hown nc1 hs
  go_wp2_with fail
  refine wp_region_phase 14 [12, 13, 14, 15, 16, 17, 18, 19, 11, 20, 21, 5, 6] (by kernel_rfl) [12] [] (fun _ _ => True) 1 rfl (by kernel_rfl) (fun _ wx => Below w2.heap.size w2 wx) (fun wa wb => Below wa.heap.size wa wb) (Do2 nk nkey nval xn g s A1 n1 c1 EE qs qk qh qb qg qa w2.heap.size) (by kernel_rfl) (fun _ wa wb h1 h2 => h2.trans (h1.mono h2.size)) (fun _ t v wa wb h1 h2 => h2.on h1) (fun _ _ _ _ _ _ _ => trivial) (Below.refl _ _).drew trivial (phase1 ?_ ?_) ?_
  · refine Steps1.cons (fun _ ax wx hS _ hG => ?_) (Steps1.cons (fun _ ax wx hS _ hG => ?_) (Steps1.cons (fun _ ax wx hS _ hG => ?_) (Steps1.cons (fun _ ax wx hS _ hG => ?_) (Steps1.cons (fun _ ax wx hS _ hG => ?_) (Steps1.cons (fun _ ax wx hS _ hG => ?_) (Steps1.cons (fun _ ax wx hS _ hG => ?_) (Steps1.cons (fun _ ax wx hS _ hG => ?_) (Steps1.cons (fun _ ax wx hS _ hG => ?_) (Steps1.cons (fun _ ax wx hS _ hG => ?_) (Steps1.cons (fun _ ax wx hS _ hG => ?_) (Steps1.cons (fun _ ax wx hS _ hG => ?_) (Steps1.cons (fun _ ax wx hS _ hG => ?_) (Steps1.cons (fun _ ax wx hS _ hG => ?_) Steps1.nil)))))))))))))
    · have q4 := hG.old 4 (by kernel_rfl) (by kernel_rfl)
      refine step_slot rfl rfl rfl (step_value (v := .slice A1 n1 c1) (w' := wx) rfl rfl ?_ (Below.refl _ _) (fun d hd => by cases hd; exact rfl))
      go_simp
    · have q0 := hG.old 0 (by kernel_rfl) (by kernel_rfl)
      refine step_slot rfl rfl rfl (step_value (v := .pointer (some ⟨g, 0, none⟩)) (w' := wx) rfl rfl ?_ (Below.refl _ _) (fun d hd => by cases hd; exact rfl))
      go_simp
    · obtain ⟨_, q13, rfl⟩ := hG.new 13 (by kernel_rfl) (by kernel_rfl)
      refine step_slot rfl rfl rfl (step_value (v := .pointer (some ⟨g, 0, none⟩)) (w' := wx) rfl rfl ?_ (Below.refl _ _) (fun d hd => by cases hd; exact rfl))
      go_simp
    · obtain ⟨_, q14, rfl⟩ := hG.new 14 (by kernel_rfl) (by kernel_rfl)
      refine step_slot rfl rfl rfl (step_value (v := .pointer (some ⟨g, 3, none⟩)) (w' := wx) rfl rfl ?_ (Below.refl _ _) (fun d hd => by cases hd; exact rfl))
      go_simp
    · obtain ⟨_, q15, rfl⟩ := hG.new 15 (by kernel_rfl) (by kernel_rfl)
      have z0 := HS2.out wx hS
      refine step_slot rfl rfl rfl (step_value (v := .int .i64 s) (w' := wx) rfl rfl ?_ (Below.refl _ _) (fun d hd => by cases hd; exact rfl))
      go_simp
    · obtain ⟨_, q16, rfl⟩ := hG.new 16 (by kernel_rfl) (by kernel_rfl)
      refine step_slot rfl rfl rfl (step_value (v := .int .i64 (s + 1)) (w' := wx) rfl rfl ?_ (Below.refl _ _) (fun d hd => by cases hd; exact rfl))
      go_simp
    · have q3 := hG.old 3 (by kernel_rfl) (by kernel_rfl)
      obtain ⟨z0, z1, z2, z3⟩ := HN2.out wx hS
      refine step_slot rfl rfl rfl (step_value (v := .agg #[.int .i64 nk, .string nkey, .string nval, .int .u64 xn]) (w' := wx) rfl rfl ?_ (Below.refl _ _) (fun d hd => by cases hd; exact rfl))
      go_simp
    · obtain ⟨_, q12, rfl⟩ := hG.new 12 (by kernel_rfl) (by kernel_rfl)
      obtain ⟨_, q17, rfl⟩ := hG.new 17 (by kernel_rfl) (by kernel_rfl)
      obtain ⟨_, q18, rfl⟩ := hG.new 18 (by kernel_rfl) (by kernel_rfl)
      refine step_slot rfl rfl rfl (step_call (w1 := wx) (f := 57) (args := #[.slice A1 n1 c1, .int .i64 (s + 1), .agg #[.int .i64 nk, .string nkey, .string nval, .int .u64 xn]]) rfl rfl ?_ ((HOF.out wx hS).mono ?_))
      · skip
        go_simp
      · rintro e w' ⟨rfl, hq⟩
        exact ⟨_, rfl, hq, fun d hd => by cases hd; exact rfl⟩
    · obtain ⟨_, q19, rfl⟩ := hG.new 19 (by kernel_rfl) (by kernel_rfl)
      refine step_slot rfl rfl rfl (step_value (v := .tuple #[.agg #[.int .i64 qs, .string qk, .bool qh, .string qb, .bool qg, .string qa], .int .i64 EE]) (w' := wx) rfl rfl ?_ (Below.refl _ _) (fun d hd => by cases hd; exact rfl))
      go_simp
    · obtain ⟨_, q11, rfl⟩ := hG.new 11 (by kernel_rfl) (by kernel_rfl)
      refine step_slot rfl rfl rfl (step_value (v := .agg #[.int .i64 qs, .string qk, .bool qh, .string qb, .bool qg, .string qa]) (w' := wx) rfl rfl ?_ (Below.refl _ _) (fun d hd => by cases hd; exact rfl))
      go_simp
    · obtain ⟨_, q11, rfl⟩ := hG.new 11 (by kernel_rfl) (by kernel_rfl)
      refine step_slot rfl rfl rfl (step_value (v := .int .i64 EE) (w' := wx) rfl rfl ?_ (Below.refl _ _) (fun d hd => by cases hd; exact rfl))
      go_simp
    · refine step_slot rfl rfl rfl (step_value (v := .pointer (some ⟨wx.heap.size, 0, none⟩)) (w' := wx.alloc (.cells #[.int .i64 0, .string ⟨#[]⟩, .bool false, .string ⟨#[]⟩, .bool false, .string ⟨#[]⟩] 55)) rfl rfl ?_ ((Below.refl _ _).alloc (Nat.le_refl _) _) (fun d hd => by cases hd; exact ⟨_, rfl, hS.size, fun _ => Box.fresh _ _ _, fun h => absurd h (by decide)⟩))
      go_simp
    · obtain ⟨v5, q5, h5⟩ := hG.new 5 (by kernel_rfl) (by kernel_rfl)
      have p5 : NewB _ _ _ _ _ v5 wx := h5
      obtain ⟨g5, rfl, b5, z5, y5⟩ := p5
      obtain ⟨_, q20, rfl⟩ := hG.new 20 (by kernel_rfl) (by kernel_rfl)
      have hbq := z5 rfl
      have f0 := Box.free hbq 0
      have m0 := Box.cell hbq 0 rfl
      have f1 := Box.free hbq 1
      have m1 := Box.cell hbq 1 rfl
      have f2 := Box.free hbq 2
      have m2 := Box.cell hbq 2 rfl
      have f3 := Box.free hbq 3
      have m3 := Box.cell hbq 3 rfl
      have f4 := Box.free hbq 4
      have m4 := Box.cell hbq 4 rfl
      have f5 := Box.free hbq 5
      have m5 := Box.cell hbq 5 rfl
      have hbz := (Box.set (Box.set (Box.set (Box.set (Box.set (Box.set hbq 0 (.int .i64 qs)) 1 (.string qk)) 2 (.bool qh)) 3 (.string qb)) 4 (.bool qg)) 5 (.string qa))
      refine step_store (w' := ((((((wx.setCell ⟨g5, 0, none⟩ (.int .i64 qs)).setCell ⟨g5, 1, none⟩ (.string qk)).setCell ⟨g5, 2, none⟩ (.bool qh)).setCell ⟨g5, 3, none⟩ (.string qb)).setCell ⟨g5, 4, none⟩ (.bool qg)).setCell ⟨g5, 5, none⟩ (.string qa))) rfl rfl rfl rfl ?_ ((Below.setCell (Below.setCell (Below.setCell (Below.setCell (Below.setCell (Below.setCell hS (p := ⟨g5, 0, none⟩) b5 (.int .i64 qs)) (p := ⟨g5, 1, none⟩) b5 (.string qk)) (p := ⟨g5, 2, none⟩) b5 (.bool qh)) (p := ⟨g5, 3, none⟩) b5 (.string qb)) (p := ⟨g5, 4, none⟩) b5 (.bool qg)) (p := ⟨g5, 5, none⟩) b5 (.string qa))) trivial ?_
      · clear hbq hS hbz h5
        go_simp
      · intro t u _ hu hV
        by_cases ht : t = 5
        · subst ht
          rw [q5] at hu
          injection hu with hu
          subst hu
          exact ⟨g5, rfl, b5, fun h => absurd h (by decide), fun _ => hbz⟩
        · unfold Do2 at *
          split at hV <;> first | exact hV | exact absurd rfl ht
    · obtain ⟨_, q21, rfl⟩ := hG.new 21 (by kernel_rfl) (by kernel_rfl)
      refine step_slot rfl rfl rfl (step_value (v := .int .i64 EE) (w' := wx) rfl rfl ?_ (Below.refl _ _) (fun d hd => by cases hd; exact rfl))
      go_simp
  · refine Steps1.cons (fun hin _ _ _ _ _ => out (by kernel_rfl) hin) (Steps1.cons (fun hin _ _ _ _ _ => out (by kernel_rfl) hin) (Steps1.cons (fun hin _ _ _ _ _ => out (by kernel_rfl) hin) (Steps1.cons (fun hin _ _ _ _ _ => out (by kernel_rfl) hin) (Steps1.cons (fun hin _ _ _ _ _ => out (by kernel_rfl) hin) (Steps1.cons (fun hin _ _ _ _ _ => out (by kernel_rfl) hin) (Steps1.cons (fun hin _ _ _ _ _ => out (by kernel_rfl) hin) (Steps1.cons (fun hin _ _ _ _ _ => out (by kernel_rfl) hin) (Steps1.cons (fun hin _ _ _ _ _ => out (by kernel_rfl) hin) (Steps1.cons (fun hin _ _ _ _ _ => out (by kernel_rfl) hin) (Steps1.cons (fun _ ax wx hS _ hG => ?_) (Steps1.cons (fun hin _ _ _ _ _ => out (by kernel_rfl) hin) (Steps1.cons (fun hin _ _ _ _ _ => out (by kernel_rfl) hin) (Steps1.cons (fun _ ax wx hS _ hG => ?_) Steps1.nil)))))))))))))
    · obtain ⟨_, q11, rfl⟩ := hG.new 11 (by kernel_rfl) (by kernel_rfl)
      refine step_slot rfl rfl rfl (step_value (v := .int .i64 EE) (w' := wx) rfl rfl ?_ (Below.refl _ _) (fun d hd => by cases hd; exact rfl))
      go_simp
    · obtain ⟨_, q21, rfl⟩ := hG.new 21 (by kernel_rfl) (by kernel_rfl)
      refine step_slot rfl rfl rfl (step_value (v := .int .i64 EE) (w' := wx) rfl rfl ?_ (Below.refl _ _) (fun d hd => by cases hd; exact rfl))
      go_simp
  intro fv w3 hS3 _ hV8
  have e5 : NewB _ 55 #[.int .i64 0, .string ⟨#[]⟩, .bool false, .string ⟨#[]⟩, .bool false, .string ⟨#[]⟩] #[.int .i64 qs, .string qk, .bool qh, .string qb, .bool qg, .string qa] 1 (fv 5) w3 := hV8 5 (by decide)
  have e6 : fv 6 = .int .i64 EE := hV8 6 (by decide)
  simp only [puts, Act.put, List.setIfInBounds_toArray, List.set_cons_succ, List.set_cons_zero]
  clear hV8
  rw [e6]
  have hS3 : Below w2.heap.size w2 w3 := hS3
  obtain ⟨hc5, he5, hlo, _, hbc⟩ := e5
  have hbc := hbc rfl
  rw [he5]
  have HR3 := Lib.hid (HR2.out.on hS3)
  have HB03 := Lib.hid (HB02.out.trans (hS3.mono HB02.out.size))
  have HV3 := Lib.hid (HV2.out.on hS3)
  have HBN3 := Lib.hid (HBN2.out.on hS3)
  have HBC := Lib.hid hbc
  have HLO := Lib.hid hlo
  have HS3 := Lib.hid hS3
  clear hS3 he5 hbc hlo e6
  rcases htwo with hE | hE
  case inr =>
    subst hE
    go_wp2
    refine bodyPost_ret (v := .tuple #[]) ?_ rfl ?_
    · first | rfl | simp [results, Try.results44]
    · refine ⟨by first | rfl | trivial, ?_, Kp.of HB03.out HBW.out⟩
      rw [HST.out.2 (by first | rfl | trivial)]
      exact HR3.out
  case inl =>
    subst hE
    obtain ⟨d1, d2, d3⟩ := HDOK.out rfl
    obtain ⟨_, h2, h3, h4, h5⟩ := HCH.out rfl
    have hkq := HKEYC.out rfl
    have hst := HST.out.1 rfl
    have hsq : qs = s + 1 := by have : (⟨qs, qk, qh, qb, qg, qa⟩ : Ch).seq = r.s + 1 := h4; rw [HS.out] at this; exact this
    try simp only at hkq d2
    obtain ⟨P2, hP2⟩ : ∃ q, q = applyL r.p [⟨nk, nkey, nval, nn⟩] := ⟨_, rfl⟩
    rw [← hP2] at d2 d3 h3 hst HHKK
    have hKKd := HHKK.out
    have HKQ := Lib.hid hkq
    have HKK := Lib.hid (show ofK P2 (⟨qs, qk, qh, qb, qg, qa⟩ : Ch).key = KK from by show ofK P2 qk = KK; rw [hkq, hKKd])
    have HOTH := Lib.hid (show ∀ k, k ≠ (⟨qs, qk, qh, qb, qg, qa⟩ : Ch).key → ofK P2 k = ofK r.p k from fun k hk => d3 k (by rw [← hkq]; exact hk))
    have HKC := Lib.hid (show (⟨qs, qk, qh, qb, qg, qa⟩ : Ch).key.size ≤ maxLen from h5)
    have HST2 := Lib.hid (And.intro hst hsq)
    have hdo := fun (wx : World) (hx : Below w3.heap.size w3 wx) (hh : Nat) (hbx : Box wx hh 55 #[.int .i64 qs, .string qk, .bool qh, .string qb, .bool qg, .string qa]) => do_o (HV3.out.on hx).pv (cv_box (x := ⟨qs, qk, qh, qb, qg, qa⟩) hbx (by simp [Ch.cells])) (by have := ofK_len r.p nkey; omega) (by simp) (fun c hc => by rw [List.mem_singleton.1 hc]; exact h5)
    rw [d1, d2, ← hKKd] at hdo
    have HDO := Lib.hid (show ∀ (wx : World) (hx : Below w3.heap.size w3 wx) (hh : Nat) (hbx : Box wx hh 55 #[.int .i64 qs, .string qk, .bool qh, .string qb, .bool qg, .string qa]), Calls Try.prog 30 #[.slice A1 n1 c1, .slice (some ⟨hh, 0, none⟩) 1 1] wx fun e w' => ∃ u, e = .returned (.tuple #[u, .int .i64 0]) ∧ PX B w' u KK ∧ Below wx.heap.size wx w' from fun wx hx hh hbx => (hdo wx hx hh hbx).mono (by
      rintro e w' ⟨u, rfl, ho, hq⟩
      exact ⟨u, rfl, PX.row (Nat.le_trans HR3.out.hB (Nat.le_trans hx.size hq.size)) ho, hq⟩))
    obtain ⟨u, hbx, hown⟩ := HR3.out.box
    rw [HS.out] at hbx
    have HM3 := Lib.hid (show ∀ wx, Below w3.heap.size w3 wx → wx.cell? ⟨g, 1, none⟩ = some (.map (some m)) from fun wx hx => (hbx.on hx).cell 1 rfl)
    have HN3 := Lib.hid (show ∀ wx, Below w3.heap.size w3 wx → _ ∧ _ ∧ _ ∧ _ from fun wx hx => let q := HBN3.out.on hx; ⟨q.cell 0 rfl, q.cell 1 rfl, q.cell 2 rfl, q.cell 3 rfl⟩)
    have HC3 := Lib.hid (show ∀ wx, Below w3.heap.size w3 wx → _ ∧ _ ∧ _ ∧ _ ∧ _ ∧ _ from fun wx hx => let q := HBC.out.on hx; ⟨q.cell 0 rfl, q.cell 1 rfl, q.cell 2 rfl, q.cell 3 rfl, q.cell 4 rfl, q.cell 5 rfl⟩)
    have HB3 := Lib.hid HR3.out.hB
    have HMP := Lib.hid HR3.out.map
    have HBM := Lib.hid HR3.out.hm
    have HBG := Lib.hid HR3.out.hg
    have HPL := Lib.hid (show r.C.length < maxLen from by have := HC.out; unfold maxLen; omega)
    have HPL2 := Lib.hid (show r.C.length ≤ 50000 from HC.out)
    have HG3 := Lib.hid hbx
    have HO3 := Lib.hid hown
    have HUQ := Lib.hid (show ∀ q, u.ownBlock = some q → B ≤ q ∧ q ≠ g ∧ q ≠ m ∧ NoRow w3 q from fun q e => by
      obtain ⟨cs1, s1, h1⟩ := own_row_at hown e
      refine ⟨(own_lt hown e).1, fun e2 => ?_, fun e2 => ?_, own_not hown (by decide) e⟩
      · subst e2
        have h2 : w3.heap[q]? = some (.cells _ 70 (0, 0)) := hbx
        rw [h1] at h2
        injection h2 with h2
        injection h2 with _ h2
        exact absurd h2 (by decide)
      · subst e2
        exact HMP.out.not_cells _ _ _ h1)
    have HCQ := Lib.hid (show hc5 ≠ g ∧ hc5 ≠ m ∧ some hc5 ≠ u.ownBlock from by
      obtain ⟨cv2, hbx2, hown2⟩ := HR2.out.box
      have hlo := HLO.out
      have h7 := hbx2.lt
      have h8 := HR2.out.map.lt
      have h9 : u = cv2 := by
        have a1 := hbx.cell 2 rfl
        have a2 := (hbx2.on HS3.out).cell 2 rfl
        rw [a1] at a2
        exact Option.some.inj a2
      refine ⟨by omega, by omega, fun e => ?_⟩
      rw [h9] at e
      have := (own_lt hown2 e.symm).2
      omega)
    have hmg : m ≠ g := fun e => by
      subst e
      exact HMP.out.not_cells _ _ _ (show w3.heap[m]? = some (.cells _ 70 (0, 0)) from hbx)
    have HMG := Lib.hid hmg
    clear d1 d2 d3 h2 h3 h4 h5 hkq hst hsq hP2 hKKd hdo hbx hown hmg hwr
    go_wp2_with fail
    refine wp_region_phase 14 [25, 26, 27, 28, 29, 30, 31, 32, 33, 34, 24, 35, 36] (by kernel_rfl) [13] [] (fun _ _ => True) 1 rfl (by kernel_rfl) (SP (fun wx => Below w3.heap.size w3 wx) (fun wx => MapP B wx m (r.C ++ [⟨qs, qk, qh, qb, qg, qa⟩]) P2 ∧ w3.grownBy wx (some m) ∧ Kp B w3 wx) (fun _ => True)) (fun wa wb => Below wa.heap.size wa wb) (Do4 g m gn nkey A1 n1 c1 B KK qs qk qh qb qg qa) (by kernel_rfl) (SP.on below_grow (fun wa wb h hs => ⟨hs.1.on h (Nat.le_trans HB3.out hs.2.1.size), grown_trans hs.2.1 (below_row h _), hs.2.2.trans (Kp.of h (Nat.le_trans HB3.out hs.2.1.size))⟩) (fun _ _ _ _ => trivial)) (fun _ t v wa wb h1 h2 => h2.on h1) (fun _ _ _ _ _ _ _ => trivial) (Below.refl _ _).drew trivial (phase1 ?_ ?_) ?_
    · refine Steps1.cons (fun _ ax wx hS _ hG => ?_) (Steps1.cons (fun _ ax wx hS _ hG => ?_) (Steps1.cons (fun _ ax wx hS _ hG => ?_) (Steps1.cons (fun _ ax wx hS _ hG => ?_) (Steps1.cons (fun _ ax wx hS _ hG => ?_) (Steps1.cons (fun _ ax wx hS _ hG => ?_) (Steps1.cons (fun _ ax wx hS _ hG => ?_) (Steps1.cons (fun _ ax wx hS _ hG => ?_) (Steps1.cons (fun _ ax wx hS _ hG => ?_) (Steps1.cons (fun _ ax wx hS _ hG => ?_) (Steps1.cons (fun _ ax wx hS _ hG => ?_) (Steps1.cons (fun _ ax wx hS _ hG => ?_) (Steps1.cons (fun _ ax wx hS _ hG => ?_) (Steps1.cons (fun _ ax wx hS _ hG => ?_) Steps1.nil)))))))))))))
      · have q0 := hG.old 0 (by kernel_rfl) (by kernel_rfl)
        refine step_slot rfl rfl rfl (step_value (v := .pointer (some ⟨g, 0, none⟩)) (w' := wx) rfl rfl ?_ (Below.refl _ _) (fun d hd => by cases hd; exact rfl))
        go_simp
      · obtain ⟨_, q25, rfl⟩ := hG.new 25 (by kernel_rfl) (by kernel_rfl)
        refine step_slot rfl rfl rfl (step_value (v := .pointer (some ⟨g, 0, none⟩)) (w' := wx) rfl rfl ?_ (Below.refl _ _) (fun d hd => by cases hd; exact rfl))
        go_simp
      · obtain ⟨_, q26, rfl⟩ := hG.new 26 (by kernel_rfl) (by kernel_rfl)
        refine step_slot rfl rfl rfl (step_value (v := .pointer (some ⟨g, 1, none⟩)) (w' := wx) rfl rfl ?_ (Below.refl _ _) (fun d hd => by cases hd; exact rfl))
        go_simp
      · obtain ⟨_, q27, rfl⟩ := hG.new 27 (by kernel_rfl) (by kernel_rfl)
        have z0 := HM3.out wx hS
        refine step_slot rfl rfl rfl (step_value (v := .map (some m)) (w' := wx) rfl rfl ?_ (Below.refl _ _) (fun d hd => by cases hd; exact rfl))
        go_simp
      · have q3 := hG.old 3 (by kernel_rfl) (by kernel_rfl)
        refine step_slot rfl rfl rfl (step_value (v := .pointer (some ⟨gn, 1, none⟩)) (w' := wx) rfl rfl ?_ (Below.refl _ _) (fun d hd => by cases hd; exact rfl))
        go_simp
      · obtain ⟨_, q29, rfl⟩ := hG.new 29 (by kernel_rfl) (by kernel_rfl)
        obtain ⟨z0, z1, z2, z3⟩ := HN3.out wx hS
        refine step_slot rfl rfl rfl (step_value (v := .string nkey) (w' := wx) rfl rfl ?_ (Below.refl _ _) (fun d hd => by cases hd; exact rfl))
        go_simp
      · have q4 := hG.old 4 (by kernel_rfl) (by kernel_rfl)
        refine step_slot rfl rfl rfl (step_value (v := .slice A1 n1 c1) (w' := wx) rfl rfl ?_ (Below.refl _ _) (fun d hd => by cases hd; exact rfl))
        go_simp
      · have q5 := hG.old 5 (by kernel_rfl) (by kernel_rfl)
        obtain ⟨z0, z1, z2, z3, z4, z5⟩ := HC3.out wx hS
        refine step_slot rfl rfl rfl (step_value (v := .agg #[.int .i64 qs, .string qk, .bool qh, .string qb, .bool qg, .string qa]) (w' := wx) rfl rfl ?_ (Below.refl _ _) (fun d hd => by cases hd; exact rfl))
        go_simp
      · obtain ⟨_, q32, rfl⟩ := hG.new 32 (by kernel_rfl) (by kernel_rfl)
        refine step_slot rfl rfl rfl (step_value (v := .slice (some ⟨wx.heap.size, 0, none⟩) 1 1) (w' := wx.alloc (.cells #[.int .i64 qs, .string qk, .bool qh, .string qb, .bool qg, .string qa] 55)) rfl rfl ?_ ((Below.refl _ _).alloc (Nat.le_refl _) _) (fun d hd => by cases hd; exact fun _ => ⟨_, rfl, Box.fresh _ _ _⟩))
        go_simp
      · obtain ⟨_, q31, rfl⟩ := hG.new 31 (by kernel_rfl) (by kernel_rfl)
        obtain ⟨v33, q33, h33⟩ := hG.new 33 (by kernel_rfl) (by kernel_rfl)
        have p33 : 0 = 0 → ∃ h, v33 = .slice (some ⟨h, 0, none⟩) 1 1 ∧ Box wx h 55 #[.int .i64 qs, .string qk, .bool qh, .string qb, .bool qg, .string qa] := h33
        obtain ⟨h, rfl, hbc⟩ := p33 rfl
        refine step_slot rfl rfl rfl (step_call (w1 := wx) (f := 30) (args := #[.slice A1 n1 c1, .slice (some ⟨h, 0, none⟩) 1 1]) rfl rfl ?_ ((HDO.out wx (show Below _ _ _ from hS) h hbc).mono ?_))
        · clear h33 p33 hbc
          go_simp
        · rintro e w' ⟨u, rfl, hp, hq⟩
          exact ⟨_, rfl, hq, fun d hd => by cases hd; exact ⟨u, rfl, fun _ => hp⟩⟩
      · obtain ⟨v34, q34, h34⟩ := hG.new 34 (by kernel_rfl) (by kernel_rfl)
        have p34 : ∃ u, v34 = .tuple #[u, .int .i64 0] ∧ (0 = 0 → PX B wx u KK) := h34
        obtain ⟨u, rfl, p34u⟩ := p34
        refine step_slot rfl rfl rfl (step_value (v := .tuple #[u, .int .i64 0]) (w' := wx) rfl rfl ?_ (Below.refl _ _) (fun d hd => by cases hd; exact ⟨u, rfl, p34u⟩))
        clear h34 p34u
        go_simp
      · obtain ⟨v24, q24, h24⟩ := hG.new 24 (by kernel_rfl) (by kernel_rfl)
        have p24 : ∃ u, v24 = .tuple #[u, .int .i64 0] ∧ (0 = 0 → PX B wx u KK) := h24
        obtain ⟨u, rfl, p24u⟩ := p24
        refine step_slot rfl rfl rfl (step_value (v := u) (w' := wx) rfl rfl ?_ (Below.refl _ _) (fun d hd => by cases hd; exact p24u))
        clear h24 p24u
        go_simp
      · obtain ⟨v24, q24, h24⟩ := hG.new 24 (by kernel_rfl) (by kernel_rfl)
        have p24 : ∃ u, v24 = .tuple #[u, .int .i64 0] ∧ (0 = 0 → PX B wx u KK) := h24
        obtain ⟨u, rfl, _⟩ := p24
        refine step_slot rfl rfl rfl (step_value (v := .int .i64 0) (w' := wx) rfl rfl ?_ (Below.refl _ _) (fun d hd => by cases hd; exact rfl))
        clear h24
        go_simp
      · obtain ⟨_, q28, rfl⟩ := hG.new 28 (by kernel_rfl) (by kernel_rfl)
        obtain ⟨_, q30, rfl⟩ := hG.new 30 (by kernel_rfl) (by kernel_rfl)
        obtain ⟨v35, q35, h35⟩ := hG.new 35 (by kernel_rfl) (by kernel_rfl)
        have p35 : 0 = 0 → PX B wx v35 KK := h35
        have hb := (show Below _ _ _ from hS)
        obtain ⟨w5, hr, o5, g5, k5⟩ := (HMP.out.on hb HB3.out).store (c := ⟨qs, qk, qh, qb, qg, qa⟩) (p' := P2) (Nat.le_trans HB3.out hb.size) HBM.out HKC.out HPL.out (by rw [HKK.out]; exact p35 rfl) HOTH.out
        simp only at hr
        rw [HKQ.out] at hr
        refine step_store (w' := w5) rfl rfl rfl rfl ?_ ⟨o5, grown_trans (below_row hb _) g5, (Kp.of hb HB3.out).trans k5⟩ trivial ?_
        · simp [execOp, Act.eval, q28, q30, q35, hr, Result.andThen]
        · intro t u _ hu hV
          unfold Do4 at *
          split at hV <;> first | exact hV | exact fun h => absurd h (by decide) | exact (let ⟨u, e, _⟩ := hV; ⟨u, e, fun h => absurd h (by decide)⟩)
    · refine Steps1.cons (fun hin _ _ _ _ _ => out (by kernel_rfl) hin) (Steps1.cons (fun hin _ _ _ _ _ => out (by kernel_rfl) hin) (Steps1.cons (fun hin _ _ _ _ _ => out (by kernel_rfl) hin) (Steps1.cons (fun hin _ _ _ _ _ => out (by kernel_rfl) hin) (Steps1.cons (fun hin _ _ _ _ _ => out (by kernel_rfl) hin) (Steps1.cons (fun hin _ _ _ _ _ => out (by kernel_rfl) hin) (Steps1.cons (fun hin _ _ _ _ _ => out (by kernel_rfl) hin) (Steps1.cons (fun hin _ _ _ _ _ => out (by kernel_rfl) hin) (Steps1.cons (fun hin _ _ _ _ _ => out (by kernel_rfl) hin) (Steps1.cons (fun hin _ _ _ _ _ => out (by kernel_rfl) hin) (Steps1.cons (fun hin _ _ _ _ _ => out (by kernel_rfl) hin) (Steps1.cons (fun hin _ _ _ _ _ => out (by kernel_rfl) hin) (Steps1.cons (fun _ ax wx hS _ hG => ?_) (Steps1.cons (fun hin _ _ _ _ _ => out (by kernel_rfl) hin) Steps1.nil)))))))))))))
      · obtain ⟨v24, q24, h24⟩ := hG.new 24 (by kernel_rfl) (by kernel_rfl)
        have p24 : ∃ u, v24 = .tuple #[u, .int .i64 0] ∧ (1 = 0 → PX B wx u KK) := h24
        obtain ⟨u, rfl, _⟩ := p24
        refine step_slot rfl rfl rfl (step_value (v := .int .i64 0) (w' := wx) rfl rfl ?_ (Below.refl _ _) (fun d hd => by cases hd; exact rfl))
        clear h24
        go_simp
    intro fv w4 hS4 _ hV8
    simp only [puts, Act.put, List.setIfInBounds_toArray, List.set_cons_succ, List.set_cons_zero]
    clear hV8
    have hS4 : MapP B w4 m (r.C ++ [⟨qs, qk, qh, qb, qg, qa⟩]) P2 ∧ w3.grownBy w4 (some m) ∧ Kp B w3 w4 := hS4
    have hg4 := hS4.2.1
    have hnm : ∀ k, k ≠ m → some k ≠ some m := fun k h e => h (by injection e)
    have HG4 := Lib.hid (HG3.out.grown hg4 (hnm _ (fun e => HMG.out e.symm)))
    have HO4 := Lib.hid (show w4.ownsRow B 55 6 u r.C.length (r.C.flatMap Ch.cells) from HO3.out.kept hg4 (by
      cases hq : u.ownBlock with
      | none => exact .inl rfl
      | some q => right; intro e; injection e with e; exact (HUQ.out q hq).2.2.1 e))
    have HBC4 := Lib.hid (HBC.out.grown hg4 (hnm _ HCQ.out.2.1))
    have HC4 := Lib.hid (show ∀ wx, Below w4.heap.size w4 wx → _ ∧ _ ∧ _ ∧ _ ∧ _ ∧ _ from fun wx hx => let q := HBC4.out.on hx; ⟨q.cell 0 rfl, q.cell 1 rfl, q.cell 2 rfl, q.cell 3 rfl, q.cell 4 rfl, q.cell 5 rfl⟩)
    have HB4 := Lib.hid (Nat.le_trans HB3.out hg4.size)
    have HNE := Lib.hid (show some g ≠ u.ownBlock from fun e => (HUQ.out g e.symm).2.1 rfl)
    have HMP4 := Lib.hid hS4.1
    have HKP4 := Lib.hid hS4.2.2
    clear hS4 hg4 hnm
    go_wp2_with fail
    refine wp_region_phase 14 [37, 38, 39, 40, 41, 42, 43, 44, 45, 46] (by kernel_rfl) [7, 10] [] (fun _ _ => True) 2 rfl (by kernel_rfl) (SP (fun wx => Below w4.heap.size w4 wx) (fun wx => w4.grownBy wx u.ownBlock) (fun wx => ∃ A' c', Box wx g 70 #[lv, .map (some m), .slice A' (r.C.length + 1) c', .int .i64 s] ∧ wx.ownsRow B 55 6 (.slice A' (r.C.length + 1) c') (r.C.length + 1) (r.C.flatMap Ch.cells ++ [.int .i64 qs, .string qk, .bool qh, .string qb, .bool qg, .string qa]) ∧ K2 g u.ownBlock w4 wx)) (fun wa wb => Below wa.heap.size wa wb) (Do5 g r.C.length B u (r.C.flatMap Ch.cells) qs qk qh qb qg qa) (by kernel_rfl) (SP.on below_grow (fun wa wb h hs => grown_trans hs (below_row h _)) (fun wa wb h hs => by obtain ⟨A', c', h1, h2, h3⟩ := hs; exact ⟨A', c', h1.on h, own_on h2 h, h3.on h⟩)) (fun _ t v wa wb h1 h2 => h2.on h1) (fun _ _ _ _ _ _ _ => trivial) (Below.refl _ _).drew trivial (phase2 ?_ ?_ ?_) ?_
    · refine Steps1.cons (fun _ ax wx hS _ hG => ?_) (Steps1.cons (fun _ ax wx hS _ hG => ?_) (Steps1.cons (fun _ ax wx hS _ hG => ?_) (Steps1.cons (fun _ ax wx hS _ hG => ?_) (Steps1.cons (fun _ ax wx hS _ hG => ?_) (Steps1.cons (fun _ ax wx hS _ hG => ?_) (Steps1.cons (fun _ ax wx hS _ hG => ?_) (Steps1.cons (fun _ ax wx hS _ hG => ?_) (Steps1.cons (fun _ ax wx hS _ hG => ?_) (Steps1.cons (fun _ ax wx hS _ hG => ?_) (Steps1.cons (fun hin _ _ _ _ _ => out (by kernel_rfl) hin) Steps1.nil))))))))))
      · have q0 := hG.old 0 (by kernel_rfl) (by kernel_rfl)
        refine step_slot rfl rfl rfl (step_value (v := .pointer (some ⟨g, 0, none⟩)) (w' := wx) rfl rfl ?_ (Below.refl _ _) (fun d hd => by cases hd; exact rfl))
        go_simp
      · have q0 := hG.old 0 (by kernel_rfl) (by kernel_rfl)
        refine step_slot rfl rfl rfl (step_value (v := .pointer (some ⟨g, 0, none⟩)) (w' := wx) rfl rfl ?_ (Below.refl _ _) (fun d hd => by cases hd; exact rfl))
        go_simp
      · obtain ⟨_, q38, rfl⟩ := hG.new 38 (by kernel_rfl) (by kernel_rfl)
        refine step_slot rfl rfl rfl (step_value (v := .pointer (some ⟨g, 0, none⟩)) (w' := wx) rfl rfl ?_ (Below.refl _ _) (fun d hd => by cases hd; exact rfl))
        go_simp
      · obtain ⟨_, q39, rfl⟩ := hG.new 39 (by kernel_rfl) (by kernel_rfl)
        refine step_slot rfl rfl rfl (step_value (v := .pointer (some ⟨g, 2, none⟩)) (w' := wx) rfl rfl ?_ (Below.refl _ _) (fun d hd => by cases hd; exact rfl))
        go_simp
      · obtain ⟨_, q40, rfl⟩ := hG.new 40 (by kernel_rfl) (by kernel_rfl)
        have z0 := Box.cell (HG4.out.on hS) 2 rfl
        refine step_slot rfl rfl rfl (step_value (v := u) (w' := wx) rfl rfl ?_ (Below.refl _ _) (fun d hd => by cases hd; exact rfl))
        go_simp
      · have q5 := hG.old 5 (by kernel_rfl) (by kernel_rfl)
        obtain ⟨z0, z1, z2, z3, z4, z5⟩ := HC4.out wx hS
        refine step_slot rfl rfl rfl (step_value (v := .agg #[.int .i64 qs, .string qk, .bool qh, .string qb, .bool qg, .string qa]) (w' := wx) rfl rfl ?_ (Below.refl _ _) (fun d hd => by cases hd; exact rfl))
        go_simp
      · obtain ⟨_, q42, rfl⟩ := hG.new 42 (by kernel_rfl) (by kernel_rfl)
        refine step_slot rfl rfl rfl (step_value (v := .slice (some ⟨wx.heap.size, 0, none⟩) 1 1) (w' := wx.alloc (.cells #[.int .i64 qs, .string qk, .bool qh, .string qb, .bool qg, .string qa] 55)) rfl rfl ?_ ((Below.refl _ _).alloc (Nat.le_refl _) _) (fun d hd => by cases hd; exact fun _ => ⟨_, rfl, Box.fresh _ _ _⟩))
        go_simp
      · obtain ⟨v41, q41, h41⟩ := hG.new 41 (by kernel_rfl) (by kernel_rfl)
        have p41 : v41 = u := h41
        obtain ⟨v43, q43, h43⟩ := hG.new 43 (by kernel_rfl) (by kernel_rfl)
        have p43 : 0 = 0 → ∃ h, v43 = .slice (some ⟨h, 0, none⟩) 1 1 ∧ Box wx h 55 #[.int .i64 qs, .string qk, .bool qh, .string qb, .bool qg, .string qa] := h43
        obtain ⟨h, rfl, hbn⟩ := p43 rfl
        have hb := (show Below _ _ _ from hS)
        obtain ⟨v2, w2', hr, o2, g2, a2⟩ := run_app_cv wx B u r.C.length _ (own_on HO4.out hb) (cv_box (x := ⟨qs, qk, qh, qb, qg, qa⟩) hbn (by simp [Ch.cells])) (by have := HPL2.out; simp; omega) (Nat.le_trans HB4.out hb.size)
        simp only [List.length_cons, List.length_nil, Nat.zero_add] at o2 hr
        obtain ⟨A2, c2, rfl⟩ := own_shape o2
        refine step_marked (v := .slice A2 (r.C.length + 1) c2) (w' := w2') rfl rfl rfl rfl ?_ (grown_trans (below_row hb _) g2) trivial ?_ ?_
        · have e1 : ax.eval (.tmp 41) = u := by rw [← p41]; simp [Act.eval, q41]
          have e2 : ax.eval (.tmp 43) = .slice (some ⟨h, 0, none⟩) 1 1 := by simp [Act.eval, q43]
          unfold execOp
          simp only [resolve, invoke, builtin, Sem.run_bind, Sem.run_pure, Result.andThen_ok, List.map_toArray, List.map_cons, List.map_nil, e1, e2, hr _]
        · exact fun _ => ⟨A2, c2, rfl, by simpa [Ch.cells] using o2⟩
        · intro t u _ ht hu hV
          unfold Do5 at *
          split at hV <;> first | exact hV | exact fun h => absurd h (by decide) | exact absurd rfl ht
      · obtain ⟨_, q37, rfl⟩ := hG.new 37 (by kernel_rfl) (by kernel_rfl)
        refine step_slot rfl rfl rfl (step_value (v := .pointer (some ⟨g, 0, none⟩)) (w' := wx) rfl rfl ?_ (Below.refl _ _) (fun d hd => by cases hd; exact rfl))
        go_simp
      · obtain ⟨_, q45, rfl⟩ := hG.new 45 (by kernel_rfl) (by kernel_rfl)
        refine step_slot rfl rfl rfl (step_value (v := .pointer (some ⟨g, 2, none⟩)) (w' := wx) rfl rfl ?_ (Below.refl _ _) (fun d hd => by cases hd; exact rfl))
        go_simp
    · refine Steps1.cons (fun _ ax wx hS _ hG => ?_) (Steps1.cons (fun hin _ _ _ _ _ => out (by kernel_rfl) hin) (Steps1.cons (fun hin _ _ _ _ _ => out (by kernel_rfl) hin) (Steps1.cons (fun hin _ _ _ _ _ => out (by kernel_rfl) hin) (Steps1.cons (fun hin _ _ _ _ _ => out (by kernel_rfl) hin) (Steps1.cons (fun hin _ _ _ _ _ => out (by kernel_rfl) hin) (Steps1.cons (fun hin _ _ _ _ _ => out (by kernel_rfl) hin) (Steps1.cons (fun hin _ _ _ _ _ => out (by kernel_rfl) hin) (Steps1.cons (fun _ ax wx hS _ hG => ?_) (Steps1.cons (fun _ ax wx hS _ hG => ?_) (Steps1.cons (fun _ ax wx hS _ hG => ?_) Steps1.nil))))))))))
      · have q0 := hG.old 0 (by kernel_rfl) (by kernel_rfl)
        refine step_slot rfl rfl rfl (step_value (v := .pointer (some ⟨g, 0, none⟩)) (w' := wx) rfl rfl ?_ (Below.refl _ _) (fun d hd => by cases hd; exact rfl))
        go_simp
      · obtain ⟨_, q37, rfl⟩ := hG.new 37 (by kernel_rfl) (by kernel_rfl)
        refine step_slot rfl rfl rfl (step_value (v := .pointer (some ⟨g, 0, none⟩)) (w' := wx) rfl rfl ?_ (Below.refl _ _) (fun d hd => by cases hd; exact rfl))
        go_simp
      · obtain ⟨_, q45, rfl⟩ := hG.new 45 (by kernel_rfl) (by kernel_rfl)
        refine step_slot rfl rfl rfl (step_value (v := .pointer (some ⟨g, 2, none⟩)) (w' := wx) rfl rfl ?_ (Below.refl _ _) (fun d hd => by cases hd; exact rfl))
        go_simp
      · obtain ⟨_, q46, rfl⟩ := hG.new 46 (by kernel_rfl) (by kernel_rfl)
        obtain ⟨v44, q44, h44⟩ := hG.new 44 (by kernel_rfl) (by kernel_rfl)
        have p44 : 1 = 1 → ∃ A' c', v44 = .slice A' (r.C.length + 1) c' ∧ wx.ownsRow B 55 6 (.slice A' (r.C.length + 1) c') (r.C.length + 1) (r.C.flatMap Ch.cells ++ [.int .i64 qs, .string qk, .bool qh, .string qb, .bool qg, .string qa]) := h44
        obtain ⟨A9, c9, rfl, o9⟩ := p44 rfl
        have hg9 := (show w4.grownBy wx u.ownBlock from hS)
        have hu3 : Box wx g 70 #[lv, .map (some m), u, .int .i64 s] := HG4.out.grown hg9 HNE.out
        have f2 := hu3.free 2
        have k2 := hu3.cell 2 rfl
        have hT : g ≠ 0 → True := fun _ => trivial
        have hbl : ∀ j, (Value.slice A9 (r.C.length + 1) c9).ownBlock = some j → j ≠ g := fun j hj e => by
          subst e
          obtain ⟨cs1, s1, h1⟩ := own_row_at o9 hj
          have h2 : wx.heap[j]? = some (.cells _ 70 (0, 0)) := hu3
          rw [h2] at h1
          injection h1 with h1
          injection h1 with _ h1
          exact absurd h1 (by decide)
        refine step_store (w' := wx.setCell ⟨g, 2, none⟩ (.slice A9 (r.C.length + 1) c9)) rfl rfl rfl rfl ?_ ⟨A9, c9, Box.set hu3 2 _, o9.kept (Ex.set (g := g) (i := 2) wx _) (.inr (fun e => hbl g e rfl)), (K2.row hg9).trans (K2.ex (Ex.set wx _)) (.inl rfl)⟩ trivial ?_
        · clear hu3 o9 p44 h44 hg9 hbl hT
          go_simp
        · intro t u _ hu hV
          unfold Do5 at *
          split at hV <;> first | exact hV | exact fun h => absurd h (by decide)
    · refine Steps1.cons (fun hin _ _ _ _ _ => out (by kernel_rfl) hin) (Steps1.cons (fun hin _ _ _ _ _ => out (by kernel_rfl) hin) (Steps1.cons (fun hin _ _ _ _ _ => out (by kernel_rfl) hin) (Steps1.cons (fun hin _ _ _ _ _ => out (by kernel_rfl) hin) (Steps1.cons (fun hin _ _ _ _ _ => out (by kernel_rfl) hin) (Steps1.cons (fun hin _ _ _ _ _ => out (by kernel_rfl) hin) (Steps1.cons (fun hin _ _ _ _ _ => out (by kernel_rfl) hin) (Steps1.cons (fun hin _ _ _ _ _ => out (by kernel_rfl) hin) (Steps1.cons (fun hin _ _ _ _ _ => out (by kernel_rfl) hin) (Steps1.cons (fun hin _ _ _ _ _ => out (by kernel_rfl) hin) (Steps1.cons (fun hin _ _ _ _ _ => out (by kernel_rfl) hin) Steps1.nil))))))))))
    intro fv w5 hS5 _ hV8
    simp only [puts, Act.put, List.setIfInBounds_toArray, List.set_cons_succ, List.set_cons_zero]
    clear hV8
    obtain ⟨A2, c2, hb5, o5, k5⟩ := (show ∃ A' c', Box w5 g 70 #[lv, .map (some m), .slice A' (r.C.length + 1) c', .int .i64 s] ∧ w5.ownsRow B 55 6 (.slice A' (r.C.length + 1) c') (r.C.length + 1) (r.C.flatMap Ch.cells ++ [.int .i64 qs, .string qk, .bool qh, .string qb, .bool qg, .string qa]) ∧ K2 g u.ownBlock w4 w5 from hS5)
    have hc55 : Box w5 hc5 55 _ := k5.box HBC4.out HCQ.out.1 HCQ.out.2.2
    have hkp5 : Kp B w4 w5 := Kp.k2 k5 HB4.out HBG.out (box_not HG4.out (by decide)) (fun q e => ⟨(HUQ.out q e).1, own_not HO4.out (by decide) e⟩)
    have hmp5 : MapP B w5 m (r.C ++ [⟨qs, qk, qh, qb, qg, qa⟩]) P2 := HMP4.out.kp hkp5 (k5.block m HMP4.out.lt HMG.out (fun e => (HUQ.out m e.symm).2.2.1 rfl))
    have q0 := hc55.cell 0 rfl
    have f3 := hb5.free 3
    have m3 := hb5.cell 3 rfl
    obtain ⟨wz, hz⟩ : ∃ wz, wz = w5.setCell ⟨g, 3, none⟩ (.int .i64 qs) := ⟨_, rfl⟩
    have hbz : Box wz g 70 #[lv, .map (some m), .slice A2 (r.C.length + 1) c2, .int .i64 qs] := by rw [hz]; exact Box.set hb5 3 _
    have hgz : w5.grownBy wz (some g) := by rw [hz]; exact Ex.set (g := g) (i := 3) w5 _
    have hkz : Kp B w5 wz := Kp.grown hgz (Nat.le_trans HB4.out hkp5.below.size) (fun q e => by cases e; exact ⟨HBG.out, box_not hb5 (by decide)⟩)
    have hkall : Kp B w3 wz := (HKP4.out.trans hkp5).trans hkz
    have hoz : wz.ownsRow B 55 6 (.slice A2 (r.C.length + 1) c2) (r.C.length + 1) (r.C.flatMap Ch.cells ++ [.int .i64 qs, .string qk, .bool qh, .string qb, .bool qg, .string qa]) := o5.kept hgz (.inr (fun e => by
      obtain ⟨cs1, s1, h1⟩ := own_row_at o5 e
      have h2 : w5.heap[g]? = some (.cells _ 70 (0, 0)) := hb5
      rw [h1] at h2
      injection h2 with h2
      injection h2 with _ h2
      exact absurd h2 (by decide)))
    have HF := Lib.hid (show RunS B g m lv l (stepR r ⟨nk, nkey, nval, nn⟩) wz ∧ Kp B w wz from by
      rw [HST2.out.1]
      obtain ⟨A, c, e, h7, h8⟩ := HR3.out.lies
      refine ⟨⟨Nat.le_trans HB3.out hkall.below.size, HBG.out, HBM.out, ⟨_, by rw [HS.out, ← HST2.out.2]; exact hbz, ?_⟩, hmp5.kp hkz (hgz.block m (Nat.lt_of_lt_of_le HMP4.out.lt hkp5.below.size) (fun e => HMG.out (Option.some.inj e))), A, c, e, h7.below hkall.below, h8⟩, (Kp.of HB03.out HBW.out).trans hkall⟩
      show wz.ownsRow B _ 6 _ ((r.C ++ [(⟨qs, qk, qh, qb, qg, qa⟩ : Ch)]).length) _
      rw [List.length_append, List.flatMap_append]
      exact hoz)
    clear hc55 hkp5 hmp5 hbz hgz hkz hkall hoz o5 k5 hb5
    go_wp2
    rw [← hz]
    refine ⟨rfl, .tuple #[], ?_, rfl, HF.out⟩
    first | rfl | simp [results, Try.results44]

end Go.Proofs.Ytgpjbajfkagdbaa

namespace Go.Proofs.Ytgpjbajfkagdbaa
open Go.RowKit Go.Maps

set_option maxHeartbeats 2000000 in
set_option maxRecDepth 100000 in
theorem bright_any (A : Option Addr) (c : Nat) (l : List Nt) (w : World) (hA : Nts w w.heap.size A l) (hn : l.length ≤ maxLen) :
    Calls Try.prog 43 #[.slice A l.length c] w fun e w' => e = .returned (.bool (batchB l)) ∧ Below w.heap.size w w' := by
  unfold maxLen at hn
  obtain ⟨R, hR⟩ : ∃ R, R = batchB l := ⟨_, rfl⟩
  rw [← hR]
  have HLong := Lib.hid (show ¬ l.length ≤ 8 → R = false from fun h => by rw [hR]; unfold batchB; rw [decide_eq_false h]; rfl)
  have HY := Lib.hid (show l.length ≤ 8 → (∀ i (h : i < l.length), rightN l[i] = true) → R = true from fun h8 h => by
    rw [hR, batchB_iff]
    refine ⟨h8, ?_⟩
    rw [List.all_eq_true]
    intro x hx
    obtain ⟨i, hi, rfl⟩ := List.getElem_of_mem hx
    exact h i hi)
  have HNo := Lib.hid (show ∀ i (h : i < l.length), rightN l[i] = false → R = false from fun i h h1 => by
    rw [hR]
    unfold batchB
    rw [show l.all rightN = false from by
      rw [List.all_eq_false]
      exact ⟨l[i], List.getElem_mem _, by rw [h1]; simp⟩]
    simp)
  clear hR
  obtain ⟨n, hl⟩ : ∃ n, l.length = n := ⟨_, rfl⟩
  rw [hl] at hn HLong ⊢
  have HL := Lib.hid hl
  have HA := Lib.hid hA
  clear hl hA
  by_cases h8 : n ≤ 8
  case neg =>
    have hd : decide (8 < n) = true := by simp; omega
    have HE := Lib.hid (HLong.out h8)
    go_enter Try.func43, Try.ntmps43
    go_wp2
    go_ret
    rw [HE.out]
    exact ⟨rfl, Below.refl _ _⟩
  have hd : decide (8 < n) = false := by simp; omega
  go_enter Try.func43, Try.ntmps43
  go_wp2
  go_loopw [10] (fun i wr => ∃ (k : Nat), i = .int .i64 k ∧ k ≤ n ∧ Hid (∀ i (h : i < l.length), i < k → rightN l[i] = true) ∧ Below w.heap.size w wr) (fun i _ => (n - intOf i).toNat)
  case atStart => exact ⟨0, rfl, by omega, fun i h h0 => by omega, Below.refl _ _⟩
  case round =>
    obtain ⟨k, rfl, hk, HG, hbr⟩ := hrel
    by_cases hlt : k < n
    · obtain ⟨ad, rfl, hab, hca⟩ := (HA.out.below hbr).seeN (by rw [HL.out]; omega)
      have hkl : k < l.length := by rw [HL.out]; exact hlt
      obtain ⟨c1, c2, c3, c4⟩ := hca k hkl
      obtain ⟨x, hx⟩ : ∃ x, x = l[k]'hkl := ⟨_, rfl⟩
      rw [← hx] at c1 c2 c3 c4
      have HX := Lib.hid hx
      clear hx hca
      obtain ⟨xk, xkey, xval, xn⟩ := x
      simp only at c1 c2 c3 c4
      have hlt3 : (ad.add (k * 4)).block < w.heap.size := by rw [block_of_add]; exact hab
      have hbs := hbr.size
      go_wp2_with fail
      refine (right_any xk xkey xval xn _).mono ?_
      rintro e w1 ⟨rfl, hb1⟩
      have hbr1 : Below w.heap.size w w1 := (hbr.alloc hbs _).trans (hb1.mono (by simp; omega))
      clear hb1 c1 c2 c3 c4
      cases hf : rightN ⟨xk, xkey, xval, xn⟩ with
      | false =>
        have HE := Lib.hid (HNo.out k hkl (by rw [← HX.out]; exact hf))
        clear hf
        go_wp2
        go_ret
        rw [HE.out]
        exact ⟨rfl, hbr1⟩
      | true =>
        have HG2 := Lib.hid (show ∀ i (h : i < l.length), i < k + 1 → rightN l[i] = true from fun i h h1 => by
          by_cases hi : i < k
          · exact HG.out i h hi
          · have : i = k := by omega
            subst this
            rw [← HX.out]; exact hf)
        clear hf HG
        go_wp2
        go_roundw
        case rel => exact ⟨k + 1, by go_num, by omega, HG2, hbr1⟩
        case measure => simp [intOf]; omega
    · have HE := Lib.hid (HY.out (by rw [HL.out]; omega) fun i h => HG.out i h (by rw [HL.out] at h; omega))
      go_wp2
      go_ret
      rw [HE.out]
      exact ⟨rfl, hbr⟩
theorem bright_v {v : Value} {l : List Nt} {w : World} (h : NV w v l) (hn : l.length ≤ maxLen) :
    Calls Try.prog 43 #[v] w fun e w' => e = .returned (.bool (batchB l)) ∧ Below w.heap.size w w' := by
  obtain ⟨A, c, rfl, h1, _⟩ := h
  exact bright_any A c l w h1 hn

/-- A slice of notes that lies below B. -/
def NB (B : Nat) (w : World) (v : Value) (l : List Nt) : Prop := ∃ A c, v = .slice A l.length c ∧ Nts w B A l ∧ l.length ≤ c ∧ (A = none → c = 0)
theorem NB.nv {B : Nat} {w : World} {v : Value} {l : List Nt} (h : NB B w v l) (hB : B ≤ w.heap.size) : NV w v l := by
  obtain ⟨A, c, e, h1, h2⟩ := h
  exact ⟨A, c, e, h1.more hB, h2⟩
theorem NB.below {B : Nat} {w w' : World} {v : Value} {l : List Nt} (h : NB B w v l) (hb : Below B w w') : NB B w' v l := by
  obtain ⟨A, c, e, h1, h2⟩ := h
  exact ⟨A, c, e, h1.below hb, h2⟩
theorem NB.of {w : World} {v : Value} {l : List Nt} (h : NV w v l) : NB w.heap.size w v l := h

set_option maxHeartbeats 4000000 in
set_option maxRecDepth 100000 in
theorem batch_any {B g m : Nat} {lv u : Value} {l : List Pr} {s0 : Int} {r : Rs} {w : World} (h : RunS B g m lv l r w) (hi : RInv l s0 r) (ns : List Nt) (hu : NB B w u ns) (hn : l.length ≤ 40000) (hc : r.C.length ≤ 40000) (hm : ns.length ≤ maxLen) :
    Calls Try.prog 29 #[.pointer (some ⟨g, 0, none⟩), u] w fun e w' => e = .returned (.int .i64 (runE r.p r.s ns)) ∧ RunS B g m lv l (if runE r.p r.s ns = 0 then runR r ns else r) w' ∧ Kp B w w' := by
  have hpos := hi.pos
  have htop := hi.top
  have hE := runE_is hi.pwell hpos htop ns
  rw [hE]
  have hrt := bright_v (hu.nv h.hB) hm
  have HU := Lib.hid hu
  obtain ⟨A, c, rfl, hA, hcap, hz⟩ := hu
  have HA := Lib.hid hA
  have HI := Lib.hid hi
  have HR := Lib.hid h
  have HB := Lib.hid h.hB
  have HN := Lib.hid hn
  have HC := Lib.hid hc
  cases hbb : batchB ns with
  | false =>
    rw [hbb] at hrt
    have HRT := Lib.hid hrt
    obtain ⟨n, hl⟩ : ∃ n, ns.length = n := ⟨_, rfl⟩
    rw [hl] at HRT ⊢
    clear hE h hi hA hcap hz hbb hrt hn hc hm hpos htop HU
    go_enter Try.func29, Try.ntmps29
    go_wp2_with fail
    refine HRT.out.mono ?_
    rintro e w1 ⟨rfl, hb⟩
    have HF := Lib.hid (And.intro (HR.out.on hb) (Kp.of hb HB.out))
    clear hb
    go_wp2
    go_ret
    exact ⟨rfl, HF.out⟩
  | true =>
    rw [hbb] at hrt
    obtain ⟨h8, hall⟩ := batchB_iff.1 hbb
    have HRT := Lib.hid hrt
    have HALL := Lib.hid hall
    obtain ⟨n, hl⟩ : ∃ n, ns.length = n := ⟨_, rfl⟩
    rw [hl] at HRT h8 ⊢
    have HL := Lib.hid hl
    obtain ⟨s, hs⟩ : ∃ s, r.s = s := ⟨_, rfl⟩
    rw [hs] at hpos htop ⊢
    have HS := Lib.hid hs
    clear hE h hi hA hz hbb hrt hn hc hm HU hall hl hs hcap
    go_enter Try.func29, Try.ntmps29
    go_wp2_with fail
    refine HRT.out.mono ?_
    rintro e w1 ⟨rfl, hb⟩
    have hR1 := HR.out.on hb
    obtain ⟨cv, hbx, _⟩ := hR1.box
    rw [HS.out] at hbx
    have m3 := hbx.cell 3 rfl
    have HR1 := Lib.hid hR1
    have HB1 := Lib.hid (Kp.of hb HB.out)
    clear hb hR1 hbx
    by_cases hfull : 2147483647 < s + n
    · have hd : decide (2147483647 - (n : Int) < s) = true := by simp; omega
      go_wp2
      go_ret
      exact ⟨by simp [hfull], HR1.out, HB1.out⟩
    · have hd : decide (2147483647 - (n : Int) < s) = false := by simp; omega
      have HFULL := Lib.hid hfull
      have HTK := Lib.hid (fun k hk => run_take HI.out (ns := ns) HALL.out (by rw [HS.out, HL.out]; omega) k hk)
      go_wp2
      go_loopw [20] (fun i wr => ∃ (k : Nat), i = .int .i64 k ∧ k ≤ n ∧ Hid (RunS B g m lv l (runR r (ns.take k)) wr) ∧ Kp B w wr) (fun i _ => (n - intOf i).toNat)
      case atStart => exact ⟨0, rfl, by omega, HR1, HB1.out⟩
      case round =>
        obtain ⟨k, rfl, hk, HG, hbr⟩ := hrel
        by_cases hlt : k < n
        · have hkl : k < ns.length := by rw [HL.out]; exact hlt
          obtain ⟨ad, rfl, hab, hca⟩ := (HA.out.below hbr.below).seeN (by rw [HL.out]; omega)
          obtain ⟨c1, c2, c3, c4⟩ := hca k hkl
          obtain ⟨g1, g2, g3, g4⟩ := HTK.out k hkl
          have hC2 : (runR r (ns.take k)).C.length ≤ 50000 := by
            have h1 := (run_inv HI.out (ns := ns.take k) (by rw [List.all_eq_true]; exact fun x hx => (List.all_eq_true.1 HALL.out) x (List.mem_of_mem_take hx)) (by rw [List.length_take, HS.out]; omega)).2.2.2.2
            rw [List.length_take] at h1
            have := HC.out
            omega
          obtain ⟨x, hx⟩ : ∃ x, x = ns[k]'hkl := ⟨_, rfl⟩
          rw [← hx] at c1 c2 c3 c4 g3 g4
          have hGS := HG.out.hB
          have hdo := fun (wx : World) (hb : Below wr.heap.size wr wx) => do_any (HG.out.on hb) g1 x g3 g2 (by have := HN.out; omega) hC2
          rw [← g4] at hdo
          have HDO := Lib.hid hdo
          clear hx hca g1 g2 g3 g4 hC2 hdo
          obtain ⟨xk, xkey, xval, xn⟩ := x
          simp only at c1 c2 c3 c4
          simp only [Nt.cells] at HDO
          have hlt3 : (ad.add (k * 4)).block < B := by rw [block_of_add]; exact hab
          have HGS := Lib.hid hGS
          go_wp2_with fail
          refine (HDO.out _ ((Below.refl _ _).alloc (Nat.le_refl _) _)).mono ?_
          rintro e w2 ⟨rfl, hr2, hb2⟩
          have HG2 := Lib.hid hr2
          have HBR2 := Lib.hid ((hbr.trans (Kp.of ((Below.refl _ _).alloc (Nat.le_refl _) _) HGS.out)).trans hb2)
          clear hb2 hr2 c1 c2 c3 c4 hab hlt3 hbr HG
          go_wp2
          go_roundw
          case rel => exact ⟨k + 1, by go_num, by omega, HG2, HBR2.out⟩
          case measure => simp [intOf]; omega
        · have hkn : k = n := by omega
          have HF := Lib.hid (show RunS B g m lv l (runR r ns) wr from by
            have := HG.out
            rwa [List.take_of_length_le (by rw [HL.out]; omega)] at this)
          clear HG
          go_wp2
          go_ret
          exact ⟨by have := HFULL.out; simp [this], HF.out, hbr⟩

end Go.Proofs.Ytgpjbajfkagdbaa
