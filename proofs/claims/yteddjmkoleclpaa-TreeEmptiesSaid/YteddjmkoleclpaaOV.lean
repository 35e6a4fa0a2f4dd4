/- The walk of over. -/
import Derived.Test.YteddjmkoleclpaaQShare
import Derived.Test.YteddjmkoleclpaaPn
import Derived.Test.YteddjmkoleclpaaAS
set_option linter.unusedVariables false
set_option linter.unusedSimpArgs false
namespace Go.Proofs.Yteddjmkoleclpaa
open Go.RowKit

theorem AllN.ex {α β : Type} {R : α → β → Prop} : ∀ {m : List β}, (∀ i (h : i < m.length), ∃ a, R a m[i]) → ∃ l : List α, AllN R l m
  | [], _ => ⟨[], trivial⟩
  | b :: m, h => by
    obtain ⟨a, ha⟩ := h 0 (by simp)
    obtain ⟨l, hl⟩ := AllN.ex (m := m) fun i hi => h (i + 1) (by rw [List.length_cons]; omega)
    exact ⟨a :: l, ha, hl⟩
/-- All of them, as they lie. -/
theorem OwnX.all {α : Type} {T T2 : TypeId} {cs : α → List Value} {k base : Nat} {w : World} {v : Value} {ps : List (List α)} (hk : ∀ x, (cs x).length = k) (h : OwnX T T2 cs k base w v ps) :
    ∃ (A : Option Addr) (c : Nat) (ss : List Sl), v = .slice A ps.length c ∧ AllN (fun s p => SlB cs k w (fun b => base ≤ b ∧ b < w.heap.size) s p) ss ps ∧ LiesS (fun s : Sl => [.slice s.a s.n s.c]) 1 w (fun b => base ≤ b ∧ b < w.heap.size) A ss ∧ w.ownsRow base T2 1 v ps.length (ss.map fun s : Sl => .slice s.a s.n s.c) := by
  obtain ⟨vs, h1, h2, h3⟩ := h
  obtain ⟨A, c, rfl⟩ := own_shape h1
  have hex : ∀ i (hi : i < ps.length), ∃ s : Sl, vs[i]? = some (.slice s.a s.n s.c) ∧ SlB cs k w (fun b => base ≤ b ∧ b < w.heap.size) s ps[i] := fun i hi => by
    obtain ⟨u, h4, h5⟩ := h3 i hi
    obtain ⟨s, rfl, hs⟩ := sl_own hk h5 rfl
    exact ⟨s, h4, hs⟩
  obtain ⟨ss, hl, hq⟩ := list_of (Q := fun i (s : Sl) => ∀ hi : i < ps.length, vs[i]? = some (.slice s.a s.n s.c) ∧ SlB cs k w (fun b => base ≤ b ∧ b < w.heap.size) s ps[i]) ps.length fun i hi => let ⟨s, h4, h5⟩ := hex i hi; ⟨s, fun _ => ⟨h4, h5⟩⟩
  have e : vs = ss.map fun s : Sl => Value.slice s.a s.n s.c := by
    refine List.ext_getElem (by simp [h2, hl]) fun i hi1 hi2 => ?_
    have hi3 : i < ss.length := by simpa using hi2
    have h4 := (hq i hi3 (by omega)).1
    rw [List.getElem?_eq_getElem hi1] at h4
    injection h4 with h4
    rw [h4]; simp
  subst e
  refine ⟨A, c, ss, rfl, AllN.of hl fun i h5 h6 => (hq i h5 h6).2, ?_, h1⟩
  have e2 : (ss.map fun s : Sl => Value.slice s.a s.n s.c) = ss.flatMap (fun s : Sl => [Value.slice s.a s.n s.c]) := by
    clear hq hex h1 h2 h3 hl
    induction ss with
    | nil => rfl
    | cons x l ih => rw [List.map_cons, ih]; rfl
  rw [e2, ← hl] at h1
  exact lies_own (cs := fun s : Sl => [Value.slice s.a s.n s.c]) (fun _ => rfl) h1
theorem parts_trees {α β : Type} {R : α → β → Prop} : ∀ {pss : List (List α)} {ks : List β}, AllN R pss.flatten ks → ∃ kss : List (List β), kss.flatten = ks ∧ AllN (AllN R) pss kss
  | [], [], _ => ⟨[], rfl, trivial⟩
  | p :: pss, ks, h => by
    have hl : p.length + pss.flatten.length = ks.length := by have := h.len; simpa using this
    have h1 := h.take p.length
    have h2 := h.drop p.length
    rw [List.flatten_cons, List.take_left' rfl] at h1
    rw [List.flatten_cons, List.drop_left' rfl] at h2
    obtain ⟨kss, e, h3⟩ := parts_trees h2
    exact ⟨ks.take p.length :: kss, by rw [List.flatten_cons, e, List.take_append_drop], h1, h3⟩
def lowR : List Nr → ByteArray
  | [] => noB
  | r :: _ => r.low
/-- A node over these, where nothing waits; with what waits. -/
def mkR (s : Sl) (p : List Nr) : Nr := ⟨lowR p, s, nilS, nilS⟩
def notR (r : Nr) (s : Sl) : Nr := ⟨r.low, r.k, s, r.p⟩
theorem set_row (A B : List Nr) (r : Nr) (s : Sl) (i : Nat) (hi : i = A.length) : ((A ++ r :: B).flatMap Nr.cells).set (i * 4 + 2) (.slice s.a s.n s.c) = (A ++ notR r s :: B).flatMap Nr.cells := by
  subst hi
  rw [List.flatMap_append, List.flatMap_append, List.set_append_right _ _ (by rw [nrs_len]; omega), nrs_len, show A.length * 4 + 2 - A.length * 4 = 2 by omega]
  rfl
theorem row_box {w : World} {base n : Nat} {e : TypeId} {k : Nat} {A : Option Addr} {c : Nat} {xs : List Value} (h : w.ownsRow base e k (.slice A n c) n xs) (h0 : 0 < n) :
    ∃ (g : Nat) (cur : Array Value), A = some ⟨g, 0, none⟩ ∧ base ≤ g ∧ Box w g e cur ∧ ∀ (j : Nat) (u : Value), xs[j]? = some u → cur[j]? = some u := by
  rcases h.2 with ⟨_, h1⟩ | ⟨g, cap, cur, hv, hbg, hg, _, _, _, hcur⟩
  · omega
  · injection hv with e1
    refine ⟨g, cur, e1, hbg, hg, fun j u hj => ?_⟩
    rw [← hcur, List.getElem?_take] at hj
    split at hj
    · simpa using hj
    · cases hj

theorem over_all {h : Nat} {w : World} {S : Nat → Prop} {sls nsl : List Sl} {pss : List (List Nr)} {kss : List (List (ByteArray × TrH h))} {parts : List (List Nt)} (h1 : AllN (fun s p => SlB Nr.cells 4 w S s p) sls pss) (h2 : AllN (NodesR h w S) pss kss) (h3 : AllN (fun s p => SlB Nt.cells 4 w S s p) nsl parts) (hl : parts.length = kss.length) :
    NodesR (h + 1) w S (List.zipWith notR (List.zipWith mkR sls pss) nsl) (List.zipWith (fun p w => ((lowHd p, (w, p)) : ByteArray × TrH (h + 1))) kss parts) := by
  induction kss generalizing sls nsl pss parts with
  | nil =>
    cases pss with
    | nil =>
      cases parts with
      | nil => cases nsl with
        | nil => cases sls with
          | nil => trivial
          | cons _ _ => exact h1.elim
        | cons _ _ => exact h3.elim
      | cons _ _ => cases hl
    | cons _ _ => exact h2.elim
  | cons k kss ih =>
    cases pss with
    | nil => exact h2.elim
    | cons p pss =>
      cases parts with
      | nil => cases hl
      | cons q parts =>
        cases nsl with
        | nil => exact h3.elim
        | cons n nsl =>
          cases sls with
          | nil => exact h1.elim
          | cons s sls =>
            refine ⟨⟨?_, h3.1, rfl, p, h1.1, h2.1⟩, ih h1.2 h2.2 h3.2 (by simpa using hl)⟩
            have h4 := h2.1
            cases p with
            | nil => cases k with
              | nil => rfl
              | cons _ _ => exact h4.elim
            | cons r p => cases k with
              | nil => exact h4.elim
              | cons y k =>
                have h5 : r.low = y.1 := NodeB.low (show NodeB h w S r y.1 y.2 from h4.1)
                exact h5

set_option maxHeartbeats 4000000 in
set_option maxRecDepth 100000 in
theorem over_any (h : Nat) (lo : ByteArray) (hi : Option ByteArray) (A1 : Option Addr) (n1 c1 : Nat) (rs : List Nr) (ks : List (ByteArray × TrH h)) (B : Option Addr) (d : Nat) (W : List Nt) (w : World) (S : Nat → Prop) (hS : Und w S) (hV : SlB Nr.cells 4 w S ⟨A1, n1, c1⟩ rs) (hN : NodesR h w S rs ks) (hB : NV w (.slice B W.length d) W) (hL : Lv h lo hi ks W) (h6 : W.length ≤ 6) (hmax : ks.length ≤ 100000) :
    Calls Try.prog 42 #[.slice A1 n1 c1, .slice B W.length d] w fun e w' => ∃ v' kss, e = .returned v' ∧ TsV (h + 1) w' (Gr S w w') v' (overN h kss W) ∧ kss.flatten = ks ∧ (∀ p ∈ kss, p ≠ [] ∧ p.length ≤ 4) ∧ kss.length = (ks.length + 3) / 4 ∧ Below w.heap.size w w' := by
  obtain ⟨i0, hi0, hz0, hz1, hz2⟩ := info_parts node_info
  have hlen : rs.length = ks.length := hN.len
  have hsh := nshare_any A1 c1 rs w (hV.2.1.lies hS) hV.2.2.1 hV.2.2.2 (by omega)
  obtain rfl : n1 = rs.length := hV.1
  have HU := Lib.hid hS
  have HN := Lib.hid hN
  have HW := Lib.hid hB
  have HL := Lib.hid hL
  have HLEN := Lib.hid hlen
  obtain ⟨n1, hn1⟩ : ∃ n1, n1 = rs.length := ⟨_, rfl⟩
  have HN1 := Lib.hid hn1
  obtain ⟨nw, hnw⟩ : ∃ nw, nw = W.length := ⟨_, rfl⟩
  rw [← hn1] at hsh ⊢
  rw [← hnw] at h6 ⊢
  have HNW := Lib.hid hnw
  have hnm : n1 ≤ 100000 := by omega
  clear hS hN hB hL hlen hV hn1 hmax hnw
  go_enter Try.func42, Try.ntmps42
  go_wp2_with fail
  refine hsh.mono ?_
  clear hsh
  rintro e w1 ⟨v1, pss, rfl, hown1, hfl, hps, hpl, hb1⟩
  obtain ⟨A, c, sls, rfl, hsl, hli, _⟩ := hown1.all Nr.cells4
  obtain ⟨P, hP⟩ : ∃ P, P = pss.length := ⟨_, rfl⟩
  rw [← hP] at hpl ⊢
  have hPm : P ≤ 100000 := by omega
  obtain ⟨kss, hkf, hkk⟩ := parts_trees (show AllN _ pss.flatten ks by rw [hfl]; exact HN.out)
  have hkl : kss.length = P := by rw [hP]; exact hkk.len.symm
  have hsll : sls.length = P := by rw [hP]; exact hsl.len
  have hk4 : ∀ p ∈ kss, p ≠ [] ∧ p.length ≤ 4 := fun p hp => by
    obtain ⟨i, hi, rfl⟩ := List.getElem_of_mem hp
    have h1 := hkk.get i (by omega) hi
    have h2 := hps pss[i] (List.getElem_mem _)
    have h3 := h1.len
    refine ⟨fun e => h2.1 (List.length_eq_zero_iff.1 (by rw [h3, e]; rfl)), by omega⟩
  have HOP := Lib.hid (over_plain HL.out (by have := HNW.out; omega) hkf hk4)
  have HHD := Lib.hid (show (List.zipWith mkR sls pss).map Nr.low = kss.map lowHd from by
    refine List.ext_getElem (by simp; omega) fun i h1 h2 => ?_
    simp only [List.getElem_map, List.getElem_zipWith]
    have h3 := hkk.get i (by simp at h1; omega) (by simpa using h2)
    have hi1 : i < pss.length := by simp at h1; omega
    have hi2 : i < kss.length := by simpa using h2
    show lowR (pss[i]'hi1) = lowHd (kss[i]'hi2)
    cases e1 : pss[i]'hi1 with
    | nil => rw [e1] at h3; cases e2 : kss[i]'hi2 with
      | nil => rfl
      | cons _ _ => rw [e2] at h3; exact h3.elim
    | cons r p => rw [e1] at h3; cases e2 : kss[i]'hi2 with
      | nil => rw [e2] at h3; exact h3.elim
      | cons y q => rw [e2] at h3; exact NodeB.low (show NodeB h w S r y.1 y.2 from h3.1))
  have HSL := Lib.hid hsl
  have HLI := Lib.hid hli
  have HKK := Lib.hid (show AllN (NodesR h w1 S) pss kss from hkk.imp fun _ _ hx => NodesR.on hx HU.out hb1)
  have HPS := Lib.hid hps
  have HP := Lib.hid hP
  have HSLL := Lib.hid hsll
  have HKF := Lib.hid (And.intro hkf (And.intro hk4 hkl))
  have HPL := Lib.hid hpl
  have HW1 := Lib.hid (HW.out.on hb1)
  have HB1 := Lib.hid hb1
  clear hown1 hfl hps hpl hb1 hsl hli hP hkf hkk hkl hsll hk4 HW HN
  go_wp2
  go_loopw [5, 13] (fun v5 v13 wr => ∃ i : Nat, v13 = .int .i64 i ∧ i ≤ P ∧ Hid (wr.ownsRow w1.heap.size 30 4 v5 i (((List.zipWith mkR sls pss).take i).flatMap Nr.cells)) ∧ Below w1.heap.size w1 wr) (fun _ v13 _ => (P - intOf v13).toNat)
  case atStart => exact ⟨0, rfl, by omega, by show World.ownsRow _ _ _ _ _ _ _; exact World.ownsRow_nil _ _ _ _, Below.refl _ _⟩
  case round =>
    obtain ⟨i, rfl, hip, HO, hbr⟩ := hrel
    have hbs := hbr.size
    by_cases hlt : i < P
    · have his : i < sls.length := by rw [HSLL.out]; exact hlt
      have hil : i < pss.length := by rw [← HP.out]; exact hlt
      obtain ⟨ad, rfl, hab, hca⟩ := HLI.out (by omega)
      have c0 := hca i his 0 _ rfl
      rw [Addr.add_zero', Nat.mul_one] at c0
      replace c0 := (hbr.cell (lt_of_cell c0)).trans c0
      have hsl := HSL.out.get i his hil
      have hp0 := (HPS.out pss[i] (List.getElem_mem hil)).1
      obtain ⟨r, p, hrp⟩ : ∃ r p, pss[i] = r :: p := by
        cases e : pss[i] with
        | nil => exact absurd e hp0
        | cons r p => exact ⟨r, p, rfl⟩
      have hzi : (List.zipWith mkR sls pss).take (i + 1) = (List.zipWith mkR sls pss).take i ++ [mkR sls[i] pss[i]] := by
        rw [List.take_succ_eq_append_getElem (by simp; omega)]; simp
      rw [hrp] at hsl hzi
      obtain ⟨x, hx⟩ : ∃ x, x = sls[i]'his := ⟨_, rfl⟩
      rw [← hx] at c0 hsl hzi
      obtain ⟨xa, xn, xc⟩ := x
      obtain ⟨hs1, hs2, hs3, hs4⟩ := hsl
      simp only at c0 hs1 hs2
      obtain ⟨ad2, rfl, hab2, hca2⟩ := (hs2.lies (B := w1.heap.size) (fun b h => h.2)).seeK (by simp)
      obtain ⟨d1, _, _, _⟩ := hca2 0 (by simp)
      rw [show ad2.add (0 * 4) = ad2 from by rw [Nat.zero_mul, Addr.add_zero']] at d1
      simp only [List.getElem_cons_zero] at d1
      replace d1 := (hbr.cell (lt_of_cell d1)).trans d1
      obtain ⟨lo1, hlo1⟩ : ∃ lo1, lo1 = r.low := ⟨_, rfl⟩
      rw [← hlo1] at d1
      have hxn : 0 < xn := by rw [hs1]; simp
      have HZI := Lib.hid (show (List.zipWith mkR sls pss).take (i + 1) = (List.zipWith mkR sls pss).take i ++ [(⟨lo1, ⟨some ad2, xn, xc⟩, nilS, nilS⟩ : Nr)] from by rw [hzi, hlo1]; rfl)
      have hown := HO.out
      clear hs1 hs2 hs3 hs4 hca2 hca hx hlo1 hzi hrp hp0 HO
      go_wp2_with (at_builtin; refine append_nds _ rfl _ _ rfl w1.heap.size _ i _ rfl (hown.alloc _) (wr.heap.size + 1) (some ⟨wr.heap.size, 0, none⟩) 1 1 [(⟨lo1, ⟨some ad2, xn, xc⟩, nilS, nilS⟩ : Nr)] rfl rfl ?a1 (fun h => by cases h) ?a2 ?a3 ?_)
      case a1 => exact Lies.lit Nr.cells4 rfl
      case a2 => omega
      case a3 => first | omega | (simp; omega)
      intro v' w5 hown5 hg5
      have hb5 : Below w1.heap.size w1 w5 := (hbr.alloc hbs _).grown hg5 (by simp; omega) (fun k hk => (hown.lt k hk).1)
      have HO5 := Lib.hid (show w5.ownsRow w1.heap.size 30 4 v' (i + 1) (((List.zipWith mkR sls pss).take (i + 1)).flatMap Nr.cells) from by rw [HZI.out, List.flatMap_append]; exact hown5)
      clear hown hown5 hg5 HZI c0 d1
      go_wp2
      go_roundw
      case rel => exact ⟨i + 1, by first | rfl | go_num, by omega, HO5, hb5⟩
      case measure => simp [intOf]; omega
    · have hip2 : i = P := by omega
      subst hip2
      have hzl : (List.zipWith mkR sls pss).length = i := by simp; have := HSLL.out; have := HP.out; omega
      have HO1 := Lib.hid (show wr.ownsRow w1.heap.size 30 4 u5 i ((List.zipWith mkR sls pss).flatMap Nr.cells) from by
        have h1 := HO.out
        rw [List.take_of_length_le (by omega)] at h1
        exact h1)
      obtain ⟨A5, c5, rfl⟩ := own_shape HO1.out
      have hrv : RV wr (.slice A5 i c5) (List.zipWith mkR sls pss) := RV.own HO1.out hzl.symm
      have hlw := lows_v hrv (by omega)
      rw [HHD.out] at hlw
      have HW2 := Lib.hid (HW1.out.on hbr)
      have HZL := Lib.hid hzl
      clear hrv HO HW1 hzl
      go_wp2_with fail
      refine hlw.mono ?_
      clear hlw
      rintro e w3 ⟨v3, rfl, hs3, hb3⟩
      have HO3 := Lib.hid (own_below HO1.out hb3)
      have hb13 := hbr.trans (hb3.mono hbs)
      obtain ⟨S3, cs3, rfl, hst3⟩ := hs3
      obtain ⟨B', d', hBe, hBn, hBc, hBz⟩ := HW2.out.on hb3
      injection hBe with hB1 _ hB2
      subst hB1 hB2
      have hsp := psplit_own B d W S3 cs3 (kss.map lowHd) w3 hBn hBc hBz hst3 (by have := HNW.out; omega) (by have := HKF.out.2.2; simp; omega)
      rw [← HNW.out] at hsp
      have hml : (kss.map lowHd).length = i := by simp; exact HKF.out.2.2
      rw [hml] at hsp ⊢
      have HBS3 := Lib.hid hb13.size
      have HGL := Lib.hid (show ∀ g, A5 = some ⟨g, 0, none⟩ → g < w3.heap.size from fun g e => (HO3.out.lt g (by rw [e]; rfl)).2)
      clear hb3 hst3 hBn hBc hBz HO1 HW2 hml hbr hbs
      go_wp2_with fail
      refine hsp.mono ?_
      clear hsp
      rintro e w4 ⟨v4, rfl, ⟨vs4, h4o, h4p⟩, hb4⟩
      have hpl4 : (splitA W (kss.map lowHd)).length = i := by rw [HOP.out.2.2.2.2.2, split_len]; simp; exact HKF.out.2.2
      obtain ⟨A4, c4, nsl, rfl, hnsl, hnli, _⟩ := OwnX.all (T := 52) (T2 := 27) Nt.cells4 ⟨vs4, h4o, h4p⟩
      rw [hpl4]
      have HPL4 := Lib.hid hpl4
      have HNSL := Lib.hid hnsl
      have HNLI := Lib.hid hnli
      have HNL := Lib.hid (show nsl.length = i from by rw [hnsl.len, hpl4])
      have HO4 := Lib.hid (own_below HO3.out hb4)
      have hb14 := hb13.trans (hb4.mono hb13.size)
      have HB14 := Lib.hid hb14
      have HS34 := Lib.hid hb4.size
      clear h4o h4p hb4 hpl4 hnsl hnli hb13 hb14 HO3
      go_wp2
      go_loopw [32] (fun v32 wq => ∃ j : Nat, v32 = .int .i64 j ∧ j ≤ i ∧ Hid (wq.ownsRow w1.heap.size 30 4 (.slice A5 i c5) i (((List.zipWith notR (List.zipWith mkR sls pss) nsl).take j ++ (List.zipWith mkR sls pss).drop j).flatMap Nr.cells)) ∧ Hid (wq.heap.size = w4.heap.size ∧ ∀ p : Addr, (∀ g, A5 = some ⟨g, 0, none⟩ → p.block ≠ g) → wq.cell? p = w4.cell? p) ∧ Below w1.heap.size w1 wq) (fun v32 _ => (i - intOf v32).toNat)
      case atStart => exact ⟨0, rfl, by omega, by show World.ownsRow _ _ _ _ _ _ _; simpa using HO4.out, ⟨rfl, fun _ _ => rfl⟩, HB14.out⟩
      case round =>
        clear HO4
        obtain ⟨j, rfl, hji, HO, HC, hbq⟩ := hrel
        by_cases hlt : j < i
        · have hjs : j < nsl.length := by rw [HNL.out]; exact hlt
          obtain ⟨ad, rfl, hab, hca⟩ := HNLI.out (by omega)
          have c0 := hca j hjs 0 _ rfl
          rw [Addr.add_zero', Nat.mul_one] at c0
          obtain ⟨g, cur, hA5, hbg, hbx, hcur⟩ := row_box HO.out (by omega)
          subst hA5
          have hg3 := HGL.out g rfl
          have c1 : wr.cell? (ad.add j) = some (.slice nsl[j].a nsl[j].n nsl[j].c) := by
            rw [HC.out.2 (ad.add j) (fun g2 e2 => by
              injection e2 with e2
              injection e2 with e2
              subst e2
              rw [block_of_add]
              have := hab.1
              omega)]
            exact c0
          obtain ⟨x, hx⟩ : ∃ x, x = nsl[j]'hjs := ⟨_, rfl⟩
          rw [← hx] at c1
          have hjz : j < (List.zipWith mkR sls pss).length := by rw [HZL.out]; exact hlt
          have hTl : ((List.zipWith notR (List.zipWith mkR sls pss) nsl).take j).length = j := by simp; have := HZL.out; simp at this; omega
          have hdr : (List.zipWith mkR sls pss).drop j = (List.zipWith mkR sls pss)[j] :: (List.zipWith mkR sls pss).drop (j + 1) := List.drop_eq_getElem_cons hjz
          have hcell : ((((List.zipWith notR (List.zipWith mkR sls pss) nsl).take j ++ (List.zipWith mkR sls pss).drop j).flatMap Nr.cells))[j * 4 + 2]? = some (.slice none 0 0) := by
            rw [hdr, List.flatMap_append, List.getElem?_append_right (by rw [nrs_len, hTl]; omega), nrs_len, hTl, show j * 4 + 2 - j * 4 = 2 by omega]
            simp [mkR, Nr.cells, nilS]
          have k2 := Box.cell hbx (j * 4 + 2) (hcur _ _ hcell)
          have f2 := Box.free hbx (j * 4 + 2)
          have HST := Lib.hid (show (wr.setCell ⟨g, j * 4 + 2, none⟩ (.slice x.a x.n x.c)).ownsRow w1.heap.size 30 4 (.slice (some ⟨g, 0, none⟩) i c5) i (((List.zipWith notR (List.zipWith mkR sls pss) nsl).take (j + 1) ++ (List.zipWith mkR sls pss).drop (j + 1)).flatMap Nr.cells) from by
            have h1 := (HO.out.stored (j * 4 + 2) (.slice x.a x.n x.c)).1
            rw [hdr, set_row _ _ _ _ _ hTl.symm] at h1
            rw [List.take_succ_eq_append_getElem (show j < (List.zipWith notR (List.zipWith mkR sls pss) nsl).length by simp; simp at hjz; omega), List.append_assoc]
            simp only [List.getElem_zipWith, List.singleton_append] at h1 ⊢
            rw [← hx]; exact h1)
          have HC2 := Lib.hid (show (wr.setCell ⟨g, j * 4 + 2, none⟩ (.slice x.a x.n x.c)).heap.size = w4.heap.size ∧ ∀ p : Addr, (∀ g', (some ⟨g, 0, none⟩ : Option Addr) = some ⟨g', 0, none⟩ → p.block ≠ g') → (wr.setCell ⟨g, j * 4 + 2, none⟩ (.slice x.a x.n x.c)).cell? p = w4.cell? p from by
            refine ⟨by simp [HC.out.1], fun p hp => ?_⟩
            rw [← HC.out.2 p hp]
            simp only [World.cell?]
            rw [Below.heap_setCell _ _ _ _ (show p.block ≠ (⟨g, j * 4 + 2, none⟩ : Addr).block from hp g rfl)])
          have hb5 : Below w1.heap.size w1 (wr.setCell ⟨g, j * 4 + 2, none⟩ (.slice x.a x.n x.c)) := hbq.setCell hbg _
          obtain ⟨xa, xn, xc⟩ := x
          have HB5 := Lib.hid hb5
          clear hca hab hbx hcur hx hdr hTl hjz hcell hb5 hg3 HO HC c0
          go_wp2
          go_roundw
          case rel => exact ⟨j + 1, by first | rfl | go_num, by omega, HST, HC2, HB5.out⟩
          case measure => simp [intOf]; omega
        · have hji2 : j = i := by omega
          subst hji2
          clear hlt
          go_wp2
          go_ret
          have hzl2 := HZL.out
          have hnl := HNL.out
          have h1 := HO.out
          rw [List.take_of_length_le (by simp at hzl2 ⊢; omega), List.drop_of_length_le (by omega), List.append_nil] at h1
          have hbf := HB1.out.trans (hbq.mono HB1.out.size)
          refine ⟨_, kss, rfl, ?_, HKF.out.1, HKF.out.2.1, by rw [HKF.out.2.2, HPL.out]; have := HLEN.out; have := HN1.out; omega, hbf⟩
          obtain ⟨s', e', hs'⟩ := sl_own Nr.cells4 h1 (by simp at hzl2 ⊢; omega)
          refine ⟨s', _, e', hs'.mono fun b hb => .inr ⟨by have := HB1.out.size; omega, hb.2⟩, ?_⟩
          unfold overN
          have hS1 : ∀ b, (w.heap.size ≤ b ∧ b < w1.heap.size) → Gr S w wr b := fun b hb => .inr ⟨hb.1, by have := hbq.size; omega⟩
          refine over_all (HSL.out.imp fun s p hx => ?_) (HKK.out.imp fun p k hx => ?_) (HNSL.out.imp fun s p hx => ?_) (by rw [HPL4.out, HKF.out.2.2])
          · exact (hx.keep fun q hq => hbq.cell hq.2).mono hS1
          · exact (NodesR.keep hx fun q hq => hbq.cell (by have := HU.out _ hq; have := HB1.out.size; omega)).mono gr_in
          · refine (hx.keep (w' := wr) fun q hq => HC.out.2 q fun g hg => ?_).mono fun b hb => .inr ⟨?_, by rw [HC.out.1]; exact hb.2⟩
            · have := HGL.out g hg; omega
            · have := HBS3.out; have := HB1.out.size; omega

theorem over_v {h : Nat} {lo : ByteArray} {hi : Option ByteArray} {v u : Value} {ks : List (ByteArray × TrH h)} {W : List Nt} {w : World} {S : Nat → Prop} (hS : Und w S) (hV : TsV h w S v ks) (hB : NV w u W) (hL : Lv h lo hi ks W) (h6 : W.length ≤ 6) (hmax : ks.length ≤ 100000) :
    Calls Try.prog 42 #[v, u] w fun e w' => ∃ v' N, e = .returned v' ∧ TsV (h + 1) w' (Gr S w w') v' N ∧ okK (okN (h + 1)) hi N ∧ kp (h + 1) N = foldOne (kp h ks) W ∧ szK (h + 1) N = szK h ks + W.length ∧ N.length = (ks.length + 3) / 4 ∧ (∀ k r, ks = k :: r → ∃ x r', N = (k.1, x) :: r') ∧ Below w.heap.size w w' := by
  obtain ⟨⟨A1, n1, c1⟩, rs, rfl, hR, hN⟩ := hV
  obtain ⟨B, d, rfl, hB2⟩ := hB
  refine (over_any h lo hi A1 n1 c1 rs ks B d W w S hS hR hN ⟨B, d, rfl, hB2⟩ hL h6 hmax).mono ?_
  rintro e w' ⟨v', kss, rfl, ht, hf, h4, hkl, hb⟩
  obtain ⟨o1, o2, o3, o4, o5, o6⟩ := over_plain hL h6 hf h4
  have hnl : (overN h kss W).length = kss.length := by have := congrArg List.length o2; simpa using this
  refine ⟨v', _, rfl, ht, o1, o3, o4, by rw [hnl, hkl], fun k r e => ?_, hb⟩
  have h5 := head_flat hf (fun p hp => (h4 p hp).1) hi
  rw [e] at h5
  cases kss with
  | nil => rw [e] at hf; cases hf
  | cons p q =>
    simp only [nextLo, hdLo] at h5
    injection h5 with h5
    cases en : overN h (p :: q) W with
    | nil => rw [en] at hnl; cases hnl
    | cons y r' =>
      rw [en] at o2
      have h6 : y.1 = lowHd p := by
        have := congrArg List.head? o2
        simpa using this
      exact ⟨y.2, r', by rw [h5, ← h6]⟩

end Go.Proofs.Yteddjmkoleclpaa

namespace Go.Proofs.Yteddjmkoleclpaa
open Go.RowKit

def lowP : List Pr → ByteArray
  | [] => noB
  | p :: _ => p.k
def leafK (p : List Pr) : ByteArray × TrH 0 := (lowP p, p)
def mkL (s : Sl) (p : List Pr) : Nr := ⟨lowP p, nilS, nilS, s⟩
theorem wellL_sub {a b : List Pr} (h : wellL b = true) (hs : a.Sublist b) : wellL a = true := well_of (List.Pairwise.sublist hs (well_sorted h)) fun p hp => well_fits h p (hs.subset hp)
/-- Leaves side by side. -/
theorem leaves_ok {hi : Option ByteArray} : ∀ {pss : List (List Pr)}, wellL pss.flatten = true → (∀ p ∈ pss.flatten, belowH hi p.k = true) → (∀ p ∈ pss, 0 < p.length ∧ p.length ≤ 4) → okK (okN 0) hi (pss.map leafK)
  | [], _, _, _ => trivial
  | p :: pss, hw, hb, hp => by
    have hs := well_sorted hw
    rw [List.flatten_cons] at hw hb hs
    obtain ⟨h1, h2, h3⟩ := List.pairwise_append.1 hs
    refine ⟨⟨wellL_sub hw (List.sublist_append_left _ _), (hp p List.mem_cons_self).1, (hp p List.mem_cons_self).2, fun x hx => ?_⟩, leaves_ok (wellL_sub hw (List.sublist_append_right _ _)) (fun x hx => hb x (List.mem_append_right _ hx)) fun q hq => hp q (List.mem_cons_of_mem _ hq)⟩
    have hx : x ∈ p := hx
    refine inLow_iff.2 ⟨?_, ?_⟩
    · show ¬ x.k < lowP p
      cases p with
      | nil => cases hx
      | cons y r =>
        rcases List.mem_cons.1 hx with rfl | hx
        · show ¬ x.k < x.k; grind
        · have h4 := (List.pairwise_cons.1 h1).1 x hx
          show ¬ x.k < y.k
          grind
    · cases pss with
      | nil => exact hb x (List.mem_append_left _ hx)
      | cons q qs =>
        have hq := (hp q (by simp)).1
        cases q with
        | nil => simp at hq
        | cons y r => exact decide_eq_true (h3 x hx y (by simp))
theorem leaves_kp (pss : List (List Pr)) : kp 0 (pss.map leafK) = pss.flatten := by
  induction pss with
  | nil => rfl
  | cons p pss ih =>
    show p ++ kp 0 (pss.map leafK) = p ++ pss.flatten
    rw [ih]
theorem leaves_sz (pss : List (List Pr)) : szK 0 (pss.map leafK) = pss.flatten.length := by
  induction pss with
  | nil => rfl
  | cons p pss ih =>
    show List.length (α := Pr) p + szK 0 (pss.map leafK) = (p ++ pss.flatten).length
    rw [ih, List.length_append]
/-- What a leaf becomes. -/
theorem filled_plain {lo : ByteArray} {hi : Option ByteArray} {ps : List Pr} {ns : List Nt} (hw : wellL ps = true) (hin : ∀ p ∈ ps, inLow lo hi p.k = true) (hr : ns.all rightN = true) (hn : ∀ n ∈ ns, inLow lo hi n.key = true) :
    okK (okN 0) hi ((shareL (foldOne ps ns) 4).map leafK) ∧ TkR 0 lo hi (lowK 0 lo ((shareL (foldOne ps ns) 4).map leafK)) (foldOne ps ns) (ps.length + ns.length) := by
  obtain ⟨L, hL⟩ : ∃ L, L = foldOne ps ns := ⟨_, rfl⟩
  have hLw : wellL L = true := by rw [hL]; exact well_fold hw (List.all_eq_true.1 hr)
  have hLin : ∀ p ∈ L, inLow lo hi p.k = true := fun p hp => by
    rw [hL] at hp
    rcases mem_keys hp (well_sorted hw) with ⟨q, hq, e⟩ | ⟨n, hq, e⟩
    · rw [← e]; exact hin q hq
    · rw [← e]; exact hn n hq
  have hfl : (shareL L 4).flatten = L := flat_share (by omega)
  rw [← hL]
  have h1 : okK (okN 0) hi ((shareL L 4).map leafK) := leaves_ok (by rw [hfl]; exact hLw) (fun p hp => by rw [hfl] at hp; exact (inLow_iff.1 (hLin p hp)).2) (share_four L)
  refine ⟨h1, okK_low h1 fun k r e => ?_, ?_, by rw [kp_low, leaves_kp, hfl], by rw [szK_low, leaves_sz, hfl, hL]; exact len_fold _ _⟩
  · cases e2 : shareL L 4 with
    | nil => rw [e2] at e; cases e
    | cons p q =>
      rw [e2] at e
      have hp := (share_four L p (by rw [e2]; simp)).1
      cases p with
      | nil => simp at hp
      | cons x p =>
        have e3 : k = leafK (x :: p) := by injection e with e; exact e.symm
        rw [e3]
        exact (inLow_iff.1 (hLin x (by rw [← hfl, e2]; simp))).1
  · cases (shareL L 4).map leafK with
    | nil => exact .inl rfl
    | cons k r => exact .inr ⟨_, _, rfl⟩
theorem leaves_all {w : World} {S : Nat → Prop} : ∀ {sls : List Sl} {pss : List (List Pr)}, AllN (fun s p => SlB Pr.cells 2 w S s p) sls pss → NodesR 0 w S (List.zipWith mkL sls pss) (pss.map leafK)
  | [], [], _ => trivial
  | _ :: _, _ :: _, h => ⟨⟨rfl, rfl, rfl, h.1⟩, leaves_all h.2⟩

set_option maxHeartbeats 4000000 in
set_option maxRecDepth 100000 in
theorem filled_any (r : Nr) (lo : ByteArray) (hi : Option ByteArray) (ps : List Pr) (u : Value) (ns : List Nt) (w : World) (S : Nat → Prop) (hS : Und w S) (hN : NodeB 0 w S r lo ps) (hB : NV w u ns) (hw : wellL ps = true) (hin : ∀ p ∈ ps, inLow lo hi p.k = true) (hr : ns.all rightN = true) (hn : ∀ n ∈ ns, inLow lo hi n.key = true) (hmax : ps.length + ns.length ≤ 100000) :
    Calls Try.prog 44 #[r.v, u] w fun e w' => ∃ v' ks, e = .returned v' ∧ TsV 0 w' (Gr S w w') v' ks ∧ TkR 0 lo hi ks (foldOne ps ns) (ps.length + ns.length) ∧ Below w.heap.size w w' := by
  obtain ⟨i0, hi0, hz0, hz1, hz2⟩ := info_parts node_info
  have hpl := filled_plain hw hin hr hn
  have hLb : (foldOne ps ns).length ≤ 100000 := Nat.le_trans (len_fold _ _) hmax
  have hap : ∀ (wx : World) (v : Value), PV wx v ps → NV wx u ns → Calls Try.prog 56 #[v, u] wx fun e w' => ∃ v', e = .returned (.tuple #[v', .int .i64 0]) ∧ PV w' v' (foldOne ps ns) ∧ Below wx.heap.size wx w' := fun wx v h g => by
    have h1 := apply_v h g (by omega)
    have e1 : applyL ps ns = foldOne ps ns ∧ applyE ps ns = 0 := by unfold applyL applyE; rw [hw, hr]; exact ⟨rfl, rfl⟩
    rw [e1.1, e1.2] at h1
    exact h1
  obtain ⟨lo', ⟨ka, kn, kc⟩, ⟨na, nn, nc⟩, ⟨pa, pn, pc⟩⟩ := r
  obtain ⟨h1, h2, h3, h4⟩ := hN
  simp only at h1 h2 h3 h4
  subst h1
  injection h2 with e1 e2 e3
  injection h3 with e4 e5 e6
  subst e1 e2 e3 e4 e5 e6
  show Calls Try.prog 44 #[.agg #[.string lo', .slice none 0 0, .slice none 0 0, .slice pa pn pc], u] w fun e w' => ∃ v' ks, e = .returned v' ∧ TsV 0 w' (Gr S w w') v' ks ∧ TkR 0 lo' hi ks (foldOne ps ns) (ps.length + ns.length) ∧ Below w.heap.size w w'
  obtain ⟨L, hL⟩ : ∃ L, L = foldOne ps ns := ⟨_, rfl⟩
  rw [← hL] at hpl hLb hap ⊢
  obtain ⟨g, hg⟩ : ∃ g, g = w.heap.size := ⟨_, rfl⟩
  obtain ⟨w0, hw0⟩ : ∃ w0, w0 = w.alloc (.cells #[.string lo', .slice none 0 0, .slice none 0 0, .slice pa pn pc] 30) := ⟨_, rfl⟩
  have hb0 : Below w.heap.size w w0 := by rw [hw0]; exact (Below.refl _ _).alloc (Nat.le_refl _) _
  have BX := Lib.hid (show NdB w0 g ⟨lo', nilS, nilS, ⟨pa, pn, pc⟩⟩ from by rw [hw0]; exact Box.at_ w _ _ hg)
  have HA0 := Lib.hid (show PV w0 (.slice pa pn pc) ps ∧ NV w0 u ns from ⟨(h4.pv hS).on hb0, hB.on hb0⟩)
  have HB0 := Lib.hid hb0
  have HU := Lib.hid hS
  have HPL := Lib.hid hpl
  have HLB := Lib.hid hLb
  have HAP := Lib.hid hap
  have HG0 := Lib.hid (show g < w0.heap.size from Box.lt BX.out)
  clear h4 hS hB hw hin hr hn hmax hpl hLb hap hL hb0
  go_enter Try.func44, Try.ntmps44
  go_upto_region 1 with fail
  rw [← hg, ← hw0]
  clear hg hw0
  obtain ⟨b0, b1, b2, b3⟩ := NdB.cells BX.out
  simp only at b0 b3
  have hc0 := HAP.out w0 _ HA0.out.1 HA0.out.2
  go_wp2_with fail
  refine hc0.mono ?_
  clear hc0 b0 b1 b2 b3
  rintro e w1 ⟨v1, rfl, hv1, hb1⟩
  have BX1 := Lib.hid (BX.out.on hb1)
  have HB1 := Lib.hid (HB0.out.trans (hb1.mono HB0.out.size))
  have HG1 := Lib.hid (show g < w1.heap.size from Box.lt BX1.out)
  obtain ⟨LA, Lc, rfl, hl1, hl2, hl3⟩ := hv1
  have hsh := share_own LA Lc L 4 w1 hl1 hl2 hl3 (by have := HLB.out; omega) (by omega)
  clear hb1 hl1 hl2 hl3 BX HB0 HG0
  go_wp2_with fail
  refine hsh.mono ?_
  clear hsh
  rintro e w2 ⟨v2, rfl, ⟨vs2, h2o, h2p⟩, hb2⟩
  obtain ⟨A2, c2, sls, rfl, hsl, hli, _⟩ := OwnX.all (T := 44) (T2 := 28) Pr.cells2 ⟨vs2, h2o, h2p⟩
  obtain ⟨P, hP⟩ : ∃ P, P = (shareL L 4).length := ⟨_, rfl⟩
  rw [← hP]
  have hP2 : P ≤ 100000 := by
    have h5 : ∀ pss : List (List Pr), (∀ p ∈ pss, 0 < p.length) → pss.length ≤ pss.flatten.length := by
      intro pss
      induction pss with
      | nil => intro _; simp
      | cons p pss ih =>
        intro h
        have h1 := ih fun q hq => h q (List.mem_cons_of_mem _ hq)
        have h2 := h p List.mem_cons_self
        rw [List.length_cons, List.flatten_cons, List.length_append]
        omega
    have h6 := h5 (shareL L 4) fun p hp => (share_four L p hp).1
    rw [flat_share (by omega)] at h6
    have := HLB.out
    omega
  have BX2 := Lib.hid (BX1.out.on hb2)
  have HB2 := Lib.hid (HB1.out.trans (hb2.mono HB1.out.size))
  have HG2 := Lib.hid (show g < w2.heap.size from Box.lt BX2.out)
  have HS12 := Lib.hid (And.intro HB1.out.size hb2.size)
  have HSL := Lib.hid hsl
  have HLI := Lib.hid hli
  have HPE := Lib.hid hP
  have HSLL := Lib.hid (show sls.length = P from by rw [hP]; exact hsl.len)
  have HF4 := Lib.hid (share_four L)
  clear h2o h2p hb2 hsl hli hP BX1 HB1
  go_wp2
  go_loopw [7, 20] (fun v7 v20 wr => ∃ i : Nat, v20 = .int .i64 i ∧ i ≤ P ∧ Hid (wr.ownsRow w2.heap.size 30 4 v7 i (((List.zipWith mkL sls (shareL L 4)).take i).flatMap Nr.cells)) ∧ Below w2.heap.size w2 wr) (fun _ v20 _ => (P - intOf v20).toNat)
  case atStart => exact ⟨0, rfl, by omega, by show World.ownsRow _ _ _ _ _ _ _; exact World.ownsRow_nil _ _ _ _, Below.refl _ _⟩
  case round =>
    obtain ⟨i, rfl, hip, HO, hbr⟩ := hrel
    have hbs := hbr.size
    by_cases hlt : i < P
    · have his : i < sls.length := by rw [HSLL.out]; exact hlt
      have hil : i < (shareL L 4).length := by rw [← HPE.out]; exact hlt
      obtain ⟨ad, rfl, hab, hca⟩ := HLI.out (by omega)
      have c0 := hca i his 0 _ rfl
      rw [Addr.add_zero', Nat.mul_one] at c0
      replace c0 := (hbr.cell (lt_of_cell c0)).trans c0
      have hsl := HSL.out.get i his hil
      have hp0 := (HF4.out (shareL L 4)[i] (List.getElem_mem hil)).1
      obtain ⟨r, p, hrp⟩ : ∃ r p, (shareL L 4)[i] = r :: p := by
        cases e : (shareL L 4)[i] with
        | nil => rw [e] at hp0; simp at hp0
        | cons r p => exact ⟨r, p, rfl⟩
      have hzi : (List.zipWith mkL sls (shareL L 4)).take (i + 1) = (List.zipWith mkL sls (shareL L 4)).take i ++ [mkL sls[i] (shareL L 4)[i]] := by
        rw [List.take_succ_eq_append_getElem (by simp; omega)]; simp
      rw [hrp] at hsl hzi
      obtain ⟨x, hx⟩ : ∃ x, x = sls[i]'his := ⟨_, rfl⟩
      rw [← hx] at c0 hsl hzi
      obtain ⟨xa, xn, xc⟩ := x
      obtain ⟨hs1, hs2, hs3, hs4⟩ := hsl
      simp only at c0 hs1 hs2
      obtain ⟨ad2, rfl, hab2, hca2⟩ := (hs2.lies (B := w2.heap.size) (fun b h => h.2)).seeP (by simp)
      obtain ⟨d1, _⟩ := hca2 0 (by simp)
      rw [show ad2.add (0 * 2) = ad2 from by rw [Nat.zero_mul, Addr.add_zero']] at d1
      simp only [List.getElem_cons_zero] at d1
      replace d1 := (hbr.cell (lt_of_cell d1)).trans d1
      obtain ⟨lo1, hlo1⟩ : ∃ lo1, lo1 = r.k := ⟨_, rfl⟩
      rw [← hlo1] at d1
      have hxn : 0 < xn := by rw [hs1]; simp
      have HZI := Lib.hid (show (List.zipWith mkL sls (shareL L 4)).take (i + 1) = (List.zipWith mkL sls (shareL L 4)).take i ++ [(⟨lo1, nilS, nilS, ⟨some ad2, xn, xc⟩⟩ : Nr)] from by rw [hzi, hlo1]; rfl)
      have hown := HO.out
      clear hs1 hs2 hs3 hs4 hca2 hca hx hlo1 hzi hrp hp0 HO
      go_wp2_with (at_builtin; refine append_nds _ rfl _ _ rfl w2.heap.size _ i _ rfl (hown.alloc _) (wr.heap.size + 1) (some ⟨wr.heap.size, 0, none⟩) 1 1 [(⟨lo1, nilS, nilS, ⟨some ad2, xn, xc⟩⟩ : Nr)] rfl rfl ?a1 (fun h => by cases h) ?a2 ?a3 ?_)
      case a1 => exact Lies.lit Nr.cells4 rfl
      case a2 => omega
      case a3 => first | omega | (simp; omega)
      intro v' w5 hown5 hg5
      have hb5 : Below w2.heap.size w2 w5 := (hbr.alloc hbs _).grown hg5 (by simp; omega) (fun k hk => (hown.lt k hk).1)
      have HO5 := Lib.hid (show w5.ownsRow w2.heap.size 30 4 v' (i + 1) (((List.zipWith mkL sls (shareL L 4)).take (i + 1)).flatMap Nr.cells) from by rw [HZI.out, List.flatMap_append]; exact hown5)
      clear hown hown5 hg5 HZI c0 d1
      go_wp2
      go_roundw
      case rel => exact ⟨i + 1, by first | rfl | go_num, by omega, HO5, hb5⟩
      case measure => simp [intOf]; omega
    · have hip2 : i = P := by omega
      have hzl : (List.zipWith mkL sls (shareL L 4)).length = i := by simp; have := HSLL.out; have := HPE.out; omega
      have hown := HO.out
      rw [List.take_of_length_le (by omega)] at hown
      obtain ⟨s', e', hs'⟩ := sl_own Nr.cells4 hown hzl.symm
      have hbw := HB2.out.trans (hbr.mono HB2.out.size)
      have hts : TsV 0 wr (Gr S w wr) u7 ((shareL L 4).map leafK) := by
        refine ⟨s', _, e', hs'.mono fun b hb => .inr ⟨by have := HB2.out.size; omega, hb.2⟩, ?_⟩
        refine NodesR.mono (S := fun b => w1.heap.size ≤ b ∧ b < w2.heap.size) (leaves_all (HSL.out.imp fun s p hx => hx.keep fun q hq => hbr.cell hq.2)) fun b hb => .inr ⟨by have := HS12.out.1; omega, by omega⟩
      have hbg := begun_v 0 lo' (HU.out.gr (w' := wr) hbw.size) hts HPL.out.1 (by rw [List.length_map, ← HPE.out]; exact hP2)
      have BX3 := Lib.hid (show NdB wr g ⟨lo', nilS, nilS, ⟨pa, pn, pc⟩⟩ from Box.below (B := w2.heap.size) BX2.out hbr HG2.out)
      obtain ⟨b0, b1, b2, b3⟩ := NdB.cells BX3.out
      simp only at b0
      have HBW := Lib.hid hbw
      clear hown hs' e' hts hbw hzl hip2 HO b1 b2 b3
      go_wp2_with fail
      refine hbg.mono ?_
      clear hbg b0
      rintro e w9 ⟨v9, rfl, ht9, hb9⟩
      have HT9 := Lib.hid ht9
      clear ht9
      go_wp2
      go_ret
      have hs9 := hb9.size
      exact ⟨_, _, rfl, HT9.out.mono fun b hb => gr_trans HBW.out.size b hb hs9, HPL.out.2, HBW.out.trans (hb9.mono HBW.out.size)⟩

end Go.Proofs.Yteddjmkoleclpaa
