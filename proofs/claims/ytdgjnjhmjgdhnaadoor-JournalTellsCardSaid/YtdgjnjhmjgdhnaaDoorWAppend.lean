/- The walks of chain, Texts and Append. -/
import Derived.Test.YtdgjnjhmjgdhnaaDoorWParse
import Derived.Test.YtdgjnjhmjgdhnaaDoorWPieces
import Derived.Test.YtdgjnjhmjgdhnaaDoorWNone
import Derived.Laws.AppendOwnNone
namespace Go.Proofs.YtdgjnjhmjgdhnaaDoor
open Go.RowKit

theorem strs_one' (ss : List ByteArray) : ∀ u ∈ ss.map Value.string, u.oneCell' = true := by
  intro u hu
  obtain ⟨x, _, rfl⟩ := List.mem_map.1 hu
  rfl
/-- 'append(v, x...)', v a row of strings of the call's own, x whatever slice of strings: more strings are owned. -/
theorem append_strs (w : World) {ops : Array Oper} {rest : List Oper} {o : Oper} {a : Act} {Q : Exit → Act → World → Prop} (hgd : o.guard = none) (s x : Operand)
    (ho : o.op = .call { callee := .builtin .append, args := #[s, x], argTypes := #[22, 22] })
    (base : Nat) (v : Value) (n : Nat) (xs : List Value) (hs : a.eval s = v) (hown : w.ownsRow base 9 1 v n xs)
    (B : Nat) (A : Option Addr) (m c : Nat) (ss : List ByteArray) (hx : a.eval x = .slice A m c) (hm : ss.length = m) (hr : Strs w B A ss) (hA : A = none → c = 0) (hn : n + m ≤ 1000000) (hbase : base ≤ w.heap.size)
    (h : ∀ v' w', w'.ownsRow base 9 1 v' (n + m) (xs ++ ss.map Value.string) → w.grownBy w' v.ownBlock → wpList Tryd.prog ops Q rest (a.put o.dst v') w') : wpList Tryd.prog ops Q (o :: rest) a w := by
  obtain ⟨i0, hi0, hz0, hz1, hz2⟩ := info_parts str_info
  rcases A with _ | ad
  · obtain rfl := hA rfl
    have h0 : ss = [] := by
      rcases ss with _ | ⟨t, l⟩
      · rfl
      · obtain ⟨_, e, _⟩ := hr (by simp)
        cases e
    subst h0
    obtain rfl : m = 0 := hm.symm
    exact wpList_append_own_none hgd s x 22 ho base 9 i0 1 Tryd.underlying22 hi0 v n xs hs hown hx (h v w (by simpa using hown) (World.grownBy.refl w _))
  · exact wpList_append_own w hgd s x 22 ho base 9 i0 (.string ⟨#[]⟩) 1 16 Tryd.underlying22 hi0 hz0 hz1 hz2 rfl (by decide) v n xs hs hown ad m c (ss.map Value.string) hx (by simp [hm]) (strs_cells hr) (strs_one' ss) (by unfold maxLen; omega) (by omega) hbase (fun v' w' h1 h2 _ => h v' w' h1 h2)

/-! The pieces of several records. -/
def gpB (g a : Int) : Bool := genB g && plcB a
def chE (g a : Int) (ts : List ByteArray) : Int := if gpB g a then (if a + needs ts ≤ 128 then 0 else 6) else 1
theorem gp_parts {g a : Int} (h : gpB g a = true) : ∃ (p q : Nat), g = p ∧ 1 ≤ p ∧ p ≤ 2147483647 ∧ a = q ∧ q ≤ 128 := by
  unfold gpB at h
  rw [Bool.and_eq_true] at h
  obtain ⟨p, h1, h2, h3⟩ := gen_parts h.1
  obtain ⟨q, h4, h5⟩ := plc_parts h.2
  exact ⟨p, q, h1, h2, h3, h4, h5⟩
theorem gp_of {p q : Nat} (h2 : 1 ≤ p) (h3 : p ≤ 2147483647) (h5 : q ≤ 128) : gpB p q = true := by
  unfold gpB
  rw [gen_of h2 h3, plc_of h5]
  rfl

set_option maxHeartbeats 4000000 in
set_option maxRecDepth 100000 in
theorem chain_bad (g a : Int) (A : Option Addr) (n c : Nat) (w : World) (h : gpB g a = false) :
    Calls Tryd.prog 40 #[.int .i64 g, .int .i64 a, .slice A n c] w fun e w' => e = .returned (.tuple #[.slice none 0 0, .int .i64 1]) ∧ Below w.heap.size w w' := by
  unfold gpB at h
  have hrg := rgen_any g w
  have hpl := rplc_any a w
  cases hG : genB g with
  | false =>
    rw [hG] at hrg
    clear h hG
    go_enter Tryd.func40, Tryd.ntmps40
    go_wp2_with fail
    refine hrg.mono ?_
    rintro e w1 ⟨rfl, rfl⟩
    go_wp2
    go_ret2
    exact ⟨rfl, Below.refl _ _⟩
  | true =>
    rw [hG] at hrg h
    have hP : plcB a = false := by simpa using h
    rw [hP] at hpl
    clear h hG hP
    go_enter Tryd.func40, Tryd.ntmps40
    go_wp2_with fail
    refine hrg.mono ?_
    rintro e w1 ⟨rfl, rfl⟩
    go_wp2_with fail
    refine hpl.mono ?_
    rintro e w1 ⟨rfl, rfl⟩
    go_wp2
    go_ret2
    exact ⟨rfl, Below.refl _ _⟩

set_option maxHeartbeats 4000000 in
set_option maxRecDepth 100000 in
theorem chain_right (g a : Nat) (A : Option Addr) (c : Nat) (ts : List ByteArray) (w : World) (hA : Strs w w.heap.size A ts) (hn : ts.length ≤ 65535) (hs : ∀ x ∈ ts, x.size ≤ 1000) (hg : 1 ≤ g) (hg2 : g ≤ 2147483647) (ha : a ≤ 128) :
    Calls Tryd.prog 40 #[.int .i64 g, .int .i64 a, .slice A ts.length c] w fun e w' => ((∃ v', e = .returned (.tuple #[v', .int .i64 0]) ∧ RowV w' v' (chainL g a ts) ∧ a + needs ts ≤ 128) ∨ (e = .returned (.tuple #[.slice none 0 0, .int .i64 6]) ∧ 128 < a + needs ts)) ∧ Below w.heap.size w w' := by
  have hrg := rgen_any g w
  rw [gen_of hg hg2] at hrg
  have hpl := rplc_any a w
  rw [plc_of ha] at hpl
  have HA := Lib.hid hA
  have HS := Lib.hid hs
  have HMO := Lib.hid (fun k => needs_mono ts k)
  have HTK := Lib.hid (fun k x (h : ts[k]? = some x) => show needs (ts.take (k + 1)) = needs (ts.take k) + needJ x.size by
    obtain ⟨h1, rfl⟩ := List.getElem?_eq_some_iff.1 h
    exact needs_take ts k h1)
  have HCT := Lib.hid (fun k x (h : ts[k]? = some x) => show chainL g a (ts.take (k + 1)) = chainL g a (ts.take k) ++ recL g (a + needs (ts.take k)) x.data.toList by
    obtain ⟨h1, rfl⟩ := List.getElem?_eq_some_iff.1 h
    exact chain_take g a ts k h1)
  have HCL := Lib.hid (fun k => chain_len g a (ts.take k))
  have HWH := Lib.hid (List.take_length (l := ts))
  generalize hl : ts.length = n at *
  have HL := Lib.hid hl
  clear hA hs hl
  go_enter Tryd.func40, Tryd.ntmps40
  go_wp2_with fail
  refine hrg.mono ?_
  rintro e w1 ⟨rfl, rfl⟩
  go_wp2_with fail
  refine hpl.mono ?_
  rintro e w1 ⟨rfl, rfl⟩
  clear hrg hpl
  go_wp2
  go_loopw [8, 23] (fun t i wr => ∃ k m : Nat, i = .int .i64 k ∧ k ≤ n ∧ m = needs (ts.take k) ∧ a + m ≤ 128 ∧ wr.ownsRow w.heap.size 9 1 t m ((chainL g a (ts.take k)).map Value.string) ∧ Below w.heap.size w wr) (fun _ i _ => (n - intOf i).toNat)
  case atStart => exact ⟨0, 0, rfl, by omega, rfl, by omega, World.ownsRow_nil _ _ _ _, Below.refl _ _⟩
  case round =>
    obtain ⟨k, m, rfl, hk, hm, hle, hown, hbr⟩ := hrel
    have HM := Lib.hid hm
    clear hm
    by_cases hlt : k < n
    · obtain ⟨a1, rfl, hab, hca⟩ := (HA.out.below hbr) (by rw [HL.out]; omega)
      have c1 := hca k (by rw [HL.out]; omega)
      have hm2 := HS.out _ (List.getElem_mem (by rw [HL.out]; omega : k < ts.length))
      have hgx := List.getElem?_eq_getElem (l := ts) (i := k) (by rw [HL.out]; omega)
      have hmo := HMO.out (k + 1)
      obtain ⟨x, hx⟩ : ∃ x, x = ts[k]'(by rw [HL.out]; omega) := ⟨_, rfl⟩
      rw [← hx] at c1 hm2 hgx
      have htk := HTK.out k x hgx
      have hct := HCT.out k x hgx
      rw [← HM.out] at htk hct
      rw [htk] at hmo
      have HTK1 := Lib.hid htk
      have HCT1 := Lib.hid hct
      have HB := Lib.hid hbr
      have HO := Lib.hid hown
      obtain ⟨A2, c2, rfl⟩ := own_shape hown
      clear hx hca htk hct hbr hown hgx
      by_cases hfit : a + m + needJ x.size ≤ 128
      · have hpc : ∀ wx : World, Calls Tryd.prog 11 #[.int .i64 g, .int .i64 ((a : Int) + m), .string x] wx fun e w' => ∃ v', e = .returned (.tuple #[v', .int .i64 0]) ∧ RowV w' v' (recL g (a + m) x.data.toList) ∧ Below wx.heap.size wx w' := fun wx => pieces_ok g (a + m) x wx hg hg2 (by omega) hm2 hfit
        have hrl := rec_len' g (a + m) x
        have hpos := needJ_pos x.size
        have HPC := Lib.hid hpc
        obtain ⟨P, hP⟩ : ∃ P, P = recL g (a + m) x.data.toList := ⟨_, rfl⟩
        rw [← hP] at HPC HCT1 hrl
        generalize needJ x.size = z at *
        have HRL := Lib.hid hrl
        clear hpc hP hrl
        go_wp2_with fail
        refine (HPC.out _).mono ?_
        rintro e w2 ⟨v2, rfl, ⟨A3, c3, rfl, hs3, hc3⟩, hb2⟩
        rw [HRL.out] at hc3 ⊢
        obtain ⟨hzc, g3, rfl⟩ := hc3 hpos
        have HB2 := Lib.hid (HB.out.trans (hb2.mono HB.out.size))
        have hown := own_below HO.out hb2
        have HS3 := Lib.hid hs3
        clear hb2 hs3 hc3
        go_wp2_with (at_builtin; refine append_strs _ rfl _ _ rfl w.heap.size _ m _ rfl hown w2.heap.size (some ⟨g3, 0, none⟩) z c3 P rfl HRL.out HS3.out (fun h => by cases h) (by omega) HB2.out.size ?_)
        intro v' w3 hown3 hg3
        have HB3 := Lib.hid (show Below w.heap.size w w3 from HB2.out.grown hg3 HB2.out.size (fun k hk => (hown.lt k hk).1))
        have HO3 := Lib.hid hown3
        clear hown hown3 hg3
        go_wp2
        go_roundw
        case rel =>
          refine ⟨k + 1, m + z, by go_num, by omega, HTK1.out.symm, by omega, ?_, HB3.out⟩
          have h := HO3.out
          rw [HCT1.out, List.map_append]
          exact h
        case measure => simp [intOf]; omega
      · have hpc : ∀ wx : World, Calls Tryd.prog 11 #[.int .i64 g, .int .i64 ((a : Int) + m), .string x] wx fun e w' => e = .returned (.tuple #[.slice none 0 0, .int .i64 6]) ∧ Below wx.heap.size wx w' := fun wx => pieces_full g (a + m) x wx hg hg2 (by omega) hm2 (by omega)
        have HPC := Lib.hid hpc
        have HNF := Lib.hid (show 128 < a + needs ts by omega)
        clear hpc
        go_wp2_with fail
        refine (HPC.out _).mono ?_
        rintro e w2 ⟨rfl, hb2⟩
        have HB2 := Lib.hid (HB.out.trans (hb2.mono HB.out.size))
        clear hb2
        go_wp2
        go_ret2
        exact ⟨.inr ⟨rfl, HNF.out⟩, HB2.out⟩
    · obtain rfl : k = n := by omega
      rw [HWH.out] at hown
      have HM2 := HM.out
      rw [HWH.out] at HM2
      have HNF := Lib.hid (show a + needs ts ≤ 128 by rw [← HM2]; exact hle)
      obtain ⟨A2, c2, rfl⟩ := own_shape hown
      have HV := Lib.hid (show RowV wr (.slice A2 m c2) (chainL g a ts) by
        have h1 := hown
        have h2 := chain_len g a ts
        rw [← HM2] at h2
        rw [← h2] at h1 ⊢
        exact RowV.own h1)
      clear hown HM2
      go_wp2
      go_ret2
      exact ⟨.inl ⟨_, rfl, HV.out, HNF.out⟩, hbr⟩

/-- chain, whatever comes of it. -/
theorem chain_any {v : Value} (g a : Int) (ts : List ByteArray) (w : World) (h : SV w v ts) (hn : ts.length ≤ 65535) (hs : ∀ x ∈ ts, x.size ≤ 1000) :
    Calls Tryd.prog 40 #[.int .i64 g, .int .i64 a, v] w fun e w' => ∃ v', e = .returned (.tuple #[v', .int .i64 (chE g a ts)]) ∧ (chE g a ts = 0 → RowV w' v' (chainL g.toNat a.toNat ts)) ∧ Below w.heap.size w w' := by
  obtain ⟨A, c, rfl, hA⟩ := h
  unfold chE
  cases hb : gpB g a with
  | false =>
    refine (chain_bad g a A ts.length c w hb).mono ?_
    rintro e w' ⟨rfl, h⟩
    exact ⟨_, rfl, fun h => (by cases h), h⟩
  | true =>
    obtain ⟨p, q, rfl, h2, h3, rfl, h5⟩ := gp_parts hb
    refine (chain_right p q A c ts w hA hn hs h2 h3 h5).mono ?_
    rintro e w' ⟨⟨v', rfl, hv, hle⟩ | ⟨rfl, hgt⟩, h⟩
    · rw [if_pos rfl, if_pos (by omega)]
      exact ⟨v', rfl, fun _ => hv, h⟩
    · rw [if_pos rfl, if_neg (by omega)]
      exact ⟨_, rfl, fun h => (by cases h), h⟩

end Go.Proofs.YtdgjnjhmjgdhnaaDoor
