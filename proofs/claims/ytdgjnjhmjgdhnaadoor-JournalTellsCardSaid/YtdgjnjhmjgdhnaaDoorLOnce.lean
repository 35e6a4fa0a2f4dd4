/- The walk of the law JournalOnce. -/
import Derived.Test.YtdgjnjhmjgdhnaaDoorAwake
import Derived.Test.YtdgjnjhmjgdhnaaDoorOpenA
namespace Go.Proofs.YtdgjnjhmjgdhnaaDoor
open Go.RowKit

theorem ToldP.first {g : Int} {l ts : List ByteArray} (h : ToldP g l ts) : l.take (needs ts) = chainL g.toNat 0 ts := by
  unfold ToldP at h
  cases hb : parB g l.length with
  | true =>
    rw [hb] at h
    obtain ⟨m, hm⟩ := h.2.1
    rw [← hm, List.take_append_of_le_length (by rw [chain_len]; exact Nat.le_refl _), List.take_of_length_le (by rw [chain_len]; exact Nat.le_refl _)]
  | false =>
    rw [hb] at h
    rw [show ts = [] from h]
    rfl
theorem ToldP.gen {g : Int} {l ts : List ByteArray} (h : ToldP g l ts) (h0 : 0 < ts.length) : ∃ p : Nat, g = p ∧ 1 ≤ p ∧ p ≤ 2147483647 ∧ l.length ≤ 128 := by
  unfold ToldP at h
  cases hb : parB g l.length with
  | true =>
    unfold parB at hb
    rw [Bool.and_eq_true, decide_eq_true_eq] at hb
    obtain ⟨p, h1, h2, h3⟩ := gen_parts hb.1
    exact ⟨p, h1, h2, h3, hb.2⟩
  | false =>
    rw [hb] at h
    rw [show ts = [] from h] at h0
    simp at h0
theorem Strs.take {w : World} {B : Nat} {A : Option Addr} {l : List ByteArray} (h : Strs w B A l) (k : Nat) : Strs w B A (l.take k) := by
  intro hk
  rw [List.length_take] at hk
  obtain ⟨ad, e, hb, hc⟩ := h (by omega)
  refine ⟨ad, e, hb, fun i hi => ?_⟩
  rw [List.length_take] at hi
  rw [hc i (by omega), List.getElem_take]
/-- Same, of lists that are the same. -/
theorem same_eq {v t : Value} {xs ys : List ByteArray} {w : World} (h : SV w v xs) (ht : SV w t ys) (he : xs = ys) (hl : xs.length ≤ maxLen) :
    Calls Tryd.prog 15 #[v, t] w fun e w' => e = .returned (.bool true) ∧ Below w.heap.size w w' := by
  subst he
  obtain ⟨A, c, rfl, hA⟩ := h
  obtain ⟨B, d, rfl, hB⟩ := ht
  have h1 := same_any A B c d xs xs w hA hB hl hl
  rw [decide_eq_true rfl] at h1
  exact h1

set_option maxHeartbeats 4000000 in
set_option maxRecDepth 100000 in
theorem once_walk (g : Int) (A : Option Addr) (c : Nat) (l : List ByteArray) (w : World) (hv : AV w A c l) :
    Calls Tryd.prog 7 #[.int .i64 g, .slice A l.length c] w fun e w' => e = .returned (.bool true) ∧ Below w.heap.size w w' := by
  have hlen := hv.len
  obtain ⟨hA, hc, hc2, hs, hn0⟩ := hv
  unfold maxLen at hc2 hlen
  have HA := Lib.hid hA
  have HS := Lib.hid hs
  have HPA := Lib.hid (fun (wx : World) (hb : Below w.heap.size w wx) => parse_any g l wx ⟨A, c, rfl, (hA.below hb).more hb.size⟩ hlen hs)
  have HTL := Lib.hid (fun ts (h : ToldP g l ts) => h.len)
  have HTS := Lib.hid (fun (wx : World) (k : Nat) (hb : Below w.heap.size w wx) (hk : k ≤ l.length) => show SV wx (.slice A k c) (l.take k) from ⟨A, c, by rw [List.length_take, Nat.min_eq_left hk], (((hA.below hb).more hb.size).take k)⟩)
  obtain ⟨G, hG⟩ : ∃ G, G = g.toNat := ⟨_, rfl⟩
  have HTG := Lib.hid (fun ts (h : ToldP g l ts) (h0 : 0 < ts.length) => show g = (G : Int) ∧ 1 ≤ G ∧ G ≤ 2147483647 by
    obtain ⟨p, h1, h2, h3, _⟩ := h.gen h0
    exact ⟨by omega, by omega, by omega⟩)
  have HTF := Lib.hid (fun ts (h : ToldP g l ts) => show chainL G 0 ts = l.take (needs ts) by rw [h.first, hG])
  clear hG
  generalize hl : l.length = n at *
  have HL := Lib.hid hl
  clear hA hs hl hlen
  by_cases h40 : n ≤ 40
  · have hd : decide ((40 : Int) < n) = false := decide_eq_false (by omega)
    have hd2 : decide (40 < n) = false := decide_eq_false (by omega)
    go_enter Tryd.func7, Tryd.ntmps7
    go_wp2
    go_loopw [20] (fun i wr => ∃ (k : Nat), i = .int .i64 k ∧ k ≤ n ∧ Below w.heap.size w wr) (fun i _ => (n - intOf i).toNat)
    case atStart => exact ⟨0, rfl, by omega, Below.refl _ _⟩
    case round =>
      obtain ⟨k, rfl, hk, hbr⟩ := hrel
      have HB := Lib.hid hbr
      by_cases hlt : k < n
      · obtain ⟨a1, rfl, hab, hca⟩ := (HA.out.below hbr) (by rw [HL.out]; omega)
        have c1 := hca k (by rw [HL.out]; omega)
        have hm := HS.out _ (List.getElem_mem (by rw [HL.out]; omega : k < l.length))
        generalize l[k]'(by rw [HL.out]; omega) = x at *
        unfold maxLen at hm
        clear hca hbr
        by_cases hx : x.size ≤ 40
        · have hd3 : decide ((40 : Int) < x.size) = false := decide_eq_false (by omega)
          have hd4 : decide (40 < x.size) = false := decide_eq_false (by omega)
          go_wp2
          go_roundw
          case rel => exact ⟨k + 1, by go_num, by omega, HB.out⟩
          case measure => simp [intOf]; omega
        · have hd3 : decide ((40 : Int) < x.size) = true := decide_eq_true (by omega)
          have hd4 : decide (40 < x.size) = true := decide_eq_true (by omega)
          go_wp2_with fail
          refine (awake_true _).mono ?_
          rintro e w1 ⟨rfl, hb1⟩
          go_wp2
          go_ret
          exact ⟨rfl, HB.out.trans (hb1.mono HB.out.size)⟩
      · obtain rfl : k = n := by omega
        have hpa := HPA.out _ hbr
        clear hbr
        go_wp2_with fail
        refine hpa.mono ?_
        rintro e w1 ⟨v1, ts, rfl, ⟨A1, c1, rfl, hs1, hr1⟩, ht, hb1⟩
        have hle := HTL.out ts ht
        have HT := Lib.hid ht
        have HB1 := Lib.hid (HB.out.trans (hb1.mono HB.out.size))
        have HS1 := Lib.hid hs1
        have HG := Lib.hid (HTG.out ts ht)
        clear hb1 ht hs1 hr1 HB hpa
        obtain ⟨q, hq⟩ : ∃ q, q = ts.length := ⟨_, rfl⟩
        obtain ⟨m, hm⟩ : ∃ m, m = needs ts := ⟨_, rfl⟩
        have HM := Lib.hid hm
        have HQ := Lib.hid hq.symm
        have hge := needs_ge ts
        rw [← hm, ← hq] at hge
        rw [← hm] at hle
        rw [← hm, ← hq]
        rw [← hq] at HG
        clear hm hq
        have hd3 : decide ((m : Int) < 0) = false := decide_eq_false (by omega)
        have hd4 : decide ((k : Int) < m) = false := decide_eq_false (by omega)
        have hd5 : decide (k < m) = false := decide_eq_false (by omega)
        go_wp2
        go_loopw [9, 45] (fun t i wr => ∃ j z : Nat, i = .int .i64 j ∧ j ≤ q ∧ z = needs (ts.take j) ∧ z ≤ m ∧ wr.ownsRow w1.heap.size 9 1 t z ((chainL G 0 (ts.take j)).map Value.string) ∧ Below w1.heap.size w1 wr) (fun _ i _ => (q - intOf i).toNat)
        case atStart => exact ⟨0, 0, rfl, by omega, rfl, by omega, World.ownsRow_nil _ _ _ _, Below.refl _ _⟩
        case round =>
          obtain ⟨j, z, rfl, hj, hz, hzm, hown, hb2⟩ := hrel
          have HZ := Lib.hid hz
          have HB2 := Lib.hid (HB1.out.trans (hb2.mono HB1.out.size))
          have HB0 := Lib.hid hb2
          clear hz
          by_cases hjq : j < q
          · obtain ⟨a1, rfl, hab, hca⟩ := (HS1.out.below hb2) (by rw [HQ.out]; omega)
            have c1 := hca j (by rw [HQ.out]; omega)
            have hm2 := HT.out.size _ (List.getElem_mem (by rw [HQ.out]; omega : j < ts.length))
            have htk := needs_take ts j (by rw [HQ.out]; omega)
            have hct := chain_take G 0 ts j (by rw [HQ.out]; omega)
            have hmo := needs_mono ts (j + 1)
            obtain ⟨x, hx⟩ : ∃ x, x = ts[j]'(by rw [HQ.out]; omega) := ⟨_, rfl⟩
            rw [← hx] at c1 hm2 htk hct
            rw [← HZ.out] at htk hct
            rw [← HM.out, htk] at hmo
            rw [Nat.zero_add] at hct
            have HTK1 := Lib.hid htk
            have HCT1 := Lib.hid hct
            have HO := Lib.hid hown
            obtain ⟨A2, c2, rfl⟩ := own_shape hown
            obtain ⟨hgG, hg1, hg2⟩ := HG.out (by omega)
            have hpc : ∀ wx : World, Calls Tryd.prog 11 #[.int .i64 g, .int .i64 z, .string x] wx fun e w' => ∃ v', e = .returned (.tuple #[v', .int .i64 0]) ∧ RowV w' v' (recL G z x.data.toList) ∧ Below wx.heap.size wx w' := fun wx => by
              rw [hgG]
              exact pieces_ok G z x wx hg1 hg2 (by omega) hm2 (by omega)
            have hrl := rec_len' G z x
            have hpos := needJ_pos x.size
            have HND := Lib.hid (fun wx => needj_in x.size wx hm2)
            have HPC := Lib.hid hpc
            obtain ⟨P, hP⟩ : ∃ P, P = recL G z x.data.toList := ⟨_, rfl⟩
            rw [← hP] at HPC HCT1 hrl
            generalize needJ x.size = y at *
            have HRL := Lib.hid hrl
            clear hca hx hb2 hown hgG hg1 hg2 hpc hP hrl htk hct
            go_wp2_with fail
            refine (HPC.out _).mono ?_
            rintro e w2 ⟨v2, rfl, ⟨A3, c3, rfl, hs3, hc3⟩, hb3⟩
            rw [HRL.out] at hc3 ⊢
            obtain ⟨hzc, g3, rfl⟩ := hc3 hpos
            have HB3 := Lib.hid (HB2.out.trans (hb3.mono HB2.out.size))
            have HB4 := Lib.hid (HB0.out.trans (hb3.mono HB0.out.size))
            have hown := own_below HO.out hb3
            have HS3 := Lib.hid hs3
            have hyy : ((y : Int) != (y : Int)) = false := by simp
            clear hb3 hs3 hc3
            go_wp2_with fail
            refine (HND.out _).mono ?_
            rintro e w4 ⟨rfl, rfl⟩
            go_wp2_with (at_builtin; refine append_strs _ rfl _ _ rfl w1.heap.size _ z _ rfl hown w2.heap.size (some ⟨g3, 0, none⟩) y c3 P rfl HRL.out HS3.out (fun h => by cases h) (by omega) HB4.out.size ?_)
            intro v' w3 hown3 hg3
            have HB5 := Lib.hid (show Below w1.heap.size w1 w3 from HB4.out.grown hg3 HB4.out.size (fun kk hk => (hown.lt kk hk).1))
            have HO3 := Lib.hid hown3
            clear hown hown3 hg3
            go_wp2
            go_roundw
            case rel =>
              refine ⟨j + 1, z + y, by go_num, by omega, HTK1.out.symm, by omega, ?_, HB5.out⟩
              have h := HO3.out
              rw [HCT1.out, List.map_append]
              exact h
            case measure => simp [intOf]; omega
          · obtain rfl : j = q := by omega
            have e1 : ts.take j = ts := by rw [← HQ.out]; exact List.take_length
            have hzz := HZ.out
            rw [e1, ← HM.out] at hzz
            subst hzz
            rw [e1] at hown
            obtain ⟨A2, c2, rfl⟩ := own_shape hown
            have hcl := chain_len G 0 ts
            rw [← HM.out] at hcl
            have hsv : SV wr (.slice A2 z c2) (chainL G 0 ts) := by
              have h1 := hown
              rw [← hcl] at h1 ⊢
              exact (RowV.own h1).sv
            have hfs := HTF.out ts HT.out
            rw [← HM.out] at hfs
            have hsm := same_eq hsv (HTS.out wr z HB2.out hle) hfs (by rw [hcl]; unfold maxLen; omega)
            clear hown e1 hcl hsv hfs hb2
            go_wp2_with fail
            refine hsm.mono ?_
            clear hsm
            rintro e w2 ⟨rfl, hb3⟩
            have HB3 := Lib.hid (HB2.out.trans (hb3.mono HB2.out.size))
            clear hb3
            go_wp2_with fail
            refine (awake_true _).mono ?_
            rintro e w3 ⟨rfl, hb4⟩
            go_wp2
            go_ret
            exact ⟨rfl, HB3.out.trans (hb4.mono HB3.out.size)⟩
  · have hd : decide ((40 : Int) < n) = true := decide_eq_true (by omega)
    have hd2 : decide (40 < n) = true := decide_eq_true (by omega)
    go_enter Tryd.func7, Tryd.ntmps7
    go_wp2_with fail
    refine (awake_true _).mono ?_
    rintro e w1 ⟨rfl, hb1⟩
    go_wp2
    go_ret
    exact ⟨rfl, hb1⟩

end Go.Proofs.YtdgjnjhmjgdhnaaDoor
