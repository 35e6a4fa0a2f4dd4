/- The walk of the law JournalParses. -/
import Derived.Test.YtdgjnjhmjgdhnaaDoorLNeeds
import Derived.Test.YtdgjnjhmjgdhnaaDoorRParse
namespace Go.Proofs.YtdgjnjhmjgdhnaaDoor
open Go.RowKit

def needI (n : Nat) : Int := if n ≤ 1000 then needJ n else 0
theorem needj_any (n : Nat) (w : World) : Calls Tryd.prog 16 #[.int .i64 n] w fun e w' => e = .returned (.int .i64 (needI n)) ∧ w = w' := by
  unfold needI
  by_cases h : n ≤ 1000
  · rw [if_pos h]
    exact needj_in n w h
  · rw [if_neg h]
    exact needj_out n w (.inr (by omega))
theorem dneedj_any (n : Nat) (w : World) : Calls Tryd.prog 17 #[.int .i64 n] w fun e w' => e = .returned (.int .i64 (needI n)) ∧ w = w' := by
  unfold needI
  by_cases h : n ≤ 1000
  · rw [if_pos h]
    exact dneedj_in n w h
  · rw [if_neg h]
    exact dneedj_out n w (.inr (by omega))

set_option maxHeartbeats 8000000 in
set_option maxRecDepth 100000 in
theorem parses_walk (g a : Int) (s : ByteArray) (A : Option Addr) (c : Nat) (l : List ByteArray) (w : World) (hs0 : s.size ≤ maxLen) (hv : AV w A c l) :
    Calls Tryd.prog 3 #[.int .i64 g, .int .i64 a, .string s, .slice A l.length c] w fun e w' => e = .returned (.bool true) ∧ Below w.heap.size w w' := by
  have hlen := hv.len
  obtain ⟨hA, hc, hc2, hs, hn0⟩ := hv
  have HA := Lib.hid hA
  have HS := Lib.hid hs
  have HPA := Lib.hid (fun (wx : World) (hb : Below w.heap.size w wx) => parse_any g l wx ⟨A, c, rfl, (hA.below hb).more hb.size⟩ hlen hs)
  have HPB := Lib.hid (fun (wx : World) (hb : Below w.heap.size w wx) => dparse_any g l wx ⟨A, c, rfl, (hA.below hb).more hb.size⟩ hlen hs)
  have HPC := Lib.hid (fun wx => pieces_any g a s wx hs0)
  have HPD := Lib.hid (fun wx => dpieces_any g a s wx hs0)
  have HN := Lib.hid (fun wx => needj_any s.size wx)
  have HD := Lib.hid (fun wx => dneedj_any s.size wx)
  obtain ⟨E, hE⟩ : ∃ E, E = pcE g a s.size := ⟨_, rfl⟩
  obtain ⟨P, hP⟩ : ∃ P, P = pcsL g a s.data.toList := ⟨_, rfl⟩
  have HPZ := Lib.hid (show P.length ≤ maxLen by
    rw [hP]
    unfold pcsL maxLen
    split
    · rename_i h
      rw [rec_len, ba_len]
      have h1 : s.size ≤ 1000 := by
        unfold pcE at h
        split at h
        · rename_i h2
          obtain ⟨_, _, _, _, _, _, _, h3⟩ := pc_right h2
          rw [ba_len] at h3
          exact h3
        · cases h
      have := needJ_le h1
      omega
    · simp)
  have HTZ := Lib.hid (fun ts (h : ToldP g l ts) => show ts.length ≤ l.length from Nat.le_trans (needs_ge ts) h.len)
  rw [← hE, ← hP] at HPC HPD
  generalize needI s.size = ni at *
  unfold maxLen at hc2 hlen hs0
  generalize hl : l.length = n at *
  have HL := Lib.hid hl
  clear hA hs hl hlen hE hP
  by_cases hbig : s.size ≤ 1100 ∧ n ≤ 40
  · obtain ⟨hb1, hb2⟩ := hbig
    have hd : decide ((1100 : Int) < s.size) = false := decide_eq_false (by omega)
    have hd2 : decide (1100 < s.size) = false := decide_eq_false (by omega)
    have hd3 : decide ((40 : Int) < n) = false := decide_eq_false (by omega)
    have hd4 : decide (40 < n) = false := decide_eq_false (by omega)
    go_enter Tryd.func3, Tryd.ntmps3
    go_wp2
    go_loopw [30] (fun i wr => ∃ (k : Nat), i = .int .i64 k ∧ k ≤ n ∧ wr = w) (fun i _ => (n - intOf i).toNat)
    case atStart => exact ⟨0, rfl, by omega, rfl⟩
    case round =>
      obtain ⟨k, rfl, hk, rfl⟩ := hrel
      by_cases hlt : k < n
      · obtain ⟨a1, rfl, hab, hca⟩ := HA.out (by rw [HL.out]; omega)
        have c1 := hca k (by rw [HL.out]; omega)
        have hm := HS.out _ (List.getElem_mem (by rw [HL.out]; omega : k < l.length))
        generalize l[k]'(by rw [HL.out]; omega) = x at *
        unfold maxLen at hm
        clear hca
        by_cases hx : x.size ≤ 40
        · have hd5 : decide ((40 : Int) < x.size) = false := decide_eq_false (by omega)
          have hd6 : decide (40 < x.size) = false := decide_eq_false (by omega)
          go_wp2
          go_roundw
          case rel => exact ⟨k + 1, by go_num, by omega, by trivial⟩
          case measure => simp [intOf]; omega
        · have hd5 : decide ((40 : Int) < x.size) = true := decide_eq_true (by omega)
          have hd6 : decide (40 < x.size) = true := decide_eq_true (by omega)
          go_wp2_with fail
          refine (awake_true _).mono ?_
          rintro e w1 ⟨rfl, hb1⟩
          go_wp2
          go_ret
          exact ⟨rfl, hb1⟩
      · obtain rfl : k = n := by omega
        clear hlt hk
        go_wp2_with fail
        refine (HPC.out _).mono ?_
        rintro e w1 ⟨v1, rfl, hv1, hb1⟩
        have HV1 := Lib.hid hv1.sv
        obtain ⟨A1, c1, rfl, _, _⟩ := hv1
        have HB1 := Lib.hid hb1
        clear hb1
        go_wp2_with fail
        refine (HPD.out _).mono ?_
        rintro e w2 ⟨v2, rfl, hv2, hb2⟩
        have HV2 := Lib.hid hv2.sv
        have HV1 := Lib.hid (HV1.out.on hb2)
        obtain ⟨A2, c2, rfl, _, _⟩ := hv2
        have HB2 := Lib.hid (HB1.out.trans (hb2.mono HB1.out.size))
        clear hb2 HB1
        have hp := HPA.out _ HB2.out
        go_wp2_with fail
        refine hp.mono ?_
        clear hp
        rintro e w3 ⟨v3, ts, rfl, hv3, ht, hb3⟩
        have HV3 := Lib.hid hv3.sv
        have HV1 := Lib.hid (HV1.out.on hb3)
        have HV2 := Lib.hid (HV2.out.on hb3)
        obtain ⟨A3, c3, rfl, _, _⟩ := hv3
        have HB3 := Lib.hid (HB2.out.trans (hb3.mono HB2.out.size))
        have HT := Lib.hid ht
        clear hb3 HB2 ht
        have hp := HPB.out _ HB3.out
        go_wp2_with fail
        refine hp.mono ?_
        clear hp
        rintro e w4 ⟨v4, us, rfl, hv4, hu, hb4⟩
        obtain rfl := ToldP.only HT.out hu
        have HV4 := Lib.hid hv4.sv
        have HV1 := Lib.hid (HV1.out.on hb4)
        have HV2 := Lib.hid (HV2.out.on hb4)
        have HV3 := Lib.hid (HV3.out.on hb4)
        obtain ⟨A4, c4, rfl, _, _⟩ := hv4
        have HB4 := Lib.hid (HB3.out.trans (hb4.mono HB3.out.size))
        clear hb4 HB3 hu
        have hp := same_eq HV1.out HV2.out rfl HPZ.out
        have HSM2 := Lib.hid (fun (wx : World) (h3 : SV wx (.slice A3 ts.length c3) ts) (h4 : SV wx (.slice A4 ts.length c4) ts) => same_eq h3 h4 rfl (by have h5 := HTZ.out ts HT.out; unfold maxLen; omega))
        generalize P.length = pn at *
        generalize ts.length = tn at *
        generalize needs ts = nt at *
        have hee : (E == E) = true := by simp
        have hnn : ((nt : Int) == (nt : Int)) = true := by simp
        have hii : (ni == ni) = true := by simp
        go_wp2_with fail
        refine hp.mono ?_
        clear hp
        rintro e w5 ⟨rfl, hb5⟩
        have HV3 := Lib.hid (HV3.out.on hb5)
        have HV4 := Lib.hid (HV4.out.on hb5)
        have HB5 := Lib.hid (HB4.out.trans (hb5.mono HB4.out.size))
        clear hb5 HB4
        have hp := HSM2.out _ HV3.out HV4.out
        go_wp2_with fail
        refine hp.mono ?_
        clear hp
        rintro e w6 ⟨rfl, hb6⟩
        have HB6 := Lib.hid (HB5.out.trans (hb6.mono HB5.out.size))
        clear hb6 HB5 HV3 HV4
        go_wp2_with fail
        refine (HN.out _).mono ?_
        rintro e w7 ⟨rfl, rfl⟩
        go_wp2_with fail
        refine (HD.out _).mono ?_
        rintro e w7 ⟨rfl, rfl⟩
        go_wp2_with fail
        refine (awake_true _).mono ?_
        rintro e w8 ⟨rfl, hb8⟩
        go_wp2
        go_ret
        exact ⟨rfl, HB6.out.trans (hb8.mono HB6.out.size)⟩
  · by_cases h11 : s.size ≤ 1100
    · have hd : decide ((1100 : Int) < s.size) = false := decide_eq_false (by omega)
      have hd2 : decide (1100 < s.size) = false := decide_eq_false (by omega)
      have hd3 : decide ((40 : Int) < n) = true := decide_eq_true (by omega)
      have hd4 : decide (40 < n) = true := decide_eq_true (by omega)
      go_enter Tryd.func3, Tryd.ntmps3
      go_wp2_with fail
      refine (awake_true _).mono ?_
      rintro e w1 ⟨rfl, hb1⟩
      go_wp2
      go_ret
      exact ⟨rfl, hb1⟩
    · have hd : decide ((1100 : Int) < s.size) = true := decide_eq_true (by omega)
      have hd2 : decide (1100 < s.size) = true := decide_eq_true (by omega)
      go_enter Tryd.func3, Tryd.ntmps3
      go_wp2_with fail
      refine (awake_true _).mono ?_
      rintro e w1 ⟨rfl, hb1⟩
      go_wp2
      go_ret
      exact ⟨rfl, hb1⟩

end Go.Proofs.YtdgjnjhmjgdhnaaDoor
