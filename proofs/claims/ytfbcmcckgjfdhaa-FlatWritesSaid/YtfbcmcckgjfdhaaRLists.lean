/- The walks of the document's Notes, Pairs and Changes (at most 30 of them). -/
import Derived.Test.YtfbcmcckgjfdhaaFk
import Derived.Test.YtfbcmcckgjfdhaaRNote
set_option linter.unusedVariables false
set_option linter.unusedSimpArgs false
namespace Go.Proofs.Ytfbcmcckgjfdhaa
open Go.RowKit Go.Sort

/-- One of a slice of pairs, as a slice. -/
theorem prs_at {w : World} {B : Nat} {ad : Addr} {l : List Pr} (h : Prs w B (some ad) l) (k : Nat) (hk : k < l.length) : Prs w B (some (ad.add (k * 2))) [l[k]] := by
  obtain ⟨ad', e, hB, hc⟩ := h (by omega)
  injection e with e
  subst e
  intro _
  refine ⟨_, rfl, by rw [block_of_add]; exact hB, fun i hi j v hv => ?_⟩
  have hi0 : i = 0 := by simpa using hi
  subst hi0
  have h1 := hc k hk j v (by simpa using hv)
  rw [Nat.zero_mul, Addr.add_zero']
  exact h1
theorem Kd.cat_take_size {α : Type} (K : Kd α) {l : List α} {k : Nat} (hk : k ≤ l.length) (h : ∀ i (h : i < l.length), i < k → K.ok l[i] = true) : (nS 2 l.length ++ K.cat (l.take k)).size ≤ 2 + 128 * k := by
  have h1 := K.ahead_len hk h
  unfold Kd.ahead at h1
  rwa [len_data] at h1

set_option maxRecDepth 100000 in
set_option maxHeartbeats 4000000 in
theorem dnotes_any (A : Option Addr) (c : Nat) (l : List Nt) (w : World) (hA : Nts w w.heap.size A l) (hcap : l.length ≤ c) (hn : l.length ≤ 30) :
    Calls Try.prog 16 #[.slice A l.length c] w fun e w' => e = .returned (.tuple #[.string (kN.listS l), .bool (kN.may l)]) ∧ Below w.heap.size w w' := by
  obtain ⟨S, hS⟩ : ∃ S, S = kN.listS l := ⟨_, rfl⟩
  obtain ⟨E, hE⟩ : ∃ E, E = kN.may l := ⟨_, rfl⟩
  rw [← hS, ← hE]
  have HNo := Lib.hid (show kN.may l = false → S = noB ∧ E = false from fun h => by rw [hS, hE]; exact ⟨(kN.no_S h).1, h⟩)
  have HYes := Lib.hid (show kN.may l = true → S = kN.list l ∧ E = true from fun h => by rw [hS, hE]; exact ⟨(kN.yes_S h).1, h⟩)
  clear hS hE
  have HALL := Lib.hid hA
  obtain ⟨n, hl⟩ : ∃ n, l.length = n := ⟨_, rfl⟩
  rw [hl] at hn hcap ⊢
  have HL := Lib.hid hl
  have HA := Lib.hid hA
  clear hl hA
  have hd : decide (65535 < (n : Int)) = false := by simp; omega
  have hd' : decide (65535 < n) = false := by simp; omega
  have hdl : decide ((n : Int) ≤ 65535) = true := by simp; omega
  have hdl' : decide (n ≤ 65535) = true := by simp; omega
  have hw := u64_nat n (by omega)
  have hdall := fun w h => dall_any A c l w h (by rw [HL.out]; unfold maxLen; omega)
  rw [HL.out] at hdall
  have HD := Lib.hid hdall
  clear hdall
  go_enter Try.func16, Try.ntmps16
  go_wp2_with fail
  refine (dnum_flat n 2 _ (by decide) (by decide) (by omega)).mono ?_
  rintro e w1 ⟨rfl, hb⟩
  have HB := Lib.hid hb
  clear hb hw
  go_wp2_with fail
  refine (HD.out _ (HA.out.on HB.out)).mono ?_
  rintro e w2 ⟨rfl, hb⟩
  have HB2 := Lib.hid (HB.out.trans (hb.mono HB.out.size))
  clear hb HB
  cases hall : l.all rightN with
  | false =>
    obtain ⟨e1, e2⟩ := HNo.out (by unfold Kd.may; rw [show l.all kN.ok = false from hall, Bool.and_false])
    have E1 := Lib.hid e1
    have E2 := Lib.hid e2
    clear e1 e2 hall
    go_wp2
    go_ret2
    rw [E1.out, E2.out]
    exact ⟨rfl, HB2.out⟩
  | true =>
  have HAL := Lib.hid (show ∀ i (h : i < l.length), kN.ok l[i] = true from fun i h => by rw [List.all_eq_true] at hall; exact hall _ (List.getElem_mem _))
  clear hall
  go_wp2
  go_loopw [4, 6] (fun s i wr => ∃ (k : Nat), i = .int .i64 k ∧ s = .string (nS 2 n ++ kN.cat (l.take k)) ∧ k ≤ n ∧ Hid (∀ i (h : i < l.length), i < k → kN.ok l[i] = true) ∧ Below w.heap.size w wr) (fun _ i _ => (n - intOf i).toNat)
  case atStart => exact ⟨0, rfl, by rw [List.take_zero, Kd.cat_nil, noB_right], by omega, fun i h h0 => by omega, HB2.out⟩
  case round =>
    clear HB2
    obtain ⟨k, rfl, rfl, hk, HG, hbr⟩ := hrel
    by_cases hlt : k < n
    · obtain ⟨ad, rfl, hab, hca⟩ := (HA.out.below hbr).seeN (by rw [HL.out]; omega)
      have hkl : k < l.length := by rw [HL.out]; exact hlt
      obtain ⟨c0, c1, c2, c3⟩ := hca k hkl
      obtain ⟨x, hx⟩ : ∃ x, x = l[k]'hkl := ⟨_, rfl⟩
      rw [← hx] at c0 c1 c2 c3
      have HX := Lib.hid hx
      clear hx hca
      obtain ⟨xk, xkey, xval, xn⟩ := x
      simp only at c0 c1 c2 c3
      have hlt3 : (ad.add (k * 4)).block < w.heap.size := by rw [block_of_add]; exact hab
      have hcz := kN.cat_take_size (Nat.le_of_lt hkl) HG.out
      rw [HL.out] at hcz
      have hcs := kN.cat_take l k hkl
      obtain ⟨Q, hQ⟩ : ∃ Q, Q = nS 2 n ++ kN.cat (l.take k) := ⟨_, rfl⟩
      have HQ := Lib.hid (show nS 2 n ++ kN.cat (l.take (k + 1)) = Q ++ kN.enc (l[k]'hkl) from by rw [hcs, hQ, ba_assoc])
      rw [← hQ] at hcz ⊢
      clear hQ hcs
      have HF := Lib.hid (show rightN ⟨xk, xkey, xval, xn⟩ = true from by have h := HAL.out k hkl; rw [← HX.out] at h; exact h)
      have hok := HF.out
      have hlen2 := (kN.len hok).2
      obtain ⟨hkd, hk16, hv32⟩ := right_of hok
      simp only at hkd hk16 hv32
      obtain ⟨q, hq⟩ := Int.eq_ofNat_of_zero_le (show 0 ≤ xk by omega)
      subst hq
      have hq3 : q ≤ 3 := by omega
      clear hkd
      clear hok
      go_wp2_with fail
      refine (dnotebytes_any xkey xval q xn.toNat _ (by omega) (by omega) (by omega) xn.toNat_lt).mono ?_
      rintro e w4 ⟨rfl, hb⟩
      have HB4 := Lib.hid (hbr.trans (hb.mono (hbr).size))
      clear hb
      obtain ⟨y, hy⟩ : ∃ y, y = (nS 1 q ++ textS xkey ++ textS xval ++ nS 8 xn.toNat) := ⟨_, rfl⟩
      have hy2 : y = kN.enc (l[k]'hkl) := by rw [← HX.out, hy]; show _ = noteB _; unfold noteB; simp only [Int.toNat_natCast, ba_assoc]
      have hy3 : y.size ≤ 128 := by rw [hy2, ← HX.out]; exact hlen2
      rw [← hy]
      have HY := Lib.hid hy2
      have hzz : ¬ 9223372036854775807 < Q.size + y.size := by omega
      have HG2 := Lib.hid (show ∀ i (h : i < l.length), i < k + 1 → kN.ok l[i] = true from fun i h h1 => by
        by_cases hi : i < k
        · exact HG.out i h hi
        · have : i = k := by omega
          subst this
          rw [← HX.out]; exact HF.out)
      clear hy hy2 hlen2
      go_wp2
      go_roundw
      case rel => exact ⟨k + 1, by go_num, by rw [HQ.out, ← HY.out], by omega, HG2, HB4.out⟩
      case measure => simp [intOf]; omega
    · have hkn : k = l.length := by rw [HL.out]; omega
      obtain ⟨e1, e2⟩ := HYes.out (kN.may_all (by rw [HL.out]; omega) (fun i h => HG.out i h (by omega)))
      have hjz : nS 2 n ++ kN.cat (l.take k) = S := by rw [e1, hkn, List.take_length, ← HL.out]; rfl
      rw [hjz]
      have E2 := Lib.hid e2
      clear hkn e1 e2 hjz
      go_wp2
      go_ret2
      rw [E2.out]
      exact ⟨rfl, hbr⟩

set_option maxRecDepth 100000 in
set_option maxHeartbeats 4000000 in
theorem dpairs_any (A : Option Addr) (c : Nat) (l : List Pr) (w : World) (hA : Prs w w.heap.size A l) (hcap : l.length ≤ c) (hn : l.length ≤ 30) :
    Calls Try.prog 17 #[.slice A l.length c] w fun e w' => e = .returned (.tuple #[.string (kP.listS l), .bool (kP.may l)]) ∧ Below w.heap.size w w' := by
  obtain ⟨S, hS⟩ : ∃ S, S = kP.listS l := ⟨_, rfl⟩
  obtain ⟨E, hE⟩ : ∃ E, E = kP.may l := ⟨_, rfl⟩
  rw [← hS, ← hE]
  have HNo := Lib.hid (show kP.may l = false → S = noB ∧ E = false from fun h => by rw [hS, hE]; exact ⟨(kP.no_S h).1, h⟩)
  have HYes := Lib.hid (show kP.may l = true → S = kP.list l ∧ E = true from fun h => by rw [hS, hE]; exact ⟨(kP.yes_S h).1, h⟩)
  clear hS hE
  have HALL := Lib.hid hA
  obtain ⟨n, hl⟩ : ∃ n, l.length = n := ⟨_, rfl⟩
  rw [hl] at hn hcap ⊢
  have HL := Lib.hid hl
  have HA := Lib.hid hA
  clear hl hA
  have hd : decide (65535 < (n : Int)) = false := by simp; omega
  have hd' : decide (65535 < n) = false := by simp; omega
  have hdl : decide ((n : Int) ≤ 65535) = true := by simp; omega
  have hdl' : decide (n ≤ 65535) = true := by simp; omega
  have hw := u64_nat n (by omega)
  go_enter Try.func17, Try.ntmps17
  go_wp2_with fail
  refine (dnum_flat n 2 _ (by decide) (by decide) (by omega)).mono ?_
  rintro e w1 ⟨rfl, hb⟩
  have HB := Lib.hid hb
  clear hb hw
  go_wp2
  go_loopw [4, 5] (fun s i wr => ∃ (k : Nat), i = .int .i64 k ∧ s = .string (nS 2 n ++ kP.cat (l.take k)) ∧ k ≤ n ∧ Hid (∀ i (h : i < l.length), i < k → kP.ok l[i] = true) ∧ Below w.heap.size w wr) (fun _ i _ => (n - intOf i).toNat)
  case atStart => exact ⟨0, rfl, by rw [List.take_zero, Kd.cat_nil, noB_right], by omega, fun i h h0 => by omega, HB.out⟩
  case round =>
    clear HB
    obtain ⟨k, rfl, rfl, hk, HG, hbr⟩ := hrel
    by_cases hlt : k < n
    · obtain ⟨ad, rfl, hab, hca⟩ := (HA.out.below hbr).seeP (by rw [HL.out]; omega)
      have hkl : k < l.length := by rw [HL.out]; exact hlt
      obtain ⟨c0, c1⟩ := hca k hkl
      obtain ⟨x, hx⟩ : ∃ x, x = l[k]'hkl := ⟨_, rfl⟩
      rw [← hx] at c0 c1
      have HX := Lib.hid hx
      clear hx hca
      obtain ⟨xkey, xval⟩ := x
      simp only at c0 c1
      have hlt3 : (ad.add (k * 2)).block < w.heap.size := by rw [block_of_add]; exact hab
      have hcz := kP.cat_take_size (Nat.le_of_lt hkl) HG.out
      rw [HL.out] at hcz
      have hcs := kP.cat_take l k hkl
      obtain ⟨Q, hQ⟩ : ∃ Q, Q = nS 2 n ++ kP.cat (l.take k) := ⟨_, rfl⟩
      have HQ := Lib.hid (show nS 2 n ++ kP.cat (l.take (k + 1)) = Q ++ kP.enc (l[k]'hkl) from by rw [hcs, hQ, ba_assoc])
      rw [← hQ] at hcz ⊢
      clear hQ hcs
      have hone := prs_at (HA.out.below hbr) k hkl
      rw [← HX.out] at hone
      have hdr := dright_pr (some (ad.add (k * 2))) (c - k) [⟨xkey, xval⟩] wr (hone.more hbr.size) (by unfold maxLen; simp)
      rw [well_one] at hdr
      have HD := Lib.hid hdr
      have hck : ¬ c - k = 0 := by omega
      have hck2 : k + 1 ≤ c := by omega
      have hck3 : (k : Int) + 1 ≤ (c : Int) := by omega
      have hsub : k + 1 - k = 1 := by omega
      have hsub2 : (k : Int) + 1 - (k : Int) = 1 := by omega
      clear hdr hone
      go_wp2_with fail
      refine HD.out.mono ?_
      rintro e w3 ⟨rfl, hb⟩
      have HB3 := Lib.hid (hbr.trans (hb.mono hbr.size))
      obtain ⟨d0, d1⟩ : wr.cell? (ad.add (k * 2)) = some (.string xkey) ∧ wr.cell? ⟨(ad.add (k * 2)).block, (ad.add (k * 2)).off + 1, none⟩ = some (.string xval) := ⟨c0, c1⟩
      have hbs := hbr.size
      have e0 := (hb.cell (p := ad.add (k * 2)) (by omega)).trans d0
      have e1 := (hb.cell (p := ⟨(ad.add (k * 2)).block, (ad.add (k * 2)).off + 1, none⟩) (by show (ad.add (k * 2)).block < _; omega)).trans d1
      clear hb c0 c1 d0 d1 HD hck2 hck3 hsub hsub2
      cases hf : fitsP ⟨xkey, xval⟩ with
      | false =>
        obtain ⟨e1, e2⟩ := HNo.out (kP.may_no k hkl (by rw [← HX.out]; exact hf))
        have E1 := Lib.hid e1
        have E2 := Lib.hid e2
        clear hf e1 e2
        go_wp2
        go_ret2
        rw [E1.out, E2.out]
        exact ⟨rfl, HB3.out⟩
      | true =>
        have HF := Lib.hid hf
        clear hf
        have hok := HF.out
        have hlen2 := (kP.len hok).2
        obtain ⟨hk16, hv32⟩ := (fitsP_iff _).1 hok
        simp only at hk16 hv32
        clear hok
        go_wp2_with fail
        refine (dpairbytes_any xkey xval _ (by omega) (by omega)).mono ?_
        rintro e w4 ⟨rfl, hb⟩
        have HB4 := Lib.hid (HB3.out.trans (hb.mono (HB3.out).size))
        clear hb
        obtain ⟨y, hy⟩ : ∃ y, y = (textS xkey ++ textS xval) := ⟨_, rfl⟩
        have hy2 : y = kP.enc (l[k]'hkl) := by rw [← HX.out, hy]; rfl
        have hy3 : y.size ≤ 128 := by rw [hy2, ← HX.out]; exact hlen2
        rw [← hy]
        have HY := Lib.hid hy2
        have hzz : ¬ 9223372036854775807 < Q.size + y.size := by omega
        have HG2 := Lib.hid (show ∀ i (h : i < l.length), i < k + 1 → kP.ok l[i] = true from fun i h h1 => by
          by_cases hi : i < k
          · exact HG.out i h hi
          · have : i = k := by omega
            subst this
            rw [← HX.out]; exact HF.out)
        clear hy hy2 hlen2
        go_wp2
        go_roundw
        case rel => exact ⟨k + 1, by go_num, by rw [HQ.out, ← HY.out], by omega, HG2, HB4.out⟩
        case measure => simp [intOf]; omega
    · have hkn : k = l.length := by rw [HL.out]; omega
      obtain ⟨e1, e2⟩ := HYes.out (kP.may_all (by rw [HL.out]; omega) (fun i h => HG.out i h (by omega)))
      have hjz : nS 2 n ++ kP.cat (l.take k) = S := by rw [e1, hkn, List.take_length, ← HL.out]; rfl
      rw [hjz]
      have E2 := Lib.hid e2
      clear hkn e1 e2 hjz
      go_wp2
      go_ret2
      rw [E2.out]
      exact ⟨rfl, hbr⟩

set_option maxRecDepth 100000 in
set_option maxHeartbeats 4000000 in
theorem dchanges_any (A : Option Addr) (c : Nat) (l : List Ch) (w : World) (hA : Chs w w.heap.size A l) (hcap : l.length ≤ c) (hn : l.length ≤ 30) :
    Calls Try.prog 18 #[.slice A l.length c] w fun e w' => e = .returned (.tuple #[.string (kC.listS l), .bool (kC.may l)]) ∧ Below w.heap.size w w' := by
  obtain ⟨S, hS⟩ : ∃ S, S = kC.listS l := ⟨_, rfl⟩
  obtain ⟨E, hE⟩ : ∃ E, E = kC.may l := ⟨_, rfl⟩
  rw [← hS, ← hE]
  have HNo := Lib.hid (show kC.may l = false → S = noB ∧ E = false from fun h => by rw [hS, hE]; exact ⟨(kC.no_S h).1, h⟩)
  have HYes := Lib.hid (show kC.may l = true → S = kC.list l ∧ E = true from fun h => by rw [hS, hE]; exact ⟨(kC.yes_S h).1, h⟩)
  clear hS hE
  have HALL := Lib.hid hA
  obtain ⟨n, hl⟩ : ∃ n, l.length = n := ⟨_, rfl⟩
  rw [hl] at hn hcap ⊢
  have HL := Lib.hid hl
  have HA := Lib.hid hA
  clear hl hA
  have hd : decide (65535 < (n : Int)) = false := by simp; omega
  have hd' : decide (65535 < n) = false := by simp; omega
  have hdl : decide ((n : Int) ≤ 65535) = true := by simp; omega
  have hdl' : decide (n ≤ 65535) = true := by simp; omega
  have hw := u64_nat n (by omega)
  go_enter Try.func18, Try.ntmps18
  go_wp2_with fail
  refine (dnum_flat n 2 _ (by decide) (by decide) (by omega)).mono ?_
  rintro e w1 ⟨rfl, hb⟩
  have HB := Lib.hid hb
  clear hb hw
  go_wp2
  go_loopw [4, 5] (fun s i wr => ∃ (k : Nat), i = .int .i64 k ∧ s = .string (nS 2 n ++ kC.cat (l.take k)) ∧ k ≤ n ∧ Hid (∀ i (h : i < l.length), i < k → kC.ok l[i] = true) ∧ Below w.heap.size w wr) (fun _ i _ => (n - intOf i).toNat)
  case atStart => exact ⟨0, rfl, by rw [List.take_zero, Kd.cat_nil, noB_right], by omega, fun i h h0 => by omega, HB.out⟩
  case round =>
    clear HB
    obtain ⟨k, rfl, rfl, hk, HG, hbr⟩ := hrel
    by_cases hlt : k < n
    · obtain ⟨ad, rfl, hab, hca⟩ := (HA.out.below hbr).seeC (by rw [HL.out]; omega)
      have hkl : k < l.length := by rw [HL.out]; exact hlt
      obtain ⟨c0, c1, c2, c3, c4, c5⟩ := hca k hkl
      obtain ⟨x, hx⟩ : ∃ x, x = l[k]'hkl := ⟨_, rfl⟩
      rw [← hx] at c0 c1 c2 c3 c4 c5
      have HX := Lib.hid hx
      clear hx hca
      obtain ⟨xs, xkey, had, xb, has, xa⟩ := x
      simp only at c0 c1 c2 c3 c4 c5
      have hlt3 : (ad.add (k * 6)).block < w.heap.size := by rw [block_of_add]; exact hab
      have hcz := kC.cat_take_size (Nat.le_of_lt hkl) HG.out
      rw [HL.out] at hcz
      have hcs := kC.cat_take l k hkl
      obtain ⟨Q, hQ⟩ : ∃ Q, Q = nS 2 n ++ kC.cat (l.take k) := ⟨_, rfl⟩
      have HQ := Lib.hid (show nS 2 n ++ kC.cat (l.take (k + 1)) = Q ++ kC.enc (l[k]'hkl) from by rw [hcs, hQ, ba_assoc])
      rw [← hQ] at hcz ⊢
      clear hQ hcs
      go_wp2_with fail
      refine (dmay_any xs xkey had xb has xa _).mono ?_
      rintro e w3 ⟨rfl, hb⟩
      have HB3 := Lib.hid (hbr.trans (hb.mono hbr.size))
      have hbs := hbr.size
      have e0 := (hb.cell (p := ad.add (k * 6)) (by omega)).trans c0
      have e1 := (hb.cell (p := ⟨(ad.add (k * 6)).block, (ad.add (k * 6)).off + 1, none⟩) (by show (ad.add (k * 6)).block < _; omega)).trans c1
      have e2 := (hb.cell (p := ⟨(ad.add (k * 6)).block, (ad.add (k * 6)).off + 2, none⟩) (by show (ad.add (k * 6)).block < _; omega)).trans c2
      have e3 := (hb.cell (p := ⟨(ad.add (k * 6)).block, (ad.add (k * 6)).off + 3, none⟩) (by show (ad.add (k * 6)).block < _; omega)).trans c3
      have e4 := (hb.cell (p := ⟨(ad.add (k * 6)).block, (ad.add (k * 6)).off + 4, none⟩) (by show (ad.add (k * 6)).block < _; omega)).trans c4
      have e5 := (hb.cell (p := ⟨(ad.add (k * 6)).block, (ad.add (k * 6)).off + 5, none⟩) (by show (ad.add (k * 6)).block < _; omega)).trans c5
      clear hb c0 c1 c2 c3 c4 c5
      cases hf : mayC ⟨xs, xkey, had, xb, has, xa⟩ with
      | false =>
        obtain ⟨e1, e2⟩ := HNo.out (kC.may_no k hkl (by rw [← HX.out]; exact hf))
        have E1 := Lib.hid e1
        have E2 := Lib.hid e2
        clear hf e1 e2
        go_wp2
        go_ret2
        rw [E1.out, E2.out]
        exact ⟨rfl, HB3.out⟩
      | true =>
        have HF := Lib.hid hf
        clear hf
        have hok := HF.out
        have hlen2 := (kC.len hok).2
        obtain ⟨hs1, hs2, hk16, hb32, ha32⟩ := may_of hok
        simp only at hs1 hs2 hk16 hb32 ha32
        obtain ⟨q, hq⟩ := Int.eq_ofNat_of_zero_le (show 0 ≤ xs by omega)
        subst hq
        have hq3 : q ≤ 2147483647 := by omega
        clear hs1 hs2
        clear hok
        go_wp2_with fail
        refine (dchbytes_any xkey xb xa had has q _ (by omega) (by omega) (by omega) (by omega)).mono ?_
        rintro e w4 ⟨rfl, hb⟩
        have HB4 := Lib.hid (HB3.out.trans (hb.mono (HB3.out).size))
        clear hb
        obtain ⟨y, hy⟩ : ∃ y, y = (nS 4 q ++ textS xkey ++ fS had ++ textS xb ++ fS has ++ textS xa) := ⟨_, rfl⟩
        have hy2 : y = kC.enc (l[k]'hkl) := by rw [← HX.out, hy]; show _ = chB _; unfold chB; simp only [Int.toNat_natCast, ba_assoc]
        have hy3 : y.size ≤ 128 := by rw [hy2, ← HX.out]; exact hlen2
        rw [← hy]
        have HY := Lib.hid hy2
        have hzz : ¬ 9223372036854775807 < Q.size + y.size := by omega
        have HG2 := Lib.hid (show ∀ i (h : i < l.length), i < k + 1 → kC.ok l[i] = true from fun i h h1 => by
          by_cases hi : i < k
          · exact HG.out i h hi
          · have : i = k := by omega
            subst this
            rw [← HX.out]; exact HF.out)
        clear hy hy2 hlen2
        go_wp2
        go_roundw
        case rel => exact ⟨k + 1, by go_num, by rw [HQ.out, ← HY.out], by omega, HG2, HB4.out⟩
        case measure => simp [intOf]; omega
    · have hkn : k = l.length := by rw [HL.out]; omega
      obtain ⟨e1, e2⟩ := HYes.out (kC.may_all (by rw [HL.out]; omega) (fun i h => HG.out i h (by omega)))
      have hjz : nS 2 n ++ kC.cat (l.take k) = S := by rw [e1, hkn, List.take_length, ← HL.out]; rfl
      rw [hjz]
      have E2 := Lib.hid e2
      clear hkn e1 e2 hjz
      go_wp2
      go_ret2
      rw [E2.out]
      exact ⟨rfl, hbr⟩

end Go.Proofs.Ytfbcmcckgjfdhaa
