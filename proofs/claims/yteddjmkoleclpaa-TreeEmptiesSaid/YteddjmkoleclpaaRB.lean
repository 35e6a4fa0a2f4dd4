/- The walk of the document's end: it calls itself. -/
import Derived.Test.YteddjmkoleclpaaRInfo
import Derived.Deep.DeepCutAuto
import Derived.Deep.QuietTactic
set_option linter.unusedVariables false
set_option linter.unusedSimpArgs false
namespace Go.Proofs.Yteddjmkoleclpaa
open Go.RowKit

def codeO : Option Nat → Int
  | some n => n
  | none => -1
theorem kids_le {f : Nat → Option Nat} {bad : Nat → Bool} {m : Nat} (hf : ∀ a b, f a = some b → b ≤ m) : ∀ n a b, a ≤ m → kidsF f bad n a = some b → b ≤ m := by
  intro n
  induction n with
  | zero => intro a b ha h; injection h with h; omega
  | succ n ih =>
    intro a b ha h
    unfold kidsF at h
    split at h
    · cases h
    · cases e : f a with
      | none => rw [e] at h; cases h
      | some c =>
        rw [e] at h
        exact ih c b (hf a c e) h
theorem end_le (l : List In) (deep : Int) : ∀ f a d b, endF l deep f a d = some b → b ≤ l.length := by
  intro f
  induction f with
  | zero => intro a d b h; cases h
  | succ f ih =>
    intro a d b h
    unfold endF at h
    split at h
    · cases h
    · rename_i x hx
      have ha : a < l.length := (List.getElem?_eq_some_iff.1 hx).1
      split at h
      · cases h
      · split at h
        · split at h
          · cases h
          · injection h with h; omega
        · split at h
          · cases h
          · exact kids_le (fun a b h => ih a (d + 1) b h) _ _ _ (by omega) h

theorem endF_some {l : List In} {deep : Int} {f at_ : Nat} {depth : Int} {x : In} (h : l[at_]? = some x) : endF l deep (f + 1) at_ depth = if x.depth ≠ depth then none
      else if x.kids = 0 then (if depth ≠ deep ∨ 4 < x.pairs.length ∨ 0 < x.notes.length then none else some (at_ + 1))
      else if 4 < x.kids ∨ x.kids < 0 ∨ 6 < x.notes.length ∨ 0 < x.pairs.length then none
      else kidsF (fun next => endF l deep f next (depth + 1)) (badKid l x.kids) x.kids.toNat (at_ + 1) := by
  simp only [endF, h]

set_option maxHeartbeats 8000000 in
set_option maxRecDepth 100000 in
theorem end_any (A : Option Addr) (n c : Nat) (l : List In) (deep : Int) (hn : n = l.length) (hm : n ≤ 100000000) (hk : ∀ x ∈ l, x.kids ≤ 1000000) : ∀ (f at_ : Nat) (d : Int) (w : World), IV w (.slice A n c) l → n + 1 ≤ f + at_ → at_ ≤ n → 0 ≤ d → d + f ≤ 1000000000 →
    Calls Try.prog 48 #[.slice A n c, .int .i64 at_, .int .i64 d, .int .i64 deep] w fun e w' => e = .returned (.int .i64 (codeO (endF l deep f at_ d))) ∧ Below w.heap.size w w' := by
  intro f
  induction f with
  | zero => intro at_ d w hA hf ha; omega
  | succ f ih =>
    intro at_ d w hA hf ha hd0 hd
    have HIH := Lib.hid ih
    have HF := Lib.hid hf
    have HDD := Lib.hid (And.intro hd0 hd)
    have HL := Lib.hid hn
    have HA := Lib.hid hA
    have HKS := Lib.hid hk
    obtain ⟨R, hR⟩ : ∃ R, R = codeO (endF l deep (f + 1) at_ d) := ⟨_, rfl⟩
    rw [← hR]
    clear ih hf hA hn hk
    by_cases hat : at_ < n
    case neg =>
      have hz1 : decide ((n : Int) ≤ (at_ : Int)) = true := by simp; omega
      have hz2 : decide (n ≤ at_) = true := by simp; omega
      have HRR := Lib.hid (show R = -1 from by
        have h1 : l[at_]? = none := List.getElem?_eq_none (by rw [← HL.out]; omega)
        rw [hR]; unfold endF; rw [h1]; rfl)
      clear hR hat
      go_enter Try.func48, Try.ntmps48
      go_wp2
      go_ret
      rw [HRR.out]
      exact ⟨rfl, Below.refl _ _⟩
    have hz1 : decide ((n : Int) ≤ (at_ : Int)) = false := by simp; omega
    have hz2 : decide (n ≤ at_) = false := by simp; omega
    have hal : at_ < l.length := by rw [← HL.out]; exact hat
    obtain ⟨ad, nv, pv, rfl, hab, c0, c1, c2, c3, c4, hnv, hpv⟩ := HA.out.at_ hal
    have hgx : l[at_]? = some (l[at_]'hal) := List.getElem?_eq_getElem hal
    have hkb := HKS.out (l[at_]'hal) (List.getElem_mem hal)
    obtain ⟨x, hx⟩ : ∃ x, x = l[at_]'hal := ⟨_, rfl⟩
    rw [← hx] at c0 c1 c2 hnv hpv hgx hkb
    have HR := Lib.hid (show R = codeO (if x.depth ≠ d then none
      else if x.kids = 0 then (if d ≠ deep ∨ 4 < x.pairs.length ∨ 0 < x.notes.length then none else some (at_ + 1))
      else if 4 < x.kids ∨ x.kids < 0 ∨ 6 < x.notes.length ∨ 0 < x.pairs.length then none
      else kidsF (fun next => endF l deep f next (d + 1)) (badKid l x.kids) x.kids.toNat (at_ + 1)) from by rw [hR, endF_some hgx])
    obtain ⟨Bn, dn, rfl⟩ : ∃ B d, nv = .slice B x.notes.length d := let ⟨B, d, e, _⟩ := hnv; ⟨B, d, e⟩
    obtain ⟨Bp, dp, rfl⟩ : ∃ B d, pv = .slice B x.pairs.length d := let ⟨B, d, e, _⟩ := hpv; ⟨B, d, e⟩
    obtain ⟨xd, xk, xl, xns, xps⟩ := x
    simp only at c0 c1 c2 c3 c4 HR hkb
    generalize xns.length = an at *
    generalize xps.length = ap at *
    clear hR hx hgx hnv hpv hal
    by_cases hxd : xd = d
    case neg =>
      have hz3 : (xd != d) = true := by simpa using hxd
      have HRR := Lib.hid (show R = -1 from by rw [HR.out, if_pos hxd]; rfl)
      clear hxd HR
      go_enter Try.func48, Try.ntmps48
      go_wp2
      go_ret
      rw [HRR.out]
      exact ⟨rfl, Below.refl _ _⟩
    subst hxd
    have hz3 : (xd != xd) = false := by simp
    have HR := Lib.hid (HR.out.trans (by rw [if_neg (by simp)]))
    obtain ⟨g, hg⟩ : ∃ g, g = w.heap.size := ⟨_, rfl⟩
    obtain ⟨w1, hw1⟩ : ∃ w1, w1 = w.alloc (.cells #[.int .i64 xd, .int .i64 xk, .string xl, .slice Bn an dn, .slice Bp ap dp] 86) := ⟨_, rfl⟩
    have hb1 : Below w.heap.size w w1 := by rw [hw1]; exact (Below.refl _ _).alloc (Nat.le_refl _) _
    have HB1 := Lib.hid hb1
    have HBX := Lib.hid (show Box w1 g 86 #[.int .i64 xd, .int .i64 xk, .string xl, .slice Bn an dn, .slice Bp ap dp] by rw [hw1]; exact Box.at_ w _ _ hg)
    have HG := Lib.hid (show g < w1.heap.size from HBX.out.lt)
    go_enter Try.func48, Try.ntmps48
    go_upto_region 4 with fail
    rw [← hg, ← hw1]
    have b1 := Box.cell HBX.out 1 rfl
    have b3 := Box.cell HBX.out 3 rfl
    have b4 := Box.cell HBX.out 4 rfl
    clear hg hw1 hb1 c0 c1 c2 c3 c4 hab
    by_cases hk0 : xk = 0
    · subst hk0
      have HR := Lib.hid (HR.out.trans (by rw [if_pos rfl]))
      by_cases h1 : xd = deep
      case neg =>
        have hz4 : (xd != deep) = true := by simpa using h1
        have HRR := Lib.hid (show R = -1 from by rw [HR.out, if_pos (.inl h1)]; rfl)
        clear h1 HR
        go_wp2
        go_ret
        rw [HRR.out]
        exact ⟨rfl, HB1.out⟩
      subst h1
      have hz4 : (xd != xd) = false := by simp
      by_cases h2 : 4 < ap
      · have hz5 : decide (4 < (ap : Int)) = true := by simp; omega
        have hz5' : decide (4 < ap) = true := by simp; omega
        have HRR := Lib.hid (show R = -1 from by rw [HR.out, if_pos (.inr (.inl h2))]; rfl)
        clear h2 HR
        go_wp2
        go_ret
        rw [HRR.out]
        exact ⟨rfl, HB1.out⟩
      have hz5 : decide (4 < (ap : Int)) = false := by simp; omega
      have hz5' : decide (4 < ap) = false := by simp; omega
      by_cases h3 : 0 < an
      · have hz6 : decide (0 < (an : Int)) = true := by simp; omega
        have hz6' : decide (0 < an) = true := by simp; omega
        have HRR := Lib.hid (show R = -1 from by rw [HR.out, if_pos (.inr (.inr h3))]; rfl)
        clear h2 h3 HR
        go_wp2
        go_ret
        rw [HRR.out]
        exact ⟨rfl, HB1.out⟩
      obtain rfl : an = 0 := by omega
      have HRR := Lib.hid (show R = ((at_ + 1 : Nat) : Int) from by rw [HR.out, if_neg (by omega)]; rfl)
      clear h2 h3 HR
      go_wp2
      go_ret
      rw [HRR.out]
      exact ⟨by go_num, HB1.out⟩
    have hz4 : (xk == 0) = false := by simpa using hk0
    have HR := Lib.hid (HR.out.trans (by rw [if_neg hk0]))
    by_cases h1 : 4 < xk
    · have hz5 : decide (4 < xk) = true := decide_eq_true h1
      have HRR := Lib.hid (show R = -1 from by rw [HR.out, if_pos (.inl h1)]; rfl)
      clear h1 HR hk0
      go_wp2
      go_ret
      rw [HRR.out]
      exact ⟨rfl, HB1.out⟩
    have hz5 : decide (4 < xk) = false := decide_eq_false h1
    by_cases h2 : xk < 0
    · have hz6 : decide (xk < 0) = true := decide_eq_true h2
      have HRR := Lib.hid (show R = -1 from by rw [HR.out, if_pos (.inr (.inl h2))]; rfl)
      clear h1 h2 HR hk0
      go_wp2
      go_ret
      rw [HRR.out]
      exact ⟨rfl, HB1.out⟩
    have hz6 : decide (xk < 0) = false := decide_eq_false h2
    by_cases h3 : 6 < an
    · have hz7 : decide (6 < (an : Int)) = true := by simp; omega
      have hz7' : decide (6 < an) = true := by simp; omega
      have HRR := Lib.hid (show R = -1 from by rw [HR.out, if_pos (.inr (.inr (.inl h3)))]; rfl)
      clear h1 h2 h3 HR hk0
      go_wp2
      go_ret
      rw [HRR.out]
      exact ⟨rfl, HB1.out⟩
    have hz7 : decide (6 < (an : Int)) = false := by simp; omega
    have hz7' : decide (6 < an) = false := by simp; omega
    by_cases h4 : 0 < ap
    · have hz8 : decide (0 < (ap : Int)) = true := by simp; omega
      have hz8' : decide (0 < ap) = true := by simp; omega
      have HRR := Lib.hid (show R = -1 from by rw [HR.out, if_pos (.inr (.inr (.inr h4)))]; rfl)
      clear h1 h2 h3 h4 HR hk0
      go_wp2
      go_ret
      rw [HRR.out]
      exact ⟨rfl, HB1.out⟩
    obtain rfl : ap = 0 := by omega
    obtain ⟨K, rfl⟩ : ∃ K : Nat, xk = (K : Int) := ⟨xk.toNat, by omega⟩
    obtain ⟨F, hF⟩ : ∃ F : Nat → Option Nat, ∀ a, F a = endF l deep f a (xd + 1) := ⟨_, fun _ => rfl⟩
    have HFF := Lib.hid hF
    have HK := Lib.hid (show R = codeO (kidsF F (badKid l K) K (at_ + 1)) from by
      rw [HR.out, if_neg (by omega)]
      have e : F = fun next => endF l deep f next (xd + 1) := funext hF
      rw [e]; rfl)
    have hK4 : K ≤ 4 := by omega
    have HK0 := Lib.hid hk0
    have HAT := Lib.hid hat
    have HRec := Lib.hid (fun (wx : World) (a : Nat) (h : IV wx (.slice (some ad) n c) l) (h1 : at_ + 1 ≤ a) (h2 : a ≤ n) => show Calls Try.prog 48 #[.slice (some ad) n c, .int .i64 a, .int .i64 (xd + 1), .int .i64 deep] wx fun e w' => e = .returned (.int .i64 (codeO (F a))) ∧ Below wx.heap.size wx w' from by
      have h3 := HIH.out a (xd + 1) wx h (by have := HF.out; omega) h2 (by have := HDD.out.1; omega) (by have := HDD.out.2; omega)
      rw [← hF a] at h3; exact h3)
    have wd : IntKind.i64.wrap (xd + 1) = xd + 1 := by rw [IntKind.wrap_i64]; have := HDD.out; omega
    have HFL := Lib.hid (show ∀ k b, kidsF F (badKid l K) k (at_ + 1) = some b → at_ + 1 ≤ b ∧ b ≤ n from fun k b h =>
      ⟨kidsF_le (fun a b h => end_gt l deep f a (xd + 1) b (by rw [← hF a]; exact h)) _ _ _ h, kids_le (fun a b h => by have := end_le l deep f a (xd + 1) b (by rw [← hF a]; exact h); rw [HL.out]; exact this) _ _ _ (by have := HAT.out; omega) h⟩)
    have HWD := Lib.hid wd
    clear h1 h2 h3 h4 hF HR hk0 HIH hd0 hd hkb hat wd
    go_wp2
    go_loopw [10, 11] (fun vn vi wr => ∃ (k b : Nat), vn = .int .i64 b ∧ vi = .int .i64 k ∧ k ≤ K ∧ b ≤ n ∧ Hid (kidsF F (badKid l K) k (at_ + 1) = some b) ∧ Below w.heap.size w wr ∧ Hid (Below w1.heap.size w1 wr)) (fun _ vi _ => (K - intOf vi).toNat)
    case atStart => exact ⟨0, at_ + 1, by go_num, rfl, by omega, by have := HAT.out; omega, by show _ = _; rfl, HB1.out, Below.refl _ _⟩
    case round =>
      obtain ⟨k, b, rfl, rfl, hkK, hbn, HKF, hbr, HBR1⟩ := hrel
      have hbs := hbr.size
      have b1 := (HBR1.out.cell HG.out).trans (Box.cell HBX.out 1 rfl)
      by_cases hlt : k < K
      · have HLT := Lib.hid hlt
        obtain ⟨q, hq⟩ : ∃ q, q = badKid l K b := ⟨_, rfl⟩
        have HQ := Lib.hid hq
        clear hq
        go_upto_region 14 with fail
        go_cut [102] (fun v wx => v = .bool q ∧ wr = wx)
        case first =>
          by_cases hbl : b < n
          case neg =>
            have hz1 : decide ((b : Int) < (n : Int)) = false := by simp; omega
            have hz2 : decide (b < n) = false := by simp; omega
            have HE := Lib.hid (show q = false from by
              rw [HQ.out]; unfold badKid
              rw [List.getElem?_eq_none (by rw [← HL.out]; omega)])
            clear hbl
            go_wp2
            go_meet
            case rel => exact ⟨by rw [HE.out], rfl⟩
          have hz1 : decide ((b : Int) < (n : Int)) = true := by simp; omega
          have hz2 : decide (b < n) = true := by simp; omega
          have hbll : b < l.length := by rw [← HL.out]; exact hbl
          obtain ⟨ad', nv, pv, e1, hab, c0, c1, c2, c3, c4, hnv, hpv⟩ := (HA.out.on hbr).at_ hbll
          injection e1 with e1
          subst e1
          obtain ⟨Bp2, dp2, rfl⟩ : ∃ B d, pv = .slice B (l[b]'hbll).pairs.length d := let ⟨B, d, e, _⟩ := hpv; ⟨B, d, e⟩
          have HQ2 := Lib.hid (show q = (decide ((l[b]'hbll).kids = 0) && decide ((l[b]'hbll).pairs.length = 0) && decide (1 < (K : Int))) from by
            rw [HQ.out]; unfold badKid
            rw [List.getElem?_eq_getElem hbll])
          generalize (l[b]'hbll).kids = yk at *
          generalize (l[b]'hbll).pairs.length = yp at *
          clear c0 c2 c3 hnv hpv hab
          by_cases hy0 : yk = 0
          case neg =>
            have hz3 : (yk == 0) = false := by simpa using hy0
            have HE := Lib.hid (show q = false from by rw [HQ2.out, decide_eq_false hy0]; rfl)
            clear hy0
            go_wp2
            go_meet
            case rel => exact ⟨by rw [HE.out], rfl⟩
          subst hy0
          by_cases hp0 : yp = 0
          case neg =>
            have hz3 : ((yp : Int) == 0) = false := by simp; omega
            have HE := Lib.hid (show q = false from by rw [HQ2.out, decide_eq_false hp0]; rfl)
            clear hp0
            go_wp2
            go_meet
            case rel => exact ⟨by rw [HE.out], rfl⟩
          subst hp0
          by_cases hk1 : 1 < K
          · have hz3 : decide (1 < (K : Int)) = true := by simp; omega
            have hz4 : decide (1 < K) = true := by simp; omega
            have HE := Lib.hid (show q = true from by rw [HQ2.out, hz3]; rfl)
            clear hk1
            go_wp2
            go_meet
            case rel => exact ⟨by rw [HE.out], rfl⟩
          · have hz3 : decide (1 < (K : Int)) = false := by simp; omega
            have hz4 : decide (1 < K) = false := by simp; omega
            have HE := Lib.hid (show q = false from by rw [HQ2.out, hz3]; rfl)
            clear hk1
            go_wp2
            go_meet
            case rel => exact ⟨by rw [HE.out], rfl⟩
        case rest =>
        obtain ⟨rfl, rfl⟩ := hcut
        cases q with
        | true =>
          have HNN := Lib.hid (show R = -1 from by
            have h1 : kidsF F (badKid l K) (k + 1) (at_ + 1) = none := by rw [kids_snoc, HKF.out]; show (if badKid l K b = true then none else F b) = none; rw [← HQ.out, if_pos rfl]
            have h2 := kids_none _ (K - (k + 1)) h1
            rw [show k + 1 + (K - (k + 1)) = K by have := HLT.out; omega] at h2
            rw [HK.out, h2]; rfl)
          go_wp2
          go_ret
          rw [HNN.out]
          exact ⟨rfl, hbr⟩
        | false =>
          have hstep : kidsF F (badKid l K) (k + 1) (at_ + 1) = F b := by rw [kids_snoc, HKF.out]; show (if badKid l K b = true then none else F b) = F b; rw [← HQ.out, if_neg (by simp)]
          have hrec := HRec.out wr b (HA.out.on hbr) (HFL.out k b HKF.out).1 hbn
          have hwd := HWD.out
          obtain ⟨T, hT⟩ : ∃ T, T = F b := ⟨_, rfl⟩
          rw [← hT] at hrec hstep
          have HST := Lib.hid hstep
          clear hT hstep
          go_wp2_with fail
          refine hrec.mono ?_
          clear hrec hwd
          rintro e w5 ⟨rfl, hb5⟩
          have hbr5 := hbr.trans (hb5.mono hbs)
          have HBR5 := Lib.hid (HBR1.out.trans (hb5.mono HBR1.out.size))
          clear hb5 b1
          cases T with
          | none =>
            have HNN := Lib.hid (show R = -1 from by
              have h2 := kids_none _ (K - (k + 1)) HST.out
              rw [show k + 1 + (K - (k + 1)) = K by have := HLT.out; omega] at h2
              rw [HK.out, h2]; rfl)
            unfold codeO
            go_wp2
            go_ret
            rw [HNN.out]
            exact ⟨rfl, hbr5⟩
          | some b2 =>
            have hb2 := (HFL.out (k + 1) b2 HST.out).2
            have hz1 : decide ((b2 : Int) < 0) = false := by simp
            unfold codeO
            simp only
            go_wp2
            go_roundw
            case rel => exact ⟨k + 1, b2, rfl, by go_num, by omega, hb2, HST, hbr5, HBR5⟩
            case measure => simp [intOf]; omega
      · have hkk : k = K := by omega
        have HE := Lib.hid (show R = (b : Int) from by have h := HKF.out; rw [hkk] at h; rw [HK.out, h]; rfl)
        clear hkk
        go_wp2
        go_ret
        rw [HE.out]
        exact ⟨rfl, hbr⟩

end Go.Proofs.Yteddjmkoleclpaa

namespace Go.Proofs.Yteddjmkoleclpaa
open Go.RowKit Go.Sort

set_option maxHeartbeats 8000000 in
set_option maxRecDepth 100000 in
theorem between_any (A : Option Addr) (n c : Nat) (l : List In) (at_ : Nat) (w : World) (hA : IV w (.slice A n c) l) (hn : n = l.length) (hm : n ≤ 100000000) (ha : at_ < n) (hln : ∀ x ∈ l, x.notes.length ≤ 1000000 ∧ x.pairs.length ≤ 1000000) :
    Calls Try.prog 51 #[.slice A n c, .int .i64 at_] w fun e w' => e = .returned (.bool (betweenI l at_)) ∧ Below w.heap.size w w' := by
  have hal : at_ < l.length := by omega
  have HA := Lib.hid hA
  have HL := Lib.hid hn
  obtain ⟨ad, nv, pv, rfl, hab, c0, c1, c2, c3, c4, hnv, hpv⟩ := hA.at_ hal
  have hgx : l[at_]? = some (l[at_]'hal) := List.getElem?_eq_getElem hal
  obtain ⟨hxb1, hxb2⟩ := hln (l[at_]'hal) (List.getElem_mem hal)
  obtain ⟨x, hx⟩ : ∃ x, x = l[at_]'hal := ⟨_, rfl⟩
  rw [← hx] at c0 c1 c2 hnv hpv hgx hxb1 hxb2
  obtain ⟨R, hR⟩ : ∃ R, R = betweenI l at_ := ⟨_, rfl⟩
  rw [← hR]
  have hRX : R = betweenX x (highFrom l x.depth (at_ + 1)) := by rw [hR]; unfold betweenI; rw [hgx]
  obtain ⟨Bn, dn, rfl, hns, _, _⟩ := hnv
  obtain ⟨Bp, dp, rfl, hps, _, _⟩ := hpv
  obtain ⟨xd, xk, xl, xns, xps⟩ := x
  simp only at c0 c1 c2 c3 c4 hRX hns hps hxb1 hxb2
  obtain ⟨H, hH⟩ : ∃ H, H = highFrom l xd (at_ + 1) := ⟨_, rfl⟩
  rw [← hH] at hRX
  have HH := Lib.hid hH
  unfold betweenX at hRX
  simp only at hRX
  have HNO1 := Lib.hid (show ∀ (j : Nat) (h : j < xns.length), inLow xl H xns[j].key = false → R = false from fun j h h1 => by
    rw [hRX, Bool.and_eq_false_iff]
    left
    rw [List.all_eq_false]
    exact ⟨xns[j], List.getElem_mem _, by rw [h1]; simp⟩)
  have HNO2 := Lib.hid (show ∀ (j : Nat) (h : j < xps.length), inLow xl H xps[j].k = false → R = false from fun j h h1 => by
    rw [hRX, Bool.and_eq_false_iff]
    right
    rw [List.all_eq_false]
    exact ⟨xps[j], List.getElem_mem _, by rw [h1]; simp⟩)
  have HYES := Lib.hid (show (∀ (j : Nat) (h : j < xns.length), inLow xl H xns[j].key = true) → (∀ (j : Nat) (h : j < xps.length), inLow xl H xps[j].k = true) → R = true from fun h1 h2 => by
    rw [hRX, Bool.and_eq_true, List.all_eq_true, List.all_eq_true]
    refine ⟨fun y hy => ?_, fun y hy => ?_⟩
    · obtain ⟨j, hj, rfl⟩ := List.getElem_of_mem hy
      exact h1 j hj
    · obtain ⟨j, hj, rfl⟩ := List.getElem_of_mem hy
      exact h2 j hj)
  obtain ⟨an, han⟩ : ∃ an, an = xns.length := ⟨_, rfl⟩
  obtain ⟨ap, hap⟩ : ∃ ap, ap = xps.length := ⟨_, rfl⟩
  rw [← han] at c3 hxb1
  rw [← hap] at c4 hxb2
  have HLN := Lib.hid han.symm
  have HLP := Lib.hid hap.symm
  obtain ⟨g, hg⟩ : ∃ g, g = w.heap.size := ⟨_, rfl⟩
  obtain ⟨w1, hw1⟩ : ∃ w1, w1 = w.alloc (.cells #[.int .i64 xd, .int .i64 xk, .string xl, .slice Bn an dn, .slice Bp ap dp] 86) := ⟨_, rfl⟩
  have hb1 : Below w.heap.size w w1 := by rw [hw1]; exact (Below.refl _ _).alloc (Nat.le_refl _) _
  have HB1 := Lib.hid hb1
  have HBX := Lib.hid (show Box w1 g 86 #[.int .i64 xd, .int .i64 xk, .string xl, .slice Bn an dn, .slice Bp ap dp] by rw [hw1]; exact Box.at_ w _ _ hg)
  have HGL := Lib.hid (show g < w1.heap.size from HBX.out.lt)
  have HNS := Lib.hid (show Nts w1 w1.heap.size Bn xns from hns.on hb1)
  have HPS := Lib.hid (show Prs w1 w1.heap.size Bp xps from hps.on hb1)
  have HAT := Lib.hid ha
  clear hx hgx hR hRX hH han hap hln hal
  go_enter Try.func51, Try.ntmps51
  go_upto_region 2 with fail
  rw [← hg, ← hw1]
  clear hg hw1 hb1 c0 c1 c2 c3 c4 hab hns hps hA
  go_wp2
  go_loopw [6, 7, 8] (fun vh ve vi wr => ∃ (i : Nat) (hi0 : ByteArray) (e : Bool), vh = .string hi0 ∧ ve = .bool e ∧ vi = .int .i64 i ∧ at_ + 1 ≤ i ∧ i ≤ n ∧ Hid (H = if e then some hi0 else highFrom l xd i) ∧ Below w.heap.size w wr ∧ Hid (Below w1.heap.size w1 wr)) (fun _ _ vi _ => (n - intOf vi).toNat)
  case atStart => exact ⟨at_ + 1, noB, false, rfl, rfl, by go_num, by omega, by have := HAT.out; omega, HH.out, HB1.out, Below.refl _ _⟩
  case round =>
    obtain ⟨i, hi0, e, rfl, rfl, rfl, hai, hin, HHE, hbr, HBR1⟩ := hrel
    have b0 := (HBR1.out.cell HGL.out).trans (Box.cell HBX.out 0 rfl)
    by_cases hgo : i < n ∧ e = false
    · obtain ⟨hlt, rfl⟩ := hgo
      have hil : i < l.length := by rw [← HL.out]; exact hlt
      obtain ⟨ad2, nv, pv, e1, hab2, c0, c1, c2, c3, c4, hnv, hpv⟩ := (HA.out.on hbr).at_ hil
      injection e1 with e1
      subst e1
      have hst := high_succ hil xd
      obtain ⟨yd, hyd⟩ : ∃ y, y = (l[i]'hil).depth := ⟨_, rfl⟩
      obtain ⟨yl, hyl⟩ : ∃ y, y = (l[i]'hil).low := ⟨_, rfl⟩
      rw [← hyd] at c0 hst
      rw [← hyl] at c2 hst
      clear hyd hyl c1 c3 c4 hnv hpv
      by_cases hle : yd ≤ xd
      · have hz : decide (yd ≤ xd) = true := decide_eq_true hle
        rw [if_pos hle] at hst
        have HH2 := Lib.hid (show H = if true then some yl else highFrom l xd (i + 1) from by rw [HHE.out]; exact hst)
        clear hst hle
        go_wp2
        go_quiet (fail)
        go_wp2
        go_roundw
        case rel => exact ⟨i + 1, yl, true, rfl, rfl, by go_num, by omega, by omega, HH2, below_drewN hbr _, below_drewN HBR1.out _⟩
        case measure => simp [intOf]; omega
      · have hz : decide (yd ≤ xd) = false := decide_eq_false hle
        rw [if_neg hle] at hst
        have HH2 := Lib.hid (show H = if false then some hi0 else highFrom l xd (i + 1) from by rw [HHE.out]; exact hst)
        clear hst hle
        go_wp2
        go_quiet (fail)
        go_wp2
        go_roundw
        case rel => exact ⟨i + 1, hi0, false, by first | rfl | trivial, by first | rfl | trivial, by go_num, by omega, by omega, HH2, below_drewN hbr _, below_drewN HBR1.out _⟩
        case measure => simp [intOf]; omega
    · have HHE2 := Lib.hid (show H = if e then some hi0 else none from by
        cases e with
        | true => exact HHE.out
        | false =>
          have : ¬ i < n := fun h => hgo ⟨h, rfl⟩
          rw [HHE.out]
          exact high_end (by rw [← HL.out]; omega) xd)
      have hcond : (decide (i < n) && !e) = false := by
        cases e with
        | true => simp
        | false => have : ¬ i < n := fun h => hgo ⟨h, rfl⟩
                   simp; omega
      obtain ⟨w3, hw3⟩ : ∃ wx, wx = wr := ⟨_, rfl⟩
      rw [← hw3] at hbr HBR1 b0 ⊢
      have HBA := Lib.hid hbr
      have HBC := HBR1
      clear hw3 hbr HHE b0 HBR1 hcond
      have HHE := Lib.hid HHE2.out
      have b3 := (HBC.out.cell HGL.out).trans (Box.cell HBX.out 3 rfl)
      have hie : (i < n ∧ e = true) ∨ ¬ i < n := by
        by_cases h : i < n
        · left
          refine ⟨h, ?_⟩
          cases e with
          | true => rfl
          | false => exact absurd ⟨h, rfl⟩ hgo
        · exact .inr h
      clear hgo HHE2
      rcases hie with ⟨hlt, he⟩ | hlt
      · have hne : (!e) = false := by rw [he]; rfl
        clear he
        go_wp2
        clear hne
        go_loopw [9] (fun vi wr => ∃ (i : Nat), vi = .int .i64 i ∧ i ≤ an ∧ Hid (∀ (j : Nat) (h : j < xns.length), j < i → inLow xl H xns[j].key = true) ∧ Below w.heap.size w wr ∧ Hid (Below w1.heap.size w1 wr)) (fun vi _ => (an - intOf vi).toNat)
        case atStart => exact ⟨0, rfl, by omega, fun j h h0 => by omega, HBA.out, HBC.out⟩
        case round =>
          obtain ⟨i, rfl, hi, HG, hbr, HBR1⟩ := hrel
          have b2 := (HBR1.out.cell HGL.out).trans (Box.cell HBX.out 2 rfl)
          have b3 := (HBR1.out.cell HGL.out).trans (Box.cell HBX.out 3 rfl)
          have b4 := (HBR1.out.cell HGL.out).trans (Box.cell HBX.out 4 rfl)
          by_cases hlt : i < an
          · have hil : i < xns.length := by rw [HLN.out]; exact hlt
            obtain ⟨ad2, rfl, hab2, hca⟩ := (HNS.out.below HBR1.out).seeN (by rw [HLN.out]; omega)
            have c1 := (hca i hil).2.1
            obtain ⟨ke, hke⟩ : ∃ ke, ke = (xns[i]'hil).key := ⟨_, rfl⟩
            rw [← hke] at c1
            have HKE := Lib.hid hke
            clear hke hca
            by_cases h1 : ke < xl
            · have hles : Op.bytesLess ke.toList xl.toList = true := lt_iff.1 h1
              have HRF := Lib.hid (show R = false from HNO1.out i hil (by rw [← HKE.out]; unfold inLow; rw [decide_eq_true h1]; rfl))
              clear h1 HG
              go_wp2
              go_quiet (fail)
              go_wp2
              go_ret
              rw [HRF.out]
              exact ⟨rfl, below_drewN hbr _⟩
            · have hles : Op.bytesLess ke.toList xl.toList = false := by
                have h2 : ltS ke xl = false := by rw [ltS_eq]; exact decide_eq_false h1
                exact h2
              cases e with
              | false =>
                have HG2 := Lib.hid (show ∀ (j : Nat) (h : j < xns.length), j < i + 1 → inLow xl H xns[j].key = true from fun j h h0 => by
                  by_cases hj : j < i
                  · exact HG.out j h hj
                  · have : j = i := by omega
                    subst this
                    rw [← HKE.out, HHE.out]; unfold inLow; rw [decide_eq_false h1]; rfl)
                clear h1 HG
                go_wp2
                go_quiet (fail)
                go_wp2
                go_roundw
                case rel => exact ⟨i + 1, by go_num, by omega, HG2, below_drewN hbr _, below_drewN HBR1.out _⟩
                case measure => simp [intOf]; omega
              | true =>
                by_cases h2 : ke < hi0
                · have hles2 : Op.bytesLess ke.toList hi0.toList = true := lt_iff.1 h2
                  have HG2 := Lib.hid (show ∀ (j : Nat) (h : j < xns.length), j < i + 1 → inLow xl H xns[j].key = true from fun j h h0 => by
                    by_cases hj : j < i
                    · exact HG.out j h hj
                    · have : j = i := by omega
                      subst this
                      rw [← HKE.out, HHE.out]; unfold inLow; rw [decide_eq_false h1]; exact decide_eq_true h2)
                  clear h1 h2 HG
                  go_wp2
                  go_quiet (fail)
                  go_wp2
                  go_roundw
                  case rel => exact ⟨i + 1, by go_num, by omega, HG2, below_drewN hbr _, below_drewN HBR1.out _⟩
                  case measure => simp [intOf]; omega
                · have hles2 : Op.bytesLess ke.toList hi0.toList = false := by
                    have h3 : ltS ke hi0 = false := by rw [ltS_eq]; exact decide_eq_false h2
                    exact h3
                  have HRF := Lib.hid (show R = false from HNO1.out i hil (by rw [← HKE.out, HHE.out]; unfold inLow; rw [decide_eq_false h1]; exact decide_eq_false h2))
                  clear h1 h2 HG
                  go_wp2
                  go_quiet (fail)
                  go_wp2
                  go_ret
                  rw [HRF.out]
                  exact ⟨rfl, below_drewN hbr _⟩
          · have HALL1 := Lib.hid (show ∀ (j : Nat) (h : j < xns.length), inLow xl H xns[j].key = true from fun j h => HG.out j h (by rw [HLN.out] at h; omega))
            clear HG
            obtain ⟨w4, hw4⟩ : ∃ wx, wx = wr := ⟨_, rfl⟩
            rw [← hw4] at hbr HBR1 b3 b4 ⊢
            have HBD := Lib.hid hbr
            have HBE := HBR1
            clear hw4 hbr HBR1 b2
            go_wp2
            go_loopw [10] (fun vi wr => ∃ (i : Nat), vi = .int .i64 i ∧ i ≤ ap ∧ Hid (∀ (j : Nat) (h : j < xps.length), j < i → inLow xl H xps[j].k = true) ∧ Below w.heap.size w wr ∧ Hid (Below w1.heap.size w1 wr)) (fun vi _ => (ap - intOf vi).toNat)
            case atStart => exact ⟨0, rfl, by omega, fun j h h0 => by omega, HBD.out, HBE.out⟩
            case round =>
              obtain ⟨i, rfl, hi, HG, hbr, HBR1⟩ := hrel
              have b2 := (HBR1.out.cell HGL.out).trans (Box.cell HBX.out 2 rfl)
              have b3 := (HBR1.out.cell HGL.out).trans (Box.cell HBX.out 3 rfl)
              have b4 := (HBR1.out.cell HGL.out).trans (Box.cell HBX.out 4 rfl)
              by_cases hlt : i < ap
              · have hil : i < xps.length := by rw [HLP.out]; exact hlt
                obtain ⟨ad2, rfl, hab2, hca⟩ := (HPS.out.below HBR1.out).seeP (by rw [HLP.out]; omega)
                have c1 := (hca i hil).1
                obtain ⟨ke, hke⟩ : ∃ ke, ke = (xps[i]'hil).k := ⟨_, rfl⟩
                rw [← hke] at c1
                have HKE := Lib.hid hke
                clear hke hca
                by_cases h1 : ke < xl
                · have hles : Op.bytesLess ke.toList xl.toList = true := lt_iff.1 h1
                  have HRF := Lib.hid (show R = false from HNO2.out i hil (by rw [← HKE.out]; unfold inLow; rw [decide_eq_true h1]; rfl))
                  clear h1 HG
                  go_wp2
                  go_quiet (fail)
                  go_wp2
                  go_ret
                  rw [HRF.out]
                  exact ⟨rfl, below_drewN hbr _⟩
                · have hles : Op.bytesLess ke.toList xl.toList = false := by
                    have h2 : ltS ke xl = false := by rw [ltS_eq]; exact decide_eq_false h1
                    exact h2
                  cases e with
                  | false =>
                    have HG2 := Lib.hid (show ∀ (j : Nat) (h : j < xps.length), j < i + 1 → inLow xl H xps[j].k = true from fun j h h0 => by
                      by_cases hj : j < i
                      · exact HG.out j h hj
                      · have : j = i := by omega
                        subst this
                        rw [← HKE.out, HHE.out]; unfold inLow; rw [decide_eq_false h1]; rfl)
                    clear h1 HG
                    go_wp2
                    go_quiet (fail)
                    go_wp2
                    go_roundw
                    case rel => exact ⟨i + 1, by go_num, by omega, HG2, below_drewN hbr _, below_drewN HBR1.out _⟩
                    case measure => simp [intOf]; omega
                  | true =>
                    by_cases h2 : ke < hi0
                    · have hles2 : Op.bytesLess ke.toList hi0.toList = true := lt_iff.1 h2
                      have HG2 := Lib.hid (show ∀ (j : Nat) (h : j < xps.length), j < i + 1 → inLow xl H xps[j].k = true from fun j h h0 => by
                        by_cases hj : j < i
                        · exact HG.out j h hj
                        · have : j = i := by omega
                          subst this
                          rw [← HKE.out, HHE.out]; unfold inLow; rw [decide_eq_false h1]; exact decide_eq_true h2)
                      clear h1 h2 HG
                      go_wp2
                      go_quiet (fail)
                      go_wp2
                      go_roundw
                      case rel => exact ⟨i + 1, by go_num, by omega, HG2, below_drewN hbr _, below_drewN HBR1.out _⟩
                      case measure => simp [intOf]; omega
                    · have hles2 : Op.bytesLess ke.toList hi0.toList = false := by
                        have h3 : ltS ke hi0 = false := by rw [ltS_eq]; exact decide_eq_false h2
                        exact h3
                      have HRF := Lib.hid (show R = false from HNO2.out i hil (by rw [← HKE.out, HHE.out]; unfold inLow; rw [decide_eq_false h1]; exact decide_eq_false h2))
                      clear h1 h2 HG
                      go_wp2
                      go_quiet (fail)
                      go_wp2
                      go_ret
                      rw [HRF.out]
                      exact ⟨rfl, below_drewN hbr _⟩
              · have HALL2 := Lib.hid (show ∀ (j : Nat) (h : j < xps.length), inLow xl H xps[j].k = true from fun j h => HG.out j h (by rw [HLP.out] at h; omega))
                clear HG
                have HE := Lib.hid (HYES.out HALL1.out HALL2.out)
                go_wp2
                go_ret
                rw [HE.out]
                exact ⟨rfl, hbr⟩
      · go_wp2
        go_loopw [9] (fun vi wr => ∃ (i : Nat), vi = .int .i64 i ∧ i ≤ an ∧ Hid (∀ (j : Nat) (h : j < xns.length), j < i → inLow xl H xns[j].key = true) ∧ Below w.heap.size w wr ∧ Hid (Below w1.heap.size w1 wr)) (fun vi _ => (an - intOf vi).toNat)
        case atStart => exact ⟨0, rfl, by omega, fun j h h0 => by omega, HBA.out, HBC.out⟩
        case round =>
          obtain ⟨i, rfl, hi, HG, hbr, HBR1⟩ := hrel
          have b2 := (HBR1.out.cell HGL.out).trans (Box.cell HBX.out 2 rfl)
          have b3 := (HBR1.out.cell HGL.out).trans (Box.cell HBX.out 3 rfl)
          have b4 := (HBR1.out.cell HGL.out).trans (Box.cell HBX.out 4 rfl)
          by_cases hlt : i < an
          · have hil : i < xns.length := by rw [HLN.out]; exact hlt
            obtain ⟨ad2, rfl, hab2, hca⟩ := (HNS.out.below HBR1.out).seeN (by rw [HLN.out]; omega)
            have c1 := (hca i hil).2.1
            obtain ⟨ke, hke⟩ : ∃ ke, ke = (xns[i]'hil).key := ⟨_, rfl⟩
            rw [← hke] at c1
            have HKE := Lib.hid hke
            clear hke hca
            by_cases h1 : ke < xl
            · have hles : Op.bytesLess ke.toList xl.toList = true := lt_iff.1 h1
              have HRF := Lib.hid (show R = false from HNO1.out i hil (by rw [← HKE.out]; unfold inLow; rw [decide_eq_true h1]; rfl))
              clear h1 HG
              go_wp2
              go_quiet (fail)
              go_wp2
              go_ret
              rw [HRF.out]
              exact ⟨rfl, below_drewN hbr _⟩
            · have hles : Op.bytesLess ke.toList xl.toList = false := by
                have h2 : ltS ke xl = false := by rw [ltS_eq]; exact decide_eq_false h1
                exact h2
              cases e with
              | false =>
                have HG2 := Lib.hid (show ∀ (j : Nat) (h : j < xns.length), j < i + 1 → inLow xl H xns[j].key = true from fun j h h0 => by
                  by_cases hj : j < i
                  · exact HG.out j h hj
                  · have : j = i := by omega
                    subst this
                    rw [← HKE.out, HHE.out]; unfold inLow; rw [decide_eq_false h1]; rfl)
                clear h1 HG
                go_wp2
                go_quiet (fail)
                go_wp2
                go_roundw
                case rel => exact ⟨i + 1, by go_num, by omega, HG2, below_drewN hbr _, below_drewN HBR1.out _⟩
                case measure => simp [intOf]; omega
              | true =>
                by_cases h2 : ke < hi0
                · have hles2 : Op.bytesLess ke.toList hi0.toList = true := lt_iff.1 h2
                  have HG2 := Lib.hid (show ∀ (j : Nat) (h : j < xns.length), j < i + 1 → inLow xl H xns[j].key = true from fun j h h0 => by
                    by_cases hj : j < i
                    · exact HG.out j h hj
                    · have : j = i := by omega
                      subst this
                      rw [← HKE.out, HHE.out]; unfold inLow; rw [decide_eq_false h1]; exact decide_eq_true h2)
                  clear h1 h2 HG
                  go_wp2
                  go_quiet (fail)
                  go_wp2
                  go_roundw
                  case rel => exact ⟨i + 1, by go_num, by omega, HG2, below_drewN hbr _, below_drewN HBR1.out _⟩
                  case measure => simp [intOf]; omega
                · have hles2 : Op.bytesLess ke.toList hi0.toList = false := by
                    have h3 : ltS ke hi0 = false := by rw [ltS_eq]; exact decide_eq_false h2
                    exact h3
                  have HRF := Lib.hid (show R = false from HNO1.out i hil (by rw [← HKE.out, HHE.out]; unfold inLow; rw [decide_eq_false h1]; exact decide_eq_false h2))
                  clear h1 h2 HG
                  go_wp2
                  go_quiet (fail)
                  go_wp2
                  go_ret
                  rw [HRF.out]
                  exact ⟨rfl, below_drewN hbr _⟩
          · have HALL1 := Lib.hid (show ∀ (j : Nat) (h : j < xns.length), inLow xl H xns[j].key = true from fun j h => HG.out j h (by rw [HLN.out] at h; omega))
            clear HG
            obtain ⟨w4, hw4⟩ : ∃ wx, wx = wr := ⟨_, rfl⟩
            rw [← hw4] at hbr HBR1 b3 b4 ⊢
            have HBD := Lib.hid hbr
            have HBE := HBR1
            clear hw4 hbr HBR1 b2
            go_wp2
            go_loopw [10] (fun vi wr => ∃ (i : Nat), vi = .int .i64 i ∧ i ≤ ap ∧ Hid (∀ (j : Nat) (h : j < xps.length), j < i → inLow xl H xps[j].k = true) ∧ Below w.heap.size w wr ∧ Hid (Below w1.heap.size w1 wr)) (fun vi _ => (ap - intOf vi).toNat)
            case atStart => exact ⟨0, rfl, by omega, fun j h h0 => by omega, HBD.out, HBE.out⟩
            case round =>
              obtain ⟨i, rfl, hi, HG, hbr, HBR1⟩ := hrel
              have b2 := (HBR1.out.cell HGL.out).trans (Box.cell HBX.out 2 rfl)
              have b3 := (HBR1.out.cell HGL.out).trans (Box.cell HBX.out 3 rfl)
              have b4 := (HBR1.out.cell HGL.out).trans (Box.cell HBX.out 4 rfl)
              by_cases hlt : i < ap
              · have hil : i < xps.length := by rw [HLP.out]; exact hlt
                obtain ⟨ad2, rfl, hab2, hca⟩ := (HPS.out.below HBR1.out).seeP (by rw [HLP.out]; omega)
                have c1 := (hca i hil).1
                obtain ⟨ke, hke⟩ : ∃ ke, ke = (xps[i]'hil).k := ⟨_, rfl⟩
                rw [← hke] at c1
                have HKE := Lib.hid hke
                clear hke hca
                by_cases h1 : ke < xl
                · have hles : Op.bytesLess ke.toList xl.toList = true := lt_iff.1 h1
                  have HRF := Lib.hid (show R = false from HNO2.out i hil (by rw [← HKE.out]; unfold inLow; rw [decide_eq_true h1]; rfl))
                  clear h1 HG
                  go_wp2
                  go_quiet (fail)
                  go_wp2
                  go_ret
                  rw [HRF.out]
                  exact ⟨rfl, below_drewN hbr _⟩
                · have hles : Op.bytesLess ke.toList xl.toList = false := by
                    have h2 : ltS ke xl = false := by rw [ltS_eq]; exact decide_eq_false h1
                    exact h2
                  cases e with
                  | false =>
                    have HG2 := Lib.hid (show ∀ (j : Nat) (h : j < xps.length), j < i + 1 → inLow xl H xps[j].k = true from fun j h h0 => by
                      by_cases hj : j < i
                      · exact HG.out j h hj
                      · have : j = i := by omega
                        subst this
                        rw [← HKE.out, HHE.out]; unfold inLow; rw [decide_eq_false h1]; rfl)
                    clear h1 HG
                    go_wp2
                    go_quiet (fail)
                    go_wp2
                    go_roundw
                    case rel => exact ⟨i + 1, by go_num, by omega, HG2, below_drewN hbr _, below_drewN HBR1.out _⟩
                    case measure => simp [intOf]; omega
                  | true =>
                    by_cases h2 : ke < hi0
                    · have hles2 : Op.bytesLess ke.toList hi0.toList = true := lt_iff.1 h2
                      have HG2 := Lib.hid (show ∀ (j : Nat) (h : j < xps.length), j < i + 1 → inLow xl H xps[j].k = true from fun j h h0 => by
                        by_cases hj : j < i
                        · exact HG.out j h hj
                        · have : j = i := by omega
                          subst this
                          rw [← HKE.out, HHE.out]; unfold inLow; rw [decide_eq_false h1]; exact decide_eq_true h2)
                      clear h1 h2 HG
                      go_wp2
                      go_quiet (fail)
                      go_wp2
                      go_roundw
                      case rel => exact ⟨i + 1, by go_num, by omega, HG2, below_drewN hbr _, below_drewN HBR1.out _⟩
                      case measure => simp [intOf]; omega
                    · have hles2 : Op.bytesLess ke.toList hi0.toList = false := by
                        have h3 : ltS ke hi0 = false := by rw [ltS_eq]; exact decide_eq_false h2
                        exact h3
                      have HRF := Lib.hid (show R = false from HNO2.out i hil (by rw [← HKE.out, HHE.out]; unfold inLow; rw [decide_eq_false h1]; exact decide_eq_false h2))
                      clear h1 h2 HG
                      go_wp2
                      go_quiet (fail)
                      go_wp2
                      go_ret
                      rw [HRF.out]
                      exact ⟨rfl, below_drewN hbr _⟩
              · have HALL2 := Lib.hid (show ∀ (j : Nat) (h : j < xps.length), inLow xl H xps[j].k = true from fun j h => HG.out j h (by rw [HLP.out] at h; omega))
                clear HG
                have HE := Lib.hid (HYES.out HALL1.out HALL2.out)
                go_wp2
                go_ret
                rw [HE.out]
                exact ⟨rfl, hbr⟩
theorem between_v {v : Value} {l : List In} {at_ : Nat} {w : World} (h : IV w v l) (hm : l.length ≤ 100000000) (ha : at_ < l.length) (hln : ∀ x ∈ l, x.notes.length ≤ 1000000 ∧ x.pairs.length ≤ 1000000) :
    Calls Try.prog 51 #[v, .int .i64 at_] w fun e w' => e = .returned (.bool (betweenI l at_)) ∧ Below w.heap.size w w' := by
  have h0 := h
  obtain ⟨A, c, rfl⟩ := h.shape
  exact between_any A l.length c l at_ w h0 rfl hm ha hln

end Go.Proofs.Yteddjmkoleclpaa
