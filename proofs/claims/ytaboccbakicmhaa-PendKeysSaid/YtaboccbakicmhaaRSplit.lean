/- The walks of the document's Part, Rises and Split; values that are slices of strings. -/
import Derived.Test.YtaboccbakicmhaaRPush
set_option linter.unusedVariables false
set_option linter.unusedSimpArgs false
namespace Go.Proofs.Ytaboccbakicmhaa
open Go.RowKit

/-- A value that is a slice of these strings. -/
def SSV (w : World) (v : Value) (l : List ByteArray) : Prop := ∃ A c, v = .slice A l.length c ∧ Strs w w.heap.size A l
theorem Strs.on {w w' : World} {A : Option Addr} {l : List ByteArray} (h : Strs w w.heap.size A l) (hb : Below w.heap.size w w') : Strs w' w'.heap.size A l := (h.below hb).more hb.size
theorem SSV.on {w w' : World} {v : Value} {l : List ByteArray} (h : SSV w v l) (hb : Below w.heap.size w w') : SSV w' v l := by
  obtain ⟨A, c, e, hp⟩ := h
  exact ⟨A, c, e, hp.on hb⟩
theorem SSV.push {w : World} {v : Value} {l : List ByteArray} (h : SSV w v l) (o : Obj) : SSV (w.alloc o) v l := h.on ((Below.refl _ w).alloc (Nat.le_refl _) o)
theorem SSV.two (w : World) (x y : ByteArray) {g : Nat} (hg : g = w.heap.size) : SSV (w.alloc (.cells #[.string x, .string y] 9)) (.slice (some ⟨g, 0, none⟩) 2 2) [x, y] := by
  subst hg
  exact ⟨_, _, rfl, (strs_two w _ x y).more (by simp)⟩

set_option maxHeartbeats 1000000 in
set_option maxRecDepth 100000 in
theorem dpart_any (key : ByteArray) (A : Option Addr) (c : Nat) (lows : List ByteArray) (w : World) (hA : Strs w w.heap.size A lows) (hn : lows.length ≤ maxLen) :
    Calls Try.prog 37 #[.string key, .slice A lows.length c] w fun e w' => e = .returned (.int .i64 (partN' key lows)) ∧ Below w.heap.size w w' := by
  unfold maxLen at hn
  have HP := Lib.hid (show partN' key lows = partTo key lows lows.length from rfl)
  obtain ⟨R, hR⟩ : ∃ R, R = partN' key lows := ⟨_, rfl⟩
  rw [← hR] at HP ⊢
  clear hR
  obtain ⟨n, hl⟩ : ∃ n, lows.length = n := ⟨_, rfl⟩
  rw [hl] at hn HP ⊢
  have HL := Lib.hid hl
  have HA := Lib.hid hA
  clear hl hA
  go_enter Try.func37, Try.ntmps37
  go_wp2
  go_loopw [5, 6] (fun a i wr => ∃ (k q : Nat), a = .int .i64 q ∧ i = .int .i64 k ∧ k ≤ n ∧ Hid (q = partTo key lows k) ∧ Below w.heap.size w wr) (fun _ i _ => (n - intOf i).toNat)
  case atStart => exact ⟨0, 0, rfl, rfl, by omega, by show _ = _; rfl, Below.refl _ _⟩
  case round =>
    obtain ⟨k, q, rfl, rfl, hk, HQ, hbr⟩ := hrel
    by_cases hlt : k < n
    · obtain ⟨ad, rfl, hab, hca⟩ := (HA.out.below hbr) (by rw [HL.out]; omega)
      have hkl : k < lows.length := by rw [HL.out]; exact hlt
      have c1 := hca k hkl
      obtain ⟨x, hx⟩ : ∃ x, x = lows[k]'hkl := ⟨_, rfl⟩
      rw [← hx] at c1
      have HX := Lib.hid (show lows.getD k noB = x by rw [hx, List.getD_eq_getElem?_getD, List.getElem?_eq_getElem hkl]; rfl)
      clear hx hca
      have hst : partTo key lows (k + 1) = if x ≤ key then k else partTo key lows k := by rw [← HX.out]; rfl
      by_cases hxk : x = key
      · have hz := str_eq hxk
        have hles : Op.bytesLess x.toList key.toList = false := by
          have h1 : ltS x key = false := by rw [ltS_eq]; exact decide_eq_false (by grind)
          exact h1
        rw [if_pos (by grind)] at hst
        have HST := Lib.hid hst
        clear hst hxk
        go_wp2
        go_roundw
        case rel => exact ⟨k + 1, k, by first | rfl | trivial | go_num, by go_num, by omega, HST.out.symm, hbr⟩
        case measure => simp [intOf]; omega
      · have hz := str_ne hxk
        by_cases hxl : x < key
        · have hles : Op.bytesLess x.toList key.toList = true := lt_iff.1 hxl
          rw [if_pos (by grind)] at hst
          have HST := Lib.hid hst
          clear hst hxk hxl
          go_wp2
          go_roundw
          case rel => exact ⟨k + 1, k, by first | rfl | trivial | go_num, by go_num, by omega, HST.out.symm, hbr⟩
          case measure => simp [intOf]; omega
        · have hles : Op.bytesLess x.toList key.toList = false := by
            have h1 : ltS x key = false := by rw [ltS_eq]; exact decide_eq_false hxl
            exact h1
          rw [if_neg (by grind)] at hst
          have HST := Lib.hid (hst.trans HQ.out.symm)
          clear hst hxk hxl HQ
          go_wp2
          go_roundw
          case rel => exact ⟨k + 1, q, by first | rfl | trivial | go_num, by go_num, by omega, HST.out.symm, hbr⟩
          case measure => simp [intOf]; omega
    · have hkn : k = n := by omega
      have HE := Lib.hid (show q = R by rw [HP.out, HQ.out, hkn])
      clear HQ hkn
      go_wp2
      go_ret
      rw [HE.out]
      exact ⟨rfl, hbr⟩
theorem dpart_v {v : Value} {lows : List ByteArray} {w : World} (h : SSV w v lows) (key : ByteArray) (hn : lows.length ≤ maxLen) :
    Calls Try.prog 37 #[.string key, v] w fun e w' => e = .returned (.int .i64 (partN' key lows)) ∧ Below w.heap.size w w' := by
  obtain ⟨A, c, rfl, h1⟩ := h
  exact dpart_any key A c lows w h1 hn

set_option maxHeartbeats 1000000 in
set_option maxRecDepth 100000 in
theorem drises_any (A : Option Addr) (c : Nat) (l : List ByteArray) (w : World) (hA : Strs w w.heap.size A l) (hn : l.length ≤ maxLen) :
    Calls Try.prog 19 #[.slice A l.length c] w fun e w' => e = .returned (.bool (risesS l)) ∧ Below w.heap.size w w' := by
  unfold maxLen at hn
  obtain ⟨R, hR⟩ : ∃ R, R = risesS l := ⟨_, rfl⟩
  rw [← hR]
  have HY := Lib.hid (show (∀ i (h : i < l.length), 0 < i → l[i - 1] < l[i]) → R = true from fun h => by rw [hR]; exact (risesS_iff l).2 h)
  have HNo := Lib.hid (show ∀ i (h : i < l.length), 0 < i → ¬ l[i - 1] < l[i] → R = false from fun i h h0 hn => by rw [hR]; exact risesS_no i h h0 hn)
  clear hR
  obtain ⟨n, hl⟩ : ∃ n, l.length = n := ⟨_, rfl⟩
  rw [hl] at hn ⊢
  have HL := Lib.hid hl
  have HA := Lib.hid hA
  clear hl hA
  go_enter Try.func19, Try.ntmps19
  go_wp2
  go_loopw [3] (fun i wr => ∃ (k : Nat), i = .int .i64 k ∧ 1 ≤ k ∧ Hid (∀ i (h : i < l.length), 0 < i → i < k → l[i - 1] < l[i]) ∧ Below w.heap.size w wr) (fun i _ => (n - intOf i).toNat)
  case atStart => exact ⟨1, rfl, by omega, fun i h h0 h1 => by omega, Below.refl _ _⟩
  case round =>
    obtain ⟨k, rfl, hk, HG, hbr⟩ := hrel
    by_cases hlt : k < n
    · obtain ⟨ad, rfl, hab, hca⟩ := (HA.out.below hbr) (by rw [HL.out]; omega)
      have hkl : k < l.length := by rw [HL.out]; exact hlt
      have hk1 : k - 1 < l.length := by omega
      have c2 := hca k hkl
      obtain ⟨kp, hkp⟩ : ∃ kp, kp = k - 1 := ⟨_, rfl⟩
      have hkpl : kp < l.length := by omega
      have wk : IntKind.i64.wrap ((k : Int) - 1) = (kp : Int) := by rw [IntKind.wrap_i64]; omega
      have hkn : kp < n := by omega
      have d2 := hca kp hkpl
      obtain ⟨xe, hxe⟩ : ∃ x, x = l[k]'hkl := ⟨_, rfl⟩
      obtain ⟨pe, hpe⟩ : ∃ x, x = l[kp]'hkpl := ⟨_, rfl⟩
      rw [← hxe] at c2
      rw [← hpe] at d2
      have HX := Lib.hid hxe
      have HP := Lib.hid (show l[k - 1]'hk1 = pe from by rw [hpe]; congr 1; exact hkp.symm)
      clear hxe hpe hca hkp
      by_cases hkk : pe < xe
      · have hles : Op.bytesLess pe.toList xe.toList = true := lt_iff.1 hkk
        have HG2 := Lib.hid (show ∀ i (h : i < l.length), 0 < i → i < k + 1 → l[i - 1] < l[i] from fun i h h0 h1 => by
          by_cases hi : i < k
          · exact HG.out i h h0 hi
          · have : i = k := by omega
            subst this
            rw [HP.out, ← HX.out]; exact hkk)
        clear HG hkk
        go_wp2
        go_quiet (fail)
        go_wp2
        go_roundw
        case rel => exact ⟨k + 1, by go_num, by omega, HG2.out, below_drewN hbr _⟩
        case measure => simp [intOf]; omega
      · have hles : Op.bytesLess pe.toList xe.toList = false := by
          have h1 : ltS pe xe = false := by rw [ltS_eq]; exact decide_eq_false hkk
          exact h1
        have HE := Lib.hid (HNo.out k hkl (by omega) (by rw [HP.out, ← HX.out]; exact hkk))
        clear HG hkk
        go_wp2
        go_quiet (fail)
        go_wp2
        go_ret
        rw [HE.out]
        exact ⟨rfl, below_drewN hbr _⟩
    · have HE := Lib.hid (HY.out fun i h h0 => HG.out i h h0 (by rw [HL.out] at h; omega))
      go_wp2
      go_ret
      rw [HE.out]
      exact ⟨rfl, hbr⟩
theorem drises_v {v : Value} {l : List ByteArray} {w : World} (h : SSV w v l) (hn : l.length ≤ maxLen) :
    Calls Try.prog 19 #[v] w fun e w' => e = .returned (.bool (risesS l)) ∧ Below w.heap.size w w' := by
  obtain ⟨A, c, rfl, h1⟩ := h
  exact drises_any A c l w h1 hn

def partF (l : List Nt) (lows : List ByteArray) (at_ : Nat) : List Nt := l.filter fun n => decide (partN' n.key lows = at_)

set_option maxHeartbeats 2000000 in
set_option maxRecDepth 100000 in
theorem dsplit_any (A : Option Addr) (c : Nat) (l : List Nt) (v : Value) (lows : List ByteArray) (at_ : Nat) (w : World) (hA : Nts w w.heap.size A l) (hV : SSV w v lows) (hn : l.length ≤ 1000) (hm : lows.length ≤ maxLen) :
    Calls Try.prog 20 #[.slice A l.length c, v, .int .i64 at_] w fun e w' => ∃ v', e = .returned v' ∧ NV w' v' (partF l lows at_) ∧ Below w.heap.size w w' := by
  have HPC := Lib.hid (fun (wx : World) (h : SSV wx v lows) (key : ByteArray) => dpart_v h key hm)
  obtain ⟨n, hl⟩ : ∃ n, l.length = n := ⟨_, rfl⟩
  rw [hl] at hn ⊢
  have HL := Lib.hid hl
  have HA := Lib.hid hA
  have HV := Lib.hid hV
  clear hl hA hV hm
  go_enter Try.func20, Try.ntmps20
  go_wp2
  go_loopw [7, 8] (fun o i wr => ∃ (k m : Nat), i = .int .i64 k ∧ k ≤ n ∧ Hid (wr.ownsRow w.heap.size 32 4 o m ((partF (l.take k) lows at_).flatMap Nt.cells)) ∧ Hid (m = (partF (l.take k) lows at_).length) ∧ Below w.heap.size w wr) (fun _ i _ => (n - intOf i).toNat)
  case atStart => exact ⟨0, 0, rfl, by omega, by show World.ownsRow _ _ _ _ _ _ _; exact World.ownsRow_nil _ _ _ _, by show _ = _; simp [partF], Below.refl _ _⟩
  case round =>
    obtain ⟨k, m, rfl, hk, HO, HM, hbr⟩ := hrel
    have hbs := hbr.size
    by_cases hlt : k < n
    · obtain ⟨ad, rfl, hab, hca⟩ := HA.out.seeN (by rw [HL.out]; omega)
      have hkl : k < l.length := by rw [HL.out]; exact hlt
      have hc := hca k hkl
      obtain ⟨x, hx⟩ : ∃ x, x = l[k]'hkl := ⟨_, rfl⟩
      rw [← hx] at hc
      have hst : partF (l.take (k + 1)) lows at_ = partF (l.take k) lows at_ ++ (if partN' x.key lows = at_ then [x] else []) := by
        rw [List.take_succ_eq_append_getElem hkl, ← hx]
        unfold partF
        rw [List.filter_append, List.filter_cons, List.filter_nil]
        by_cases h : partN' x.key lows = at_ <;> simp [h]
      have HMB := Lib.hid (show m ≤ 1000 from by
        have h1 := List.length_filter_le (fun n : Nt => decide (partN' n.key lows = at_)) (l.take k)
        have h2 : (l.take k).length ≤ k := by simp; omega
        have h3 := HM.out
        unfold partF at h3
        omega)
      obtain ⟨xk, xe, xv, xn⟩ := x
      simp only at hc hst
      obtain ⟨p, hp⟩ : ∃ p, p = partN' xe lows := ⟨_, rfl⟩
      rw [← hp] at hst
      have hcall := HPC.out wr (HV.out.on hbr) xe
      rw [← hp] at hcall
      have HC := Lib.hid (show ∀ wx, Below w.heap.size w wx → wx.cell? (ad.add (k * 4)) = some (.int .i64 xk) ∧ wx.cell? ⟨(ad.add (k * 4)).block, (ad.add (k * 4)).off + 1, none⟩ = some (.string xe) ∧ wx.cell? ⟨(ad.add (k * 4)).block, (ad.add (k * 4)).off + 2, none⟩ = some (.string xv) ∧ wx.cell? ⟨(ad.add (k * 4)).block, (ad.add (k * 4)).off + 3, none⟩ = some (.int .u64 (xn.toNat : Int)) from fun wx hS =>
        ⟨(hS.cell (lt_of_cell hc.1)).trans hc.1, (hS.cell (lt_of_cell hc.2.1)).trans hc.2.1, (hS.cell (lt_of_cell hc.2.2.1)).trans hc.2.2.1, (hS.cell (lt_of_cell hc.2.2.2)).trans hc.2.2.2⟩)
      have HST := Lib.hid hst
      clear hx hca hc hst hp
      obtain ⟨c1, c2, c3, c4⟩ := HC.out wr hbr
      go_wp2_with fail
      refine hcall.mono ?_
      clear hcall c1 c2 c3 c4
      rintro e w2 ⟨rfl, hb2⟩
      have hbr2 := hbr.trans (hb2.mono hbs)
      have D5 := Lib.hid (own_below HO.out hb2)
      obtain ⟨c1, c2, c3, c4⟩ := HC.out w2 hbr2
      clear hb2 hbr hbs HO
      by_cases hpa : p = at_
      · have HS2 := Lib.hid (show partF (l.take (k + 1)) lows at_ = partF (l.take k) lows at_ ++ [⟨xk, xe, xv, xn⟩] by rw [HST.out, if_pos hpa])
        have hz : ((p : Int) == (at_ : Int)) = true := by simp; omega
        have hownA := D5.out
        have hbsA := hbr2.size
        clear hpa
        go_wp2_with (at_builtin; refine append_nts _ rfl _ _ rfl w.heap.size _ m ((partF (l.take k) lows at_).flatMap Nt.cells) rfl (hownA.alloc _) (w2.heap.size + 1) (some ⟨w2.heap.size, 0, none⟩) 1 1 [⟨xk, xe, xv, xn⟩] rfl rfl ?a1 (fun h => by cases h) ?a2 ?a3 ?_)
        case a1 => exact Lies.lit Nt.cells4 rfl
        case a2 => have := HMB.out; omega
        case a3 => first | omega | (simp; omega)
        intro v6 wf hown2 hg2
        have hk2 : ∀ k, Value.ownBlock _ = some k → w.heap.size ≤ k := fun k hk => (own_lt hownA hk).1
        have hbf : Below w.heap.size w wf := (hbr2.alloc hbsA _).grown hg2 (by simp; omega) hk2
        have F5 := Lib.hid (show wf.ownsRow w.heap.size 32 4 v6 (m + 1) ((partF (l.take (k + 1)) lows at_).flatMap Nt.cells) from by show World.ownsRow _ _ _ _ _ _ _; rw [HS2.out, List.flatMap_append]; simpa using hown2)
        clear hownA hbsA hown2 hg2 hk2 c1 c2 c3 c4 D5
        go_wp2
        go_roundw
        case rel => exact ⟨k + 1, m + 1, by go_num, by omega, F5, by show _ = _; rw [HS2.out, List.length_append, ← HM.out]; rfl, hbf⟩
        case measure => simp [intOf]; omega
      · have HS2 := Lib.hid (show partF (l.take (k + 1)) lows at_ = partF (l.take k) lows at_ by rw [HST.out, if_neg hpa, List.append_nil])
        have hz : ((p : Int) == (at_ : Int)) = false := by simp; omega
        clear hpa c1 c2 c3 c4
        go_wp2
        go_roundw
        case rel => exact ⟨k + 1, m, by go_num, by omega, by show World.ownsRow _ _ _ _ _ _ _; rw [HS2.out]; exact D5.out, by show _ = _; rw [HS2.out]; exact HM.out, hbr2⟩
        case measure => simp [intOf]; omega
    · have hlk : l.take k = l := List.take_of_length_le (by rw [HL.out]; omega)
      have HE := Lib.hid (show NV wr u7 (partF l lows at_) from by have h1 := HO.out; have h2 := HM.out; rw [hlk] at h1 h2; exact NV.own h1 h2)
      clear HO HM hlk
      go_wp2
      go_ret
      exact ⟨_, rfl, HE.out, hbr⟩
theorem dsplit_v {v u : Value} {l : List Nt} {lows : List ByteArray} {w : World} (h : NV w v l) (g : SSV w u lows) (at_ : Nat) (hn : l.length ≤ 1000) (hm : lows.length ≤ maxLen) :
    Calls Try.prog 20 #[v, u, .int .i64 at_] w fun e w' => ∃ v', e = .returned v' ∧ NV w' v' (partF l lows at_) ∧ Below w.heap.size w w' := by
  obtain ⟨A, c, rfl, h1, h2, h3⟩ := h
  exact dsplit_any A c l u lows at_ w h1 g hn hm

end Go.Proofs.Ytaboccbakicmhaa
