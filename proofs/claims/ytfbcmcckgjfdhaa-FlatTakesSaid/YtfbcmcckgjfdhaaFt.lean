/- The walks of flat's takeList, and of TakeNotes, TakePairs and TakeChanges. -/
import Derived.Test.YtfbcmcckgjfdhaaFn
set_option linter.unusedVariables false
set_option linter.unusedSimpArgs false
namespace Go.Proofs.Ytfbcmcckgjfdhaa
open Go.RowKit Go.Sort

section
variable {α : Type} (K : Kd α)
/-- What is told of bytes: a list, the rest, and whether there is something. -/
def Kd.tL (s : ByteArray) : List α := match K.takeL s with
  | some q => q.1
  | none => []
def Kd.tR (s : ByteArray) : ByteArray := match K.takeL s with
  | some q => q.2
  | none => noB
def Kd.tE (s : ByteArray) : Int := match K.takeL s with
  | some _ => 0
  | none => 2
theorem Kd.t_some {s : ByteArray} {l : List α} {r : ByteArray} (h : K.takeL s = some (l, r)) : K.tL s = l ∧ K.tR s = r ∧ K.tE s = 0 := by
  unfold Kd.tL Kd.tR Kd.tE
  rw [h]
  exact ⟨rfl, rfl, rfl⟩
theorem Kd.t_none {s : ByteArray} (h : K.takeL s = none) : K.tL s = [] ∧ K.tR s = noB ∧ K.tE s = 2 := by
  unfold Kd.tL Kd.tR Kd.tE
  rw [h]
  exact ⟨rfl, rfl, rfl⟩
theorem Kd.decL_more {k : Nat} {s r q : ByteArray} {l : List α} {x : α} (h : K.decL k s = some (l, r)) (g : K.dec r = some (x, q)) : K.decL (k + 1) s = some (l ++ [x], q) := by
  obtain ⟨h1, h2, h3⟩ := (K.decL_iff _ _ _ _).1 h
  obtain ⟨g1, g2⟩ := (K.dec_iff _ _ _).1 g
  refine (K.decL_iff _ _ _ _).2 ⟨by simp [h1], by simp [h2, g1], ?_⟩
  rw [h3, g2, Kd.cat_append, Kd.cat_cons, Kd.cat_nil, noB_right, ba_assoc]
theorem Kd.decL_stop {k n : Nat} {s r : ByteArray} {l : List α} (h : K.decL k s = some (l, r)) (hk : k < n) (g : K.dec r = none) : K.decL n s = none := by
  cases hc : K.decL n s with
  | none => rfl
  | some p =>
    exfalso
    obtain ⟨m, q⟩ := p
    obtain ⟨h1, h2, h3⟩ := (K.decL_iff _ _ _ _).1 hc
    have hm := List.take_append_drop k m
    have hd : m.drop k = m[k]'(by omega) :: m.drop (k + 1) := List.drop_eq_getElem_cons (by omega)
    have h4 : K.decL k s = some (m.take k, K.cat (m.drop k) ++ q) := by
      refine (K.decL_iff _ _ _ _).2 ⟨by rw [List.length_take]; omega, ?_, ?_⟩
      · rw [List.all_eq_true] at h2 ⊢
        exact fun x hx => h2 x (List.mem_of_mem_take hx)
      · rw [← ba_assoc, ← Kd.cat_append, hm]; exact h3
    rw [h4] at h
    injection h with h
    injection h with _ h5
    rw [← h5, hd, Kd.cat_cons, ba_assoc, K.dec_put (by rw [List.all_eq_true] at h2; exact h2 _ (List.getElem_mem _))] at g
    cases g
theorem Kd.decL_size {k : Nat} {s r : ByteArray} {l : List α} (h : K.decL k s = some (l, r)) : r.size ≤ s.size := by
  obtain ⟨_, _, h3⟩ := (K.decL_iff _ _ _ _).1 h
  rw [h3, ByteArray.size_append]
  omega
theorem Kd.dec_no {a : ByteArray} {x : α} {b : Rd} (h : K.rd (a, false) = (x, b)) (e : b.2 = true ∨ K.ok x = false) : K.dec a = none := by
  unfold Kd.dec
  rw [h]
  simp only
  rw [if_neg]
  rintro ⟨h1, h2⟩
  rcases e with e | e
  · rw [e] at h1; cases h1
  · rw [e] at h2; cases h2
theorem Kd.dec_yes {a r : ByteArray} {x : α} (h : K.rd (a, false) = (x, r, false)) (e : K.ok x = true) : K.dec a = some (x, r) := by
  unfold Kd.dec
  rw [h]
  simp only
  rw [if_pos ⟨trivial, e⟩]
theorem Kd.take_no {s : ByteArray} {n : Nat} {b : Rd} (h : rNum 2 (s, false) = (n, b)) (e : b.2 = true) : K.takeL s = none := by
  unfold rNum at h
  injection h with _ h2
  rw [← h2] at e
  simp only [Bool.false_or, Bool.not_eq_true'] at e
  unfold Kd.takeL
  have e2 : takeOk s 2 = false := e
  rw [e2]
  rfl
theorem Kd.take_yes {s r : ByteArray} {n : Nat} (h : rNum 2 (s, false) = (n, r, false)) : K.takeL s = K.decL n r := by
  unfold rNum at h
  injection h with h1 h2
  injection h2 with h2 h3
  simp only [Bool.false_or, Bool.not_eq_false'] at h3
  unfold Kd.takeL
  have e2 : takeOk s 2 = true := h3
  rw [e2, if_pos rfl]
  have e3 : takeN s 2 = n := h1
  have e4 : takeR s 2 = r := h2
  rw [e3, e4]
end

set_option maxRecDepth 100000 in
set_option maxHeartbeats 4000000 in
theorem taken_any (s : ByteArray) (w : World) (hs : s.size ≤ maxLen) :
    Calls Try.prog 56 #[.string s, .func (.func 39) #[] #[], .func (.func 57) #[] #[]] w fun e w' => ∃ v, e = .returned (.tuple #[v, .string (kN.tR s), .int .i64 (kN.tE s)]) ∧ NV w' v (kN.tL s) ∧ Below w.heap.size w w' := by
  obtain ⟨L, hL⟩ : ∃ L, L = kN.tL s := ⟨_, rfl⟩
  obtain ⟨R, hR⟩ : ∃ R, R = kN.tR s := ⟨_, rfl⟩
  obtain ⟨E, hE⟩ : ∃ E, E = kN.tE s := ⟨_, rfl⟩
  rw [← hL, ← hR, ← hE]
  have HNo := Lib.hid (show kN.takeL s = none → L = [] ∧ R = noB ∧ E = 2 from fun h => by rw [hL, hR, hE]; exact kN.t_none h)
  have HYes := Lib.hid (show ∀ l r, kN.takeL s = some (l, r) → L = l ∧ R = r ∧ E = 0 from fun l r h => by rw [hL, hR, hE]; exact kN.t_some h)
  clear hL hR hE
  obtain ⟨n, b, hn⟩ : ∃ n b, rNum 2 (s, false) = (n, b) := ⟨_, _, rfl⟩
  obtain ⟨s0, f0⟩ := b
  have hlt := rNum_lt (by decide) hn
  have hs0 : s0.size ≤ maxLen := Nat.le_trans (rNum_le hn) hs
  have HS0 := Lib.hid hs0
  obtain ⟨w1, hw1⟩ : ∃ w1, w1 = w.alloc (.cells #[.string s, .bool false] 108) := ⟨_, rfl⟩
  obtain ⟨g, hg⟩ : ∃ g, g = w.heap.size := ⟨_, rfl⟩
  have hbx : RdB w1 g (s, false) := by rw [hw1]; exact Box.at_ w _ _ hg
  have HB1 := Lib.hid (show Below w.heap.size w w1 from by rw [hw1]; exact (Below.refl _ _).alloc (Nat.le_refl _) _)
  have HG := Lib.hid (show w.heap.size ≤ g from by omega)
  have HG1 := Lib.hid (show g + 1 ≤ w1.heap.size from by rw [hg, hw1]; simp)
  have HC := Lib.hid (fun w h => rdnum_any g 2 (s, false) n (s0, f0) w h hn)
  have HN := Lib.hid hn
  have R1 := Lib.hid hbx
  clear hbx hn hs hs0
  go_enter Try.func56, Try.ntmps56
  go_upto_region 2 with fail
  rw [← hg, ← hw1]
  clear hg hw1
  go_wp2_with fail
  refine (HC.out _ R1.out).mono ?_
  rintro e w2 ⟨rfl, hr, hx⟩
  have HB2 := Lib.hid (hx.below HB1.out HG.out HB1.out.size)
  have HG2 := Lib.hid (Nat.le_trans HG1.out hx.size)
  have R2 := Lib.hid hr
  clear hr hx HB1 HG1 R1 HC
  obtain ⟨c0, c1, _, _⟩ := R2.out.cells
  simp only at c0 c1
  cases f0 with
  | true =>
    obtain ⟨e1, e2, e3⟩ := HNo.out (kN.take_no HN.out rfl)
    have E1 := Lib.hid e1
    have E2 := Lib.hid e2
    have E3 := Lib.hid e3
    clear e1 e2 e3
    go_wp2
    go_ret3
    rw [E1.out, E2.out, E3.out]
    exact ⟨_, rfl, NV.nil _, HB2.out⟩
  | false =>
    have HT := Lib.hid (kN.take_yes HN.out)
    clear c0 c1 HN
    obtain ⟨c0, c1, _, _⟩ := R2.out.cells
    simp only at c0 c1
    go_wp2
    clear c0 c1
    go_loopw [11, 19] (fun vl vi wr => ∃ (k : Nat) (lk : List Nt) (r : ByteArray), vi = .int .u64 (k : Int) ∧ k ≤ n ∧ Hid (kN.decL k s0 = some (lk, r)) ∧ Hid (wr.ownsRow (g + 1) 62 4 vl k (lk.flatMap Nt.cells)) ∧ Hid (RdB wr g (r, false)) ∧ Hid (g + 1 ≤ wr.heap.size) ∧ Below w.heap.size w wr) (fun _ vi _ => (n - intOf vi).toNat)
    case atStart => exact ⟨0, [], s0, rfl, by omega, rfl, World.ownsRow_nil _ _ _ _, R2.out, HG2.out, HB2.out⟩
    case round =>
      clear R2 HG2 HB2
      obtain ⟨k, lk, r, rfl, hk, HD, HO, HR, HS, hbr⟩ := hrel
      by_cases hlt2 : k < n
      · skip
        obtain ⟨x, b, hx⟩ : ∃ x b, rNote (r, false) = (x, b) := ⟨_, _, rfl⟩
        obtain ⟨r2, f2⟩ := b
        have hc := fun w h => rdnote_any g (r, false) x (r2, f2) w h (Nat.le_trans (kN.decL_size HD.out) HS0.out) hx
        obtain ⟨xk, xkey, xval, xn⟩ := x
        unfold Nt.v at hc
        simp only at hc
        have HC := Lib.hid hc
        have HX := Lib.hid (show kN.rd (r, false) = (⟨xk, xkey, xval, xn⟩, r2, f2) from hx)
        clear hc hx
        go_wp2_with fail
        refine (HC.out _ HR.out).mono ?_
        rintro e w2 ⟨rfl, hr, hx⟩
        have HB2 := Lib.hid (hx.below hbr HG.out hbr.size)
        have HS2 := Lib.hid (Nat.le_trans HS.out hx.size)
        have R2 := Lib.hid hr
        have O2 := Lib.hid (HO.out.kept hx (by
          cases hv : Value.ownBlock u11 with
          | none => exact .inl rfl
          | some q =>
            have := (HO.out.lt q hv).1
            exact .inr (by simp; omega)))
        clear hr hx HR HS HO hbr HC
        obtain ⟨w3, hw3⟩ : ∃ w3, w3 = w2.alloc (.cells #[.int .i64 xk, .string xkey, .string xval, .int .u64 (xn.toNat : Int)] 62) := ⟨_, rfl⟩
        obtain ⟨gx, hgx⟩ : ∃ gx, gx = w2.heap.size := ⟨_, rfl⟩
        have hbx : Box w3 gx 62 #[.int .i64 xk, .string xkey, .string xval, .int .u64 (xn.toNat : Int)] := by rw [hw3]; exact Box.at_ w2 _ _ hgx
        have hb3 : Below w2.heap.size w2 w3 := by rw [hw3]; exact (Below.refl _ _).alloc (Nat.le_refl _) _
        have HB3 := Lib.hid (HB2.out.trans (hb3.mono HB2.out.size))
        have HS3 := Lib.hid (Nat.le_trans HS2.out hb3.size)
        have R3 := Lib.hid (R2.out.on hb3)
        have O3 := Lib.hid (own_below O2.out hb3)
        have X3 := Lib.hid hbx
        clear hbx hb3 HB2 HS2 R2 O2
        go_upto_region 9 with fail
        rw [← hgx, ← hw3]
        clear hgx hw3
        obtain ⟨c0, c1, _, _⟩ := R3.out.cells
        simp only at c0 c1
        cases f2 with
        | true =>
          obtain ⟨e1, e2, e3⟩ := HNo.out (HT.out.trans (kN.decL_stop HD.out hlt2 (kN.dec_no HX.out (.inl rfl))))
          have E1 := Lib.hid e1
          have E2 := Lib.hid e2
          have E3 := Lib.hid e3
          clear e1 e2 e3
          go_wp2
          go_ret3
          rw [E1.out, E2.out, E3.out]
          exact ⟨_, rfl, NV.nil _, HB3.out⟩
        | false =>
          obtain ⟨k0, k1, k2, k3⟩ : _ ∧ _ ∧ _ ∧ _ := ⟨Box.cell X3.out 0 rfl, Box.cell X3.out 1 rfl, Box.cell X3.out 2 rfl, Box.cell X3.out 3 rfl⟩
          go_wp2_with fail
          refine (right_any xk xkey xval xn _).mono ?_
          rintro e w4 ⟨rfl, hb⟩
          have HB4 := Lib.hid (HB3.out.trans (hb.mono HB3.out.size))
          have HS4 := Lib.hid (Nat.le_trans HS3.out hb.size)
          have R4 := Lib.hid (R3.out.on hb)
          have O4 := Lib.hid (own_below O3.out hb)
          have X4 := Lib.hid (X3.out.on hb)
          clear hb c0 c1 k0 k1 k2 k3 HB3 HS3 R3 O3 X3
          cases hf : rightN ⟨xk, xkey, xval, xn⟩ with
          | false =>
            obtain ⟨e1, e2, e3⟩ := HNo.out (HT.out.trans (kN.decL_stop HD.out hlt2 (kN.dec_no HX.out (.inr hf))))
            have E1 := Lib.hid e1
            have E2 := Lib.hid e2
            have E3 := Lib.hid e3
            clear e1 e2 e3 hf
            go_wp2
            go_ret3
            rw [E1.out, E2.out, E3.out]
            exact ⟨_, rfl, NV.nil _, HB4.out⟩
          | true =>
            have HD2 := Lib.hid (kN.decL_more HD.out (kN.dec_yes HX.out hf))
            clear hf HD HX
            obtain ⟨k0, k1, k2, k3⟩ : _ ∧ _ ∧ _ ∧ _ := ⟨Box.cell X4.out 0 rfl, Box.cell X4.out 1 rfl, Box.cell X4.out 2 rfl, Box.cell X4.out 3 rfl⟩
            have hown := O4.out
            have hbs := HB4.out.size
            have hgs := HS4.out
            go_wp2_with (at_builtin; refine push_nt _ rfl _ _ rfl (g + 1) _ k (lk.flatMap Nt.cells) rfl (hown.alloc _) w4.heap.size ⟨xk, xkey, xval, xn⟩ rfl (Box.fresh w4 _ _) ?a1 ?a2 ?_)
            case a1 => omega
            case a2 => simp; omega
            intro v' w5 hown5 hg5
            have hk5 : ∀ q, Value.ownBlock _ = some q → g + 1 ≤ q := fun q hq => (hown.lt q hq).1
            have HB5 := Lib.hid ((HB4.out.alloc hbs _).grown hg5 (by simp; omega) (fun q hq => by have h1 := hk5 q hq; have h2 := HG.out; omega))
            have HS5 := Lib.hid (show g + 1 ≤ w5.heap.size from by have h1 := hg5.size; simp at h1; omega)
            have R5 := Lib.hid (show RdB w5 g (r2, false) from Box.grown (Box.push R4.out _) hg5 (fun e => by have h1 := hk5 g e.symm; omega))
            have O5 := Lib.hid (show w5.ownsRow (g + 1) 62 4 v' (k + 1) ((lk ++ [(⟨xk, xkey, xval, xn⟩ : Nt)]).flatMap Nt.cells) from by
              show World.ownsRow _ _ _ _ _ _ _
              rw [List.flatMap_append]
              simpa using hown5)
            clear hown hbs hgs hown5 hg5 hk5 k0 k1 k2 k3 HB4 HS4 R4 O4 X4
            go_wp2
            go_roundw
            case rel => exact ⟨k + 1, _, _, by go_num, by omega, HD2, O5, R5, HS5, HB5.out⟩
            case measure => simp [intOf]; omega
      · have hkn : k = n := by omega
        have h3 := HD.out
        rw [hkn] at h3
        obtain ⟨e1, e2, e3⟩ := HYes.out _ _ (HT.out.trans h3)
        have E1 := Lib.hid e1
        have E2 := Lib.hid e2
        have E3 := Lib.hid e3
        obtain ⟨hle, _, _⟩ := (kN.decL_iff _ _ _ _).1 HD.out
        have HLE := Lib.hid hle
        clear h3 hkn e1 e2 e3 hle
        obtain ⟨c0, c1, _, _⟩ := HR.out.cells
        simp only at c0 c1
        go_wp2
        go_quiet (fail)
        go_wp2
        go_ret3
        rw [E1.out, E2.out, E3.out]
        exact ⟨_, rfl, NV.own (own_below HO.out (below_drewN (Below.refl _ _) _)) HLE.out.symm, below_drewN hbr _⟩

set_option maxRecDepth 100000 in
set_option maxHeartbeats 1000000 in
theorem tnotes_v (s : ByteArray) (w : World) (hs : s.size ≤ maxLen) :
    Calls Try.prog 23 #[.string s] w fun e w' => ∃ v, e = .returned (.tuple #[v, .string (kN.tR s), .int .i64 (kN.tE s)]) ∧ NV w' v (kN.tL s) ∧ Below w.heap.size w w' := by
  have hc := taken_any s w hs
  obtain ⟨L, hL⟩ : ∃ L, L = kN.tL s := ⟨_, rfl⟩
  obtain ⟨R, hR⟩ : ∃ R, R = kN.tR s := ⟨_, rfl⟩
  obtain ⟨E, hE⟩ : ∃ E, E = kN.tE s := ⟨_, rfl⟩
  rw [← hL, ← hR, ← hE] at hc
  rw [← hL, ← hR, ← hE]
  have HC := Lib.hid hc
  clear hc hL hR hE hs
  go_enter Try.func23, Try.ntmps23
  go_wp2_with fail
  refine HC.out.mono ?_
  rintro e w1 ⟨v, rfl, hv, hb⟩
  have HV := Lib.hid hv
  have HB := Lib.hid hb
  clear hb hv
  go_wp2
  go_ret3
  exact ⟨_, rfl, HV.out, HB.out⟩

set_option maxRecDepth 100000 in
set_option maxHeartbeats 4000000 in
theorem takep_any (s : ByteArray) (w : World) (hs : s.size ≤ maxLen) :
    Calls Try.prog 58 #[.string s, .func (.func 42) #[] #[], .func (.func 59) #[] #[]] w fun e w' => ∃ v, e = .returned (.tuple #[v, .string (kP.tR s), .int .i64 (kP.tE s)]) ∧ PV w' v (kP.tL s) ∧ Below w.heap.size w w' := by
  obtain ⟨L, hL⟩ : ∃ L, L = kP.tL s := ⟨_, rfl⟩
  obtain ⟨R, hR⟩ : ∃ R, R = kP.tR s := ⟨_, rfl⟩
  obtain ⟨E, hE⟩ : ∃ E, E = kP.tE s := ⟨_, rfl⟩
  rw [← hL, ← hR, ← hE]
  have HNo := Lib.hid (show kP.takeL s = none → L = [] ∧ R = noB ∧ E = 2 from fun h => by rw [hL, hR, hE]; exact kP.t_none h)
  have HYes := Lib.hid (show ∀ l r, kP.takeL s = some (l, r) → L = l ∧ R = r ∧ E = 0 from fun l r h => by rw [hL, hR, hE]; exact kP.t_some h)
  clear hL hR hE
  obtain ⟨n, b, hn⟩ : ∃ n b, rNum 2 (s, false) = (n, b) := ⟨_, _, rfl⟩
  obtain ⟨s0, f0⟩ := b
  have hlt := rNum_lt (by decide) hn
  have hs0 : s0.size ≤ maxLen := Nat.le_trans (rNum_le hn) hs
  have HS0 := Lib.hid hs0
  obtain ⟨w1, hw1⟩ : ∃ w1, w1 = w.alloc (.cells #[.string s, .bool false] 108) := ⟨_, rfl⟩
  obtain ⟨g, hg⟩ : ∃ g, g = w.heap.size := ⟨_, rfl⟩
  have hbx : RdB w1 g (s, false) := by rw [hw1]; exact Box.at_ w _ _ hg
  have HB1 := Lib.hid (show Below w.heap.size w w1 from by rw [hw1]; exact (Below.refl _ _).alloc (Nat.le_refl _) _)
  have HG := Lib.hid (show w.heap.size ≤ g from by omega)
  have HG1 := Lib.hid (show g + 1 ≤ w1.heap.size from by rw [hg, hw1]; simp)
  have HC := Lib.hid (fun w h => rdnum_any g 2 (s, false) n (s0, f0) w h hn)
  have HN := Lib.hid hn
  have R1 := Lib.hid hbx
  clear hbx hn hs hs0
  go_enter Try.func58, Try.ntmps58
  go_upto_region 2 with fail
  rw [← hg, ← hw1]
  clear hg hw1
  go_wp2_with fail
  refine (HC.out _ R1.out).mono ?_
  rintro e w2 ⟨rfl, hr, hx⟩
  have HB2 := Lib.hid (hx.below HB1.out HG.out HB1.out.size)
  have HG2 := Lib.hid (Nat.le_trans HG1.out hx.size)
  have R2 := Lib.hid hr
  clear hr hx HB1 HG1 R1 HC
  obtain ⟨c0, c1, _, _⟩ := R2.out.cells
  simp only at c0 c1
  cases f0 with
  | true =>
    obtain ⟨e1, e2, e3⟩ := HNo.out (kP.take_no HN.out rfl)
    have E1 := Lib.hid e1
    have E2 := Lib.hid e2
    have E3 := Lib.hid e3
    clear e1 e2 e3
    go_wp2
    go_ret3
    rw [E1.out, E2.out, E3.out]
    exact ⟨_, rfl, PV.nil _, HB2.out⟩
  | false =>
    have HT := Lib.hid (kP.take_yes HN.out)
    clear c0 c1 HN
    obtain ⟨c0, c1, _, _⟩ := R2.out.cells
    simp only at c0 c1
    go_wp2
    clear c0 c1
    go_loopw [11, 19] (fun vl vi wr => ∃ (k : Nat) (lk : List Pr) (r : ByteArray), vi = .int .u64 (k : Int) ∧ k ≤ n ∧ Hid (kP.decL k s0 = some (lk, r)) ∧ Hid (wr.ownsRow (g + 1) 66 2 vl k (lk.flatMap Pr.cells)) ∧ Hid (RdB wr g (r, false)) ∧ Hid (g + 1 ≤ wr.heap.size) ∧ Below w.heap.size w wr) (fun _ vi _ => (n - intOf vi).toNat)
    case atStart => exact ⟨0, [], s0, rfl, by omega, rfl, World.ownsRow_nil _ _ _ _, R2.out, HG2.out, HB2.out⟩
    case round =>
      clear R2 HG2 HB2
      obtain ⟨k, lk, r, rfl, hk, HD, HO, HR, HS, hbr⟩ := hrel
      by_cases hlt2 : k < n
      · skip
        obtain ⟨x, b, hx⟩ : ∃ x b, rPair (r, false) = (x, b) := ⟨_, _, rfl⟩
        obtain ⟨r2, f2⟩ := b
        have hc := fun w h => rdpair_any g (r, false) x (r2, f2) w h (Nat.le_trans (kP.decL_size HD.out) HS0.out) hx
        obtain ⟨xkey, xval⟩ := x
        unfold Pr.v' at hc
        simp only at hc
        have HC := Lib.hid hc
        have HX := Lib.hid (show kP.rd (r, false) = (⟨xkey, xval⟩, r2, f2) from hx)
        clear hc hx
        go_wp2_with fail
        refine (HC.out _ HR.out).mono ?_
        rintro e w2 ⟨rfl, hr, hx⟩
        have HB2 := Lib.hid (hx.below hbr HG.out hbr.size)
        have HS2 := Lib.hid (Nat.le_trans HS.out hx.size)
        have R2 := Lib.hid hr
        have O2 := Lib.hid (HO.out.kept hx (by
          cases hv : Value.ownBlock u11 with
          | none => exact .inl rfl
          | some q =>
            have := (HO.out.lt q hv).1
            exact .inr (by simp; omega)))
        clear hr hx HR HS HO hbr HC
        obtain ⟨w3, hw3⟩ : ∃ w3, w3 = w2.alloc (.cells #[.string xkey, .string xval] 66) := ⟨_, rfl⟩
        obtain ⟨gx, hgx⟩ : ∃ gx, gx = w2.heap.size := ⟨_, rfl⟩
        have hbx : Box w3 gx 66 #[.string xkey, .string xval] := by rw [hw3]; exact Box.at_ w2 _ _ hgx
        have hb3 : Below w2.heap.size w2 w3 := by rw [hw3]; exact (Below.refl _ _).alloc (Nat.le_refl _) _
        have HB3 := Lib.hid (HB2.out.trans (hb3.mono HB2.out.size))
        have HS3 := Lib.hid (Nat.le_trans HS2.out hb3.size)
        have R3 := Lib.hid (R2.out.on hb3)
        have O3 := Lib.hid (own_below O2.out hb3)
        have X3 := Lib.hid hbx
        clear hbx hb3 HB2 HS2 R2 O2
        go_upto_region 9 with fail
        rw [← hgx, ← hw3]
        clear hgx hw3
        obtain ⟨c0, c1, _, _⟩ := R3.out.cells
        simp only at c0 c1
        cases f2 with
        | true =>
          obtain ⟨e1, e2, e3⟩ := HNo.out (HT.out.trans (kP.decL_stop HD.out hlt2 (kP.dec_no HX.out (.inl rfl))))
          have E1 := Lib.hid e1
          have E2 := Lib.hid e2
          have E3 := Lib.hid e3
          clear e1 e2 e3
          go_wp2
          go_ret3
          rw [E1.out, E2.out, E3.out]
          exact ⟨_, rfl, PV.nil _, HB3.out⟩
        | false =>
          obtain ⟨k0, k1⟩ : _ ∧ _ := ⟨Box.cell X3.out 0 rfl, Box.cell X3.out 1 rfl⟩
          go_wp2_with fail
          refine (maypair_any xkey xval _).mono ?_
          rintro e w4 ⟨rfl, hb⟩
          have HB4 := Lib.hid (HB3.out.trans (hb.mono HB3.out.size))
          have HS4 := Lib.hid (Nat.le_trans HS3.out hb.size)
          have R4 := Lib.hid (R3.out.on hb)
          have O4 := Lib.hid (own_below O3.out hb)
          have X4 := Lib.hid (X3.out.on hb)
          clear hb c0 c1 k0 k1 HB3 HS3 R3 O3 X3
          cases hf : fitsP ⟨xkey, xval⟩ with
          | false =>
            obtain ⟨e1, e2, e3⟩ := HNo.out (HT.out.trans (kP.decL_stop HD.out hlt2 (kP.dec_no HX.out (.inr hf))))
            have E1 := Lib.hid e1
            have E2 := Lib.hid e2
            have E3 := Lib.hid e3
            clear e1 e2 e3 hf
            go_wp2
            go_ret3
            rw [E1.out, E2.out, E3.out]
            exact ⟨_, rfl, PV.nil _, HB4.out⟩
          | true =>
            have HD2 := Lib.hid (kP.decL_more HD.out (kP.dec_yes HX.out hf))
            clear hf HD HX
            obtain ⟨k0, k1⟩ : _ ∧ _ := ⟨Box.cell X4.out 0 rfl, Box.cell X4.out 1 rfl⟩
            have hown := O4.out
            have hbs := HB4.out.size
            have hgs := HS4.out
            go_wp2_with (at_builtin; refine push_pr _ rfl _ _ rfl (g + 1) _ k (lk.flatMap Pr.cells) rfl (hown.alloc _) w4.heap.size ⟨xkey, xval⟩ rfl (Box.fresh w4 _ _) ?a1 ?a2 ?_)
            case a1 => omega
            case a2 => simp; omega
            intro v' w5 hown5 hg5
            have hk5 : ∀ q, Value.ownBlock _ = some q → g + 1 ≤ q := fun q hq => (hown.lt q hq).1
            have HB5 := Lib.hid ((HB4.out.alloc hbs _).grown hg5 (by simp; omega) (fun q hq => by have h1 := hk5 q hq; have h2 := HG.out; omega))
            have HS5 := Lib.hid (show g + 1 ≤ w5.heap.size from by have h1 := hg5.size; simp at h1; omega)
            have R5 := Lib.hid (show RdB w5 g (r2, false) from Box.grown (Box.push R4.out _) hg5 (fun e => by have h1 := hk5 g e.symm; omega))
            have O5 := Lib.hid (show w5.ownsRow (g + 1) 66 2 v' (k + 1) ((lk ++ [(⟨xkey, xval⟩ : Pr)]).flatMap Pr.cells) from by
              show World.ownsRow _ _ _ _ _ _ _
              rw [List.flatMap_append]
              simpa using hown5)
            clear hown hbs hgs hown5 hg5 hk5 k0 k1 HB4 HS4 R4 O4 X4
            go_wp2
            go_roundw
            case rel => exact ⟨k + 1, _, _, by go_num, by omega, HD2, O5, R5, HS5, HB5.out⟩
            case measure => simp [intOf]; omega
      · have hkn : k = n := by omega
        have h3 := HD.out
        rw [hkn] at h3
        obtain ⟨e1, e2, e3⟩ := HYes.out _ _ (HT.out.trans h3)
        have E1 := Lib.hid e1
        have E2 := Lib.hid e2
        have E3 := Lib.hid e3
        obtain ⟨hle, _, _⟩ := (kP.decL_iff _ _ _ _).1 HD.out
        have HLE := Lib.hid hle
        clear h3 hkn e1 e2 e3 hle
        obtain ⟨c0, c1, _, _⟩ := HR.out.cells
        simp only at c0 c1
        go_wp2
        go_quiet (fail)
        go_wp2
        go_ret3
        rw [E1.out, E2.out, E3.out]
        exact ⟨_, rfl, PV.own (own_below HO.out (below_drewN (Below.refl _ _) _)) HLE.out.symm, below_drewN hbr _⟩

set_option maxRecDepth 100000 in
set_option maxHeartbeats 1000000 in
theorem tpairs_v (s : ByteArray) (w : World) (hs : s.size ≤ maxLen) :
    Calls Try.prog 24 #[.string s] w fun e w' => ∃ v, e = .returned (.tuple #[v, .string (kP.tR s), .int .i64 (kP.tE s)]) ∧ PV w' v (kP.tL s) ∧ Below w.heap.size w w' := by
  have hc := takep_any s w hs
  obtain ⟨L, hL⟩ : ∃ L, L = kP.tL s := ⟨_, rfl⟩
  obtain ⟨R, hR⟩ : ∃ R, R = kP.tR s := ⟨_, rfl⟩
  obtain ⟨E, hE⟩ : ∃ E, E = kP.tE s := ⟨_, rfl⟩
  rw [← hL, ← hR, ← hE] at hc
  rw [← hL, ← hR, ← hE]
  have HC := Lib.hid hc
  clear hc hL hR hE hs
  go_enter Try.func24, Try.ntmps24
  go_wp2_with fail
  refine HC.out.mono ?_
  rintro e w1 ⟨v, rfl, hv, hb⟩
  have HV := Lib.hid hv
  have HB := Lib.hid hb
  clear hb hv
  go_wp2
  go_ret3
  exact ⟨_, rfl, HV.out, HB.out⟩

set_option maxRecDepth 100000 in
set_option maxHeartbeats 4000000 in
theorem takec_any (s : ByteArray) (w : World) (hs : s.size ≤ maxLen) :
    Calls Try.prog 60 #[.string s, .func (.func 20) #[] #[], .func (.func 61) #[] #[]] w fun e w' => ∃ v, e = .returned (.tuple #[v, .string (kC.tR s), .int .i64 (kC.tE s)]) ∧ CV w' v (kC.tL s) ∧ Below w.heap.size w w' := by
  obtain ⟨L, hL⟩ : ∃ L, L = kC.tL s := ⟨_, rfl⟩
  obtain ⟨R, hR⟩ : ∃ R, R = kC.tR s := ⟨_, rfl⟩
  obtain ⟨E, hE⟩ : ∃ E, E = kC.tE s := ⟨_, rfl⟩
  rw [← hL, ← hR, ← hE]
  have HNo := Lib.hid (show kC.takeL s = none → L = [] ∧ R = noB ∧ E = 2 from fun h => by rw [hL, hR, hE]; exact kC.t_none h)
  have HYes := Lib.hid (show ∀ l r, kC.takeL s = some (l, r) → L = l ∧ R = r ∧ E = 0 from fun l r h => by rw [hL, hR, hE]; exact kC.t_some h)
  clear hL hR hE
  obtain ⟨n, b, hn⟩ : ∃ n b, rNum 2 (s, false) = (n, b) := ⟨_, _, rfl⟩
  obtain ⟨s0, f0⟩ := b
  have hlt := rNum_lt (by decide) hn
  have hs0 : s0.size ≤ maxLen := Nat.le_trans (rNum_le hn) hs
  have HS0 := Lib.hid hs0
  obtain ⟨w1, hw1⟩ : ∃ w1, w1 = w.alloc (.cells #[.string s, .bool false] 108) := ⟨_, rfl⟩
  obtain ⟨g, hg⟩ : ∃ g, g = w.heap.size := ⟨_, rfl⟩
  have hbx : RdB w1 g (s, false) := by rw [hw1]; exact Box.at_ w _ _ hg
  have HB1 := Lib.hid (show Below w.heap.size w w1 from by rw [hw1]; exact (Below.refl _ _).alloc (Nat.le_refl _) _)
  have HG := Lib.hid (show w.heap.size ≤ g from by omega)
  have HG1 := Lib.hid (show g + 1 ≤ w1.heap.size from by rw [hg, hw1]; simp)
  have HC := Lib.hid (fun w h => rdnum_any g 2 (s, false) n (s0, f0) w h hn)
  have HN := Lib.hid hn
  have R1 := Lib.hid hbx
  clear hbx hn hs hs0
  go_enter Try.func60, Try.ntmps60
  go_upto_region 2 with fail
  rw [← hg, ← hw1]
  clear hg hw1
  go_wp2_with fail
  refine (HC.out _ R1.out).mono ?_
  rintro e w2 ⟨rfl, hr, hx⟩
  have HB2 := Lib.hid (hx.below HB1.out HG.out HB1.out.size)
  have HG2 := Lib.hid (Nat.le_trans HG1.out hx.size)
  have R2 := Lib.hid hr
  clear hr hx HB1 HG1 R1 HC
  obtain ⟨c0, c1, _, _⟩ := R2.out.cells
  simp only at c0 c1
  cases f0 with
  | true =>
    obtain ⟨e1, e2, e3⟩ := HNo.out (kC.take_no HN.out rfl)
    have E1 := Lib.hid e1
    have E2 := Lib.hid e2
    have E3 := Lib.hid e3
    clear e1 e2 e3
    go_wp2
    go_ret3
    rw [E1.out, E2.out, E3.out]
    exact ⟨_, rfl, CV.nil _, HB2.out⟩
  | false =>
    have HT := Lib.hid (kC.take_yes HN.out)
    clear c0 c1 HN
    obtain ⟨c0, c1, _, _⟩ := R2.out.cells
    simp only at c0 c1
    go_wp2
    clear c0 c1
    go_loopw [11, 19] (fun vl vi wr => ∃ (k : Nat) (lk : List Ch) (r : ByteArray), vi = .int .u64 (k : Int) ∧ k ≤ n ∧ Hid (kC.decL k s0 = some (lk, r)) ∧ Hid (wr.ownsRow (g + 1) 42 6 vl k (lk.flatMap Ch.cells)) ∧ Hid (RdB wr g (r, false)) ∧ Hid (g + 1 ≤ wr.heap.size) ∧ Below w.heap.size w wr) (fun _ vi _ => (n - intOf vi).toNat)
    case atStart => exact ⟨0, [], s0, rfl, by omega, rfl, World.ownsRow_nil _ _ _ _, R2.out, HG2.out, HB2.out⟩
    case round =>
      clear R2 HG2 HB2
      obtain ⟨k, lk, r, rfl, hk, HD, HO, HR, HS, hbr⟩ := hrel
      by_cases hlt2 : k < n
      · skip
        obtain ⟨x, b, hx⟩ : ∃ x b, rCh (r, false) = (x, b) := ⟨_, _, rfl⟩
        obtain ⟨r2, f2⟩ := b
        have hc := fun w h => rdch_any g (r, false) x (r2, f2) w h (Nat.le_trans (kC.decL_size HD.out) HS0.out) hx
        obtain ⟨xs, xkey, had, xb, has, xa⟩ := x
        unfold Ch.v at hc
        simp only at hc
        have HC := Lib.hid hc
        have HX := Lib.hid (show kC.rd (r, false) = (⟨xs, xkey, had, xb, has, xa⟩, r2, f2) from hx)
        clear hc hx
        go_wp2_with fail
        refine (HC.out _ HR.out).mono ?_
        rintro e w2 ⟨rfl, hr, hx⟩
        have HB2 := Lib.hid (hx.below hbr HG.out hbr.size)
        have HS2 := Lib.hid (Nat.le_trans HS.out hx.size)
        have R2 := Lib.hid hr
        have O2 := Lib.hid (HO.out.kept hx (by
          cases hv : Value.ownBlock u11 with
          | none => exact .inl rfl
          | some q =>
            have := (HO.out.lt q hv).1
            exact .inr (by simp; omega)))
        clear hr hx HR HS HO hbr HC
        obtain ⟨w3, hw3⟩ : ∃ w3, w3 = w2.alloc (.cells #[.int .i64 xs, .string xkey, .bool had, .string xb, .bool has, .string xa] 42) := ⟨_, rfl⟩
        obtain ⟨gx, hgx⟩ : ∃ gx, gx = w2.heap.size := ⟨_, rfl⟩
        have hbx : Box w3 gx 42 #[.int .i64 xs, .string xkey, .bool had, .string xb, .bool has, .string xa] := by rw [hw3]; exact Box.at_ w2 _ _ hgx
        have hb3 : Below w2.heap.size w2 w3 := by rw [hw3]; exact (Below.refl _ _).alloc (Nat.le_refl _) _
        have HB3 := Lib.hid (HB2.out.trans (hb3.mono HB2.out.size))
        have HS3 := Lib.hid (Nat.le_trans HS2.out hb3.size)
        have R3 := Lib.hid (R2.out.on hb3)
        have O3 := Lib.hid (own_below O2.out hb3)
        have X3 := Lib.hid hbx
        clear hbx hb3 HB2 HS2 R2 O2
        go_upto_region 9 with fail
        rw [← hgx, ← hw3]
        clear hgx hw3
        obtain ⟨c0, c1, _, _⟩ := R3.out.cells
        simp only at c0 c1
        cases f2 with
        | true =>
          obtain ⟨e1, e2, e3⟩ := HNo.out (HT.out.trans (kC.decL_stop HD.out hlt2 (kC.dec_no HX.out (.inl rfl))))
          have E1 := Lib.hid e1
          have E2 := Lib.hid e2
          have E3 := Lib.hid e3
          clear e1 e2 e3
          go_wp2
          go_ret3
          rw [E1.out, E2.out, E3.out]
          exact ⟨_, rfl, CV.nil _, HB3.out⟩
        | false =>
          obtain ⟨k0, k1, k2, k3, k4, k5⟩ : _ ∧ _ ∧ _ ∧ _ ∧ _ ∧ _ := ⟨Box.cell X3.out 0 rfl, Box.cell X3.out 1 rfl, Box.cell X3.out 2 rfl, Box.cell X3.out 3 rfl, Box.cell X3.out 4 rfl, Box.cell X3.out 5 rfl⟩
          go_wp2_with fail
          refine (may_any xs xkey had xb has xa _).mono ?_
          rintro e w4 ⟨rfl, hb⟩
          have HB4 := Lib.hid (HB3.out.trans (hb.mono HB3.out.size))
          have HS4 := Lib.hid (Nat.le_trans HS3.out hb.size)
          have R4 := Lib.hid (R3.out.on hb)
          have O4 := Lib.hid (own_below O3.out hb)
          have X4 := Lib.hid (X3.out.on hb)
          clear hb c0 c1 k0 k1 k2 k3 k4 k5 HB3 HS3 R3 O3 X3
          cases hf : mayC ⟨xs, xkey, had, xb, has, xa⟩ with
          | false =>
            obtain ⟨e1, e2, e3⟩ := HNo.out (HT.out.trans (kC.decL_stop HD.out hlt2 (kC.dec_no HX.out (.inr hf))))
            have E1 := Lib.hid e1
            have E2 := Lib.hid e2
            have E3 := Lib.hid e3
            clear e1 e2 e3 hf
            go_wp2
            go_ret3
            rw [E1.out, E2.out, E3.out]
            exact ⟨_, rfl, CV.nil _, HB4.out⟩
          | true =>
            have HD2 := Lib.hid (kC.decL_more HD.out (kC.dec_yes HX.out hf))
            clear hf HD HX
            obtain ⟨k0, k1, k2, k3, k4, k5⟩ : _ ∧ _ ∧ _ ∧ _ ∧ _ ∧ _ := ⟨Box.cell X4.out 0 rfl, Box.cell X4.out 1 rfl, Box.cell X4.out 2 rfl, Box.cell X4.out 3 rfl, Box.cell X4.out 4 rfl, Box.cell X4.out 5 rfl⟩
            have hown := O4.out
            have hbs := HB4.out.size
            have hgs := HS4.out
            go_wp2_with (at_builtin; refine push_ch _ rfl _ _ rfl (g + 1) _ k (lk.flatMap Ch.cells) rfl (hown.alloc _) w4.heap.size ⟨xs, xkey, had, xb, has, xa⟩ rfl (Box.fresh w4 _ _) ?a1 ?a2 ?_)
            case a1 => omega
            case a2 => simp; omega
            intro v' w5 hown5 hg5
            have hk5 : ∀ q, Value.ownBlock _ = some q → g + 1 ≤ q := fun q hq => (hown.lt q hq).1
            have HB5 := Lib.hid ((HB4.out.alloc hbs _).grown hg5 (by simp; omega) (fun q hq => by have h1 := hk5 q hq; have h2 := HG.out; omega))
            have HS5 := Lib.hid (show g + 1 ≤ w5.heap.size from by have h1 := hg5.size; simp at h1; omega)
            have R5 := Lib.hid (show RdB w5 g (r2, false) from Box.grown (Box.push R4.out _) hg5 (fun e => by have h1 := hk5 g e.symm; omega))
            have O5 := Lib.hid (show w5.ownsRow (g + 1) 42 6 v' (k + 1) ((lk ++ [(⟨xs, xkey, had, xb, has, xa⟩ : Ch)]).flatMap Ch.cells) from by
              show World.ownsRow _ _ _ _ _ _ _
              rw [List.flatMap_append]
              simpa using hown5)
            clear hown hbs hgs hown5 hg5 hk5 k0 k1 k2 k3 k4 k5 HB4 HS4 R4 O4 X4
            go_wp2
            go_roundw
            case rel => exact ⟨k + 1, _, _, by go_num, by omega, HD2, O5, R5, HS5, HB5.out⟩
            case measure => simp [intOf]; omega
      · have hkn : k = n := by omega
        have h3 := HD.out
        rw [hkn] at h3
        obtain ⟨e1, e2, e3⟩ := HYes.out _ _ (HT.out.trans h3)
        have E1 := Lib.hid e1
        have E2 := Lib.hid e2
        have E3 := Lib.hid e3
        obtain ⟨hle, _, _⟩ := (kC.decL_iff _ _ _ _).1 HD.out
        have HLE := Lib.hid hle
        clear h3 hkn e1 e2 e3 hle
        obtain ⟨c0, c1, _, _⟩ := HR.out.cells
        simp only at c0 c1
        go_wp2
        go_quiet (fail)
        go_wp2
        go_ret3
        rw [E1.out, E2.out, E3.out]
        exact ⟨_, rfl, CV.own (own_below HO.out (below_drewN (Below.refl _ _) _)) HLE.out.symm, below_drewN hbr _⟩

set_option maxRecDepth 100000 in
set_option maxHeartbeats 1000000 in
theorem tchanges_v (s : ByteArray) (w : World) (hs : s.size ≤ maxLen) :
    Calls Try.prog 25 #[.string s] w fun e w' => ∃ v, e = .returned (.tuple #[v, .string (kC.tR s), .int .i64 (kC.tE s)]) ∧ CV w' v (kC.tL s) ∧ Below w.heap.size w w' := by
  have hc := takec_any s w hs
  obtain ⟨L, hL⟩ : ∃ L, L = kC.tL s := ⟨_, rfl⟩
  obtain ⟨R, hR⟩ : ∃ R, R = kC.tR s := ⟨_, rfl⟩
  obtain ⟨E, hE⟩ : ∃ E, E = kC.tE s := ⟨_, rfl⟩
  rw [← hL, ← hR, ← hE] at hc
  rw [← hL, ← hR, ← hE]
  have HC := Lib.hid hc
  clear hc hL hR hE hs
  go_enter Try.func25, Try.ntmps25
  go_wp2_with fail
  refine HC.out.mono ?_
  rintro e w1 ⟨v, rfl, hv, hb⟩
  have HV := Lib.hid hv
  have HB := Lib.hid hb
  clear hb hv
  go_wp2
  go_ret3
  exact ⟨_, rfl, HV.out, HB.out⟩

end Go.Proofs.Ytfbcmcckgjfdhaa
