/- The walk of Put. -/
import Derived.Test.YthoffknkpogfhaaWGet
set_option linter.unusedVariables false
set_option linter.unusedSimpArgs false
namespace Go.Proofs.Ythoffknkpogfhaa
open Go.RowKit

def putC (m : Int) (l xs : List It) : List It × List It := if rightL m l then putL m l xs else (l, [])
theorem outD_gone {m : Int} {l : List It} {x : It} : (goneL m l x).isSome = false → outD (goneL m l x) = [] := by
  cases h : goneL m l x with
  | none => intro _; rfl
  | some y => intro h; cases h
theorem outD_some {m : Int} {l : List It} {x : It} : (goneL m l x).isSome = true → outD (goneL m l x) = if ((goneL m l x).getD zI).d then [(goneL m l x).getD zI] else [] := by
  cases h : goneL m l x with
  | none => intro h; cases h
  | some y => intro _; rfl

/-- An answer of a cache is written. -/
theorem ans_cache {w0 w : World} {q4 : Nat} {T4 : TypeId} {a0 b0 : Value} (h4 : Box w q4 T4 #[a0, b0]) (hB : Below w0.heap.size w0 w) (l4 : w0.heap.size ≤ q4) (a b : Value) :
    ∃ W, W = ((w.setCell ⟨q4, 0, none⟩ a).setCell ⟨q4, 1, none⟩ b) ∧ (W.cell? ⟨q4, 0, none⟩ = some a ∧ W.cell? ⟨q4, 1, none⟩ = some b) ∧ Below w0.heap.size w0 W ∧
      ∀ (base n k : Nat) (t : TypeId) (v : Value) (xs : List Value), w.ownsRow base t k v n xs → v.ownBlock ≠ some q4 → W.ownsRow base t k v n xs := by
  have e4 : Ex q4 w ((w.setCell ⟨q4, 0, none⟩ a).setCell ⟨q4, 1, none⟩ b) := (Ex.set (g := q4) (i := 0) w a).trans (Ex.set (i := 1) _ b)
  exact ⟨_, rfl, ans_two a b h4, Ex.below hB e4 l4 hB.size, fun base n k t v xs ho h1 => own_ex e4 ho h1⟩

set_option maxHeartbeats 4000000 in
set_option maxRecDepth 100000 in
theorem put_any {s it : Value} {l xs : List It} (m : Int) (w : World) (hv : IV w s l) (hn : l.length ≤ 1000) (hx : IV w it xs) (hxn : xs.length ≤ 10000) :
    Calls Try.prog 13 #[.agg #[.int .i64 m, s], it] w fun e w' => ∃ s' o', e = .returned (.tuple #[.agg #[.int .i64 m, s'], o', .int .i64 (if rightL m l then 0 else 1)]) ∧ IV w' s' (putC m l xs).1 ∧ IV w' o' (putC m l xs).2 ∧ Below w.heap.size w w' := by
  obtain ⟨E, hE⟩ : ∃ E, E = putC m l xs := ⟨_, rfl⟩
  rw [← hE]
  have HE := Lib.hid hE
  obtain ⟨AX, cx, rfl, hx⟩ := (show ∃ A c, it = .slice A xs.length c ∧ IV w (.slice A xs.length c) xs from by obtain ⟨A, c, e, h⟩ := hx; exact ⟨A, c, e, A, c, rfl, h⟩)
  obtain ⟨nx, hlx⟩ : ∃ nx, xs.length = nx := ⟨_, rfl⟩
  rw [hlx] at hx hxn ⊢
  have HLX := Lib.hid hlx
  have HXW := Lib.hid hx
  have hnx0 : ¬ ((nx : Int) < 0) := by omega
  obtain ⟨er, her⟩ : ∃ er : Int, er = if rightL m l = true then 0 else 1 := ⟨_, rfl⟩
  rw [← her]
  have HER := Lib.hid her
  obtain ⟨A, c, rfl, hv⟩ := (show ∃ A c, s = .slice A l.length c ∧ IV w (.slice A l.length c) l from by obtain ⟨A, c, e, h⟩ := hv; exact ⟨A, c, e, A, c, rfl, h⟩)
  obtain ⟨n, hl⟩ : ∃ n, l.length = n := ⟨_, rfl⟩
  rw [hl] at hv hn ⊢
  have HL := Lib.hid hl
  obtain ⟨R, hR⟩ : ∃ R, R = rightL m l := ⟨_, rfl⟩
  have HR := Lib.hid hR
  obtain ⟨w1, hw1⟩ : ∃ w1, w1 = w.alloc (.cells #[.int .i64 m, .slice A n c] 24) := ⟨_, rfl⟩
  obtain ⟨w3, hw3⟩ : ∃ w3, w3 = w1.alloc (.cells #[.int .i64 0, .slice none 0 0] 24) := ⟨_, rfl⟩
  obtain ⟨g, hg⟩ : ∃ g, g = w.heap.size := ⟨_, rfl⟩
  obtain ⟨q4, hq4⟩ : ∃ q, q = w1.heap.size := ⟨_, rfl⟩
  have e4 : g + 1 = q4 := by rw [hq4, hw1, hg]; simp
  have BX0 := Lib.hid (show Box w3 g 24 #[.int .i64 m, .slice A n c] from by rw [hw3]; exact Box.push (by rw [hw1]; exact Box.at_ w _ _ hg) _)
  have B40 := Lib.hid (show Box w3 q4 24 #[.int .i64 0, .slice none 0 0] from by rw [hw3]; exact Box.at_ w1 _ _ hq4)
  have hb3 : Below w.heap.size w w3 := by rw [hw3, hw1]; exact ((Below.refl _ _).alloc (Nat.le_refl _) _).alloc (by simp) _
  have HV0 := Lib.hid (hv.on hb3)
  have HB0 := Lib.hid hb3
  have HQ := Lib.hid (show w.heap.size ≤ q4 ∧ q4 < w3.heap.size ∧ g < w3.heap.size from ⟨by omega, Box.lt B40.out, Box.lt BX0.out⟩)
  have hc1 := fun (wx : World) (h : IV wx (.slice A n c) l) => copied_any m wx h (by omega)
  rw [hl] at hc1
  have HC1 := Lib.hid hc1
  have hc2 := fun (wx : World) (h : IV wx (.slice A n c) l) => right_any m wx h (by omega)
  rw [← hR] at hc2
  have HC2 := Lib.hid hc2
  have k0 := Box.cell BX0.out 0 rfl
  have k1 := Box.cell BX0.out 1 rfl
  have HN := Lib.hid hn
  clear hE hlx hx her hR hv hn hc1 hc2 hl hb3
  go_enter Try.func13, Try.ntmps13
  go_upto_region 1 with fail
  rw [← hg, e4, ← hw1, ← hw3]
  clear hg hq4 e4 hw1 hw3
  go_wp2_with fail
  refine (HC1.out _ HV0.out).mono ?_
  rintro e w4 ⟨s4, rfl, ho, hb⟩
  obtain ⟨A4, c4, rfl⟩ := own_shape ho
  go_upto_region 2 with fail
  obtain ⟨g7, hg7⟩ : ∃ g7, g7 = w4.heap.size := ⟨_, rfl⟩
  obtain ⟨w5, hw5⟩ : ∃ w5, w5 = w4.alloc (.cells #[.int .i64 m, .slice A4 n c4] 24) := ⟨_, rfl⟩
  rw [← hg7, ← hw5]
  have h5 : Below w4.heap.size w4 w5 := by rw [hw5]; exact (Below.refl _ _).alloc (Nat.le_refl _) _
  have h35 := hb.trans (h5.mono hb.size)
  have HO5 := Lib.hid (own_on ho h5)
  have HB5 := Lib.hid (HB0.out.trans (h35.mono HB0.out.size))
  have BX5 := Lib.hid (BX0.out.on h35)
  have B45 := Lib.hid (B40.out.on h35)
  have HV5 := Lib.hid (HV0.out.on h35)
  have B75 := Lib.hid (show Box w5 g7 24 #[.int .i64 m, .slice A4 n c4] from by rw [hw5]; exact Box.at_ w4 _ _ hg7)
  have HQ7 := Lib.hid (show w3.heap.size ≤ g7 ∧ w3.heap.size ≤ w5.heap.size from ⟨by rw [hg7]; exact hb.size, h35.size⟩)
  have k0 := Box.cell BX5.out 0 rfl
  have k1 := Box.cell BX5.out 1 rfl
  clear hb ho h5 h35 hg7 hw5 BX0 B40 HV0 HB0 HC1 
  go_wp2_with fail
  refine (HC2.out _ HV5.out).mono ?_
  rintro e w6 ⟨rfl, hb⟩
  have HO6 := Lib.hid (own_on HO5.out hb)
  have HB6 := Lib.hid (HB5.out.trans (hb.mono HB5.out.size))
  have BX6 := Lib.hid (BX5.out.on hb)
  have B46 := Lib.hid (B45.out.on hb)
  have HV6 := Lib.hid (HV5.out.on hb)
  have B76 := Lib.hid (B75.out.on hb)
  have HS6 := Lib.hid (Nat.le_trans HQ7.out.2 hb.size)
  clear hb k0 k1 HO5 HB5 BX5 B45 HV5 B75 HC2 
  cases R with
  | false =>
    have k0 := Box.cell B76.out 0 rfl
    have k1 := Box.cell B76.out 1 rfl
    obtain ⟨W, hW, hcs, hbW, hoW⟩ := ans_cache B46.out HB6.out HQ.out.1 (.int .i64 m) (.slice A4 n c4)
    have HW := Lib.hid hW
    have HCS := Lib.hid hcs
    have HBW := Lib.hid hbW
    have HOW := Lib.hid (hoW _ _ _ _ _ _ HO6.out (own_far HO6.out HQ.out.2.1))
    have m0 := Box.cell B46.out 0 rfl
    have m1 := Box.cell B46.out 1 rfl
    have f0 := Box.free B46.out 0
    have f1 := Box.free B46.out 1
    clear hW hcs hbW hoW
    go_wp2
    rw [← HW.out]
    obtain ⟨p0, p1⟩ := HCS.out
    have hF : E = (l, []) ∧ er = 1 := ⟨by rw [HE.out]; unfold putC; rw [← HR.out]; rfl, by rw [HER.out, ← HR.out]; rfl⟩
    rw [hF.1, hF.2]
    exact bodyPost_ret (v := .tuple #[.agg #[.int .i64 m, .slice A4 n c4], .slice none 0 0, .int .i64 1]) (by simp [results, Try.results13, go_sem, p0, p1]) rfl ⟨_, _, rfl, IV.own HOW.out HL.out.symm, IV.nil _, HBW.out⟩
  | true =>
    have HP := Lib.hid (show E = putL m l xs ∧ er = 0 from ⟨by rw [HE.out]; unfold putC; rw [← HR.out]; rfl, by rw [HER.out, ← HR.out]; rfl⟩)
    have HRR := Lib.hid (show rightL m l = true from HR.out.symm)
    go_wp2
    go_loopw [8, 21] (fun ov iv wr => ∃ (k : Nat) (A' : Option Addr) (n' c' no : Nat), iv = .int .i64 k ∧ k ≤ nx ∧ Hid (Box wr g7 24 #[.int .i64 m, .slice A' n' c']) ∧ Hid (wr.ownsRow w3.heap.size 27 3 (.slice A' n' c') n' ((putL m l (xs.take k)).1.flatMap It.cells)) ∧ Hid (n' = (putL m l (xs.take k)).1.length ∧ no = (putL m l (xs.take k)).2.length ∧ no ≤ k ∧ n' ≤ 100) ∧ Hid (wr.ownsRow w3.heap.size 27 3 ov no ((putL m l (xs.take k)).2.flatMap It.cells)) ∧ Hid (Apart2 (.slice A' n' c') ov) ∧ Hid (Box wr q4 24 #[.int .i64 0, .slice none 0 0]) ∧ Hid (w3.heap.size ≤ wr.heap.size) ∧ Below w.heap.size w wr) (fun _ iv _ => (nx - intOf iv).toNat)
    case atStart =>
      refine ⟨0, A4, n, c4, 0, rfl, by omega, B76.out, ?_, ?_, ?_, .inl rfl, B46.out, HS6.out, HB6.out⟩
      · show World.ownsRow _ _ _ _ _ _ _
        rw [List.take_zero, putL_nil]
        exact HO6.out
      · show _ ∧ _ ∧ _ ∧ _
        rw [List.take_zero, putL_nil]
        exact ⟨HL.out.symm, rfl, Nat.le_refl _, by rw [← HL.out]; exact right_len HRR.out⟩
      · show World.ownsRow _ _ _ _ _ _ _
        rw [List.take_zero, putL_nil]
        exact World.ownsRow_nil _ _ _ _
    case round =>
      obtain ⟨k, A', n', c', no, rfl, hk, B7, HO, HNN, HOO, HAP, B4, HS, hbr⟩ := hrel
      by_cases hlt : k < nx
      · obtain ⟨ad, rfl, hab, hca⟩ := (show Its wr wr.heap.size AX xs from by obtain ⟨A', c', e, h, _⟩ := HXW.out.on hbr; injection e with e1 _ _; rw [e1]; exact h).seeI (by rw [HLX.out]; omega)
        have hkl : k < xs.length := by rw [HLX.out]; exact hlt
        obtain ⟨c1, c2, c3⟩ := hca k hkl
        obtain ⟨x, hx⟩ : ∃ x, x = xs[k]'hkl := ⟨_, rfl⟩
        rw [← hx] at c1 c2 c3
        have HST := Lib.hid (show putL m l (xs.take (k + 1)) = stepP m (putL m l (xs.take k)) x from by rw [putL_take m l xs hkl, hx])
        have HRP := Lib.hid (put_right HRR.out (xs.take (k + 1)))
        have HBR := Lib.hid hbr
        obtain ⟨P1, hP1⟩ : ∃ P1, P1 = (putL m l (xs.take k)).1 := ⟨_, rfl⟩
        obtain ⟨P2, hP2⟩ : ∃ P2, P2 = (putL m l (xs.take k)).2 := ⟨_, rfl⟩
        rw [← hP1] at HO
        rw [← hP2] at HOO
        rw [← hP1, ← hP2] at HNN
        have HS1 := Lib.hid (show (putL m l (xs.take (k + 1))).1 = useL m P1 x ∧ (putL m l (xs.take (k + 1))).2 = P2 ++ outD (goneL m P1 x) from by rw [HST.out, hP1, hP2]; exact ⟨rfl, rfl⟩)
        clear hca hx hkl HST hP1 hP2 hab hbr
        obtain ⟨xa, xt, xd⟩ := x
        simp only at c1 c2 c3
        go_upto_region 8 with fail
        obtain ⟨g9, hg9⟩ : ∃ g9, g9 = wr.heap.size := ⟨_, rfl⟩
        obtain ⟨w8, hw8⟩ : ∃ w8, w8 = wr.alloc (.cells #[.int .i64 xa, .string xt, .bool xd] 27) := ⟨_, rfl⟩
        rw [← hg9, ← hw8]
        have hb : Below wr.heap.size wr w8 := by rw [hw8]; exact (Below.refl _ _).alloc (Nat.le_refl _) _
        have HO8 := Lib.hid (own_on HO.out hb)
        have HOO8 := Lib.hid (own_on HOO.out hb)
        have HB8 := Lib.hid (HBR.out.trans (hb.mono HBR.out.size))
        have B48 := Lib.hid (B4.out.on hb)
        have B78 := Lib.hid (B7.out.on hb)
        have hS8 := Nat.le_trans HS.out hb.size
        have B98 := Lib.hid (show Box w8 g9 27 #[.int .i64 xa, .string xt, .bool xd] from by rw [hw8]; exact Box.at_ wr _ _ hg9)
        have hn9 : n' ≤ 1000 := by have := HNN.out; omega
        have hu := use_any w8 w3.heap.size g7 n' (.slice A' n' c') m P1 ⟨xa, xt, xd⟩ HNN.out.1.symm B78.out HO8.out hS8 hn9
        obtain ⟨y, hy⟩ : ∃ y, y = (goneL m P1 ⟨xa, xt, xd⟩).getD zI := ⟨_, rfl⟩
        obtain ⟨G, hG⟩ : ∃ G, G = (goneL m P1 ⟨xa, xt, xd⟩).isSome := ⟨_, rfl⟩
        rw [← hy, ← hG] at hu
        have HOUT := Lib.hid (show (G = false → outD (goneL m P1 ⟨xa, xt, xd⟩) = []) ∧ (G = true → outD (goneL m P1 ⟨xa, xt, xd⟩) = if y.d then [y] else []) from ⟨fun h => outD_gone (by rw [← hG]; exact h), fun h => by rw [outD_some (by rw [← hG]; exact h), ← hy]⟩)
        have HU := Lib.hid hu
        have HSZ := Lib.hid hS8
        have k0 := Box.cell B98.out 0 rfl
        have k1 := Box.cell B98.out 1 rfl
        have k2 := Box.cell B98.out 2 rfl
        clear hb hu hS8 hg9 hw8 c1 c2 c3 hn9 hy hG HO HOO B4 B7 HS HBR
        obtain ⟨ya, yt, yd⟩ := y
        unfold It.v at HU
        simp only at HU HOUT
        go_wp2_with fail
        refine HU.out.mono ?_
        rintro e w9 ⟨rfl, v', hbc, ho, hk2, ha⟩
        obtain ⟨A9, c9, rfl⟩ := own_shape ho
        have h79 : w3.heap.size ≤ g7 := HQ7.out.1
        have HAP9 := Lib.hid (show Apart2 (.slice A9 (useL m P1 ⟨xa, xt, xd⟩).length c9) u8 from Apart2.grow HAP.out HOO8.out ha)
        have HO9 := Lib.hid ho
        have B79 := Lib.hid hbc
        have HOO9 := Lib.hid (hk2.own HOO8.out (own_off HOO8.out B78.out) HAP.out)
        have B49 := Lib.hid (hk2.box B48.out (by have := HQ.out; omega) (own_far HO8.out HQ.out.2.1).symm)
        have HB9 := Lib.hid (K2.below HB8.out hk2 (by have := HQ.out; omega) (fun q e => by have := (own_lt HO8.out e).1; have := HQ.out; omega) HB8.out.size)
        have HSZ9 := Lib.hid (Nat.le_trans HSZ.out hk2.size)
        clear hbc ho hk2 ha k0 k1 k2 HO8 HOO8 HB8 B48 B78 B98 HU HAP HSZ
        go_upto_region 9 with fail
        obtain ⟨g11, hg11⟩ : ∃ g11, g11 = w9.heap.size := ⟨_, rfl⟩
        obtain ⟨w10, hw10⟩ : ∃ w10, w10 = w9.alloc (.cells #[.int .i64 ya, .string yt, .bool yd] 27) := ⟨_, rfl⟩
        rw [← hg11, ← hw10]
        have hb : Below w9.heap.size w9 w10 := by rw [hw10]; exact (Below.refl _ _).alloc (Nat.le_refl _) _
        have B11 := Lib.hid (show Box w10 g11 27 #[.int .i64 ya, .string yt, .bool yd] from by rw [hw10]; exact Box.at_ w9 _ _ hg11)
        have HO10 := Lib.hid (own_on HO9.out hb)
        have HOO10 := Lib.hid (own_on HOO9.out hb)
        have B70 := Lib.hid (B79.out.on hb)
        have B40 := Lib.hid (B49.out.on hb)
        have HB10 := Lib.hid (HB9.out.trans (hb.mono HB9.out.size))
        have HSZ := Lib.hid (Nat.le_trans HSZ9.out hb.size)
        have HNL := Lib.hid (show (useL m P1 ⟨xa, xt, xd⟩).length ≤ 100 from by rw [← HS1.out.1]; exact right_len HRP.out)
        have l0 := Box.cell B11.out 0 rfl
        have l1 := Box.cell B11.out 1 rfl
        have l2 := Box.cell B11.out 2 rfl
        clear hb hg11 hw10 HO9 HOO9 B79 B49 HB9 HSZ9
        by_cases hgd : G = true ∧ yd = true
        · obtain ⟨rfl, rfl⟩ := hgd
          have HOU := Lib.hid (show (putL m l (xs.take (k + 1))).2.flatMap It.cells = P2.flatMap It.cells ++ It.cells ⟨ya, yt, true⟩ ∧ (putL m l (xs.take (k + 1))).2.length = P2.length + 1 from by
            rw [HS1.out.2, HOUT.out.2 rfl, if_pos rfl, List.flatMap_append]
            simp)
          go_wp2_with (at_builtin; refine push_it item_info Try.underlying22 _ rfl _ _ rfl w3.heap.size _ no _ rfl (own_on HOO10.out ((Below.refl _ _).alloc (Nat.le_refl _) _)) w10.heap.size ⟨ya, yt, true⟩ rfl (Box.fresh _ _ _) (by have := HNN.out; omega) (by have := HSZ.out; simp; omega) ?_)
          intro ov' w12 hown hgr hat
          have hb1 : Below w10.heap.size w10 (w10.alloc (.cells #[.int .i64 ya, .string yt, .bool true] 27)) := (Below.refl _ _).alloc (Nat.le_refl _) _
          have hoff := own_off HOO10.out B70.out
          have hfar := own_far HOO10.out HQ.out.2.1
          have HB12 := Lib.hid ((HB10.out.trans (hb1.mono HB10.out.size)).grown hgr (by have := HB10.out.size; simp; omega) (fun q hq => by have := (own_lt HOO10.out hq).1; have := HQ.out; omega))
          have B712 := Lib.hid ((B70.out.on hb1).grown hgr (fun e => hoff e.symm))
          have B412 := Lib.hid ((B40.out.on hb1).grown hgr (fun e => hfar e.symm))
          have HO12 := Lib.hid (own_grown (own_on HO10.out hb1) hgr HAP9.out.symm)
          have HAP12 := Lib.hid ((Apart2.grow HAP9.out.symm (own_on HO10.out hb1) (hat.imp id fun h => ⟨w10.heap.size + 1, by simp, h⟩)).symm)
          have HS12 := Lib.hid (show w3.heap.size ≤ w12.heap.size from Nat.le_trans HSZ.out (Nat.le_trans hb1.size hgr.size))
          have HOO12 := Lib.hid hown
          clear hown hgr hat hb1 hoff hfar l0 l1 l2
          go_wp2
          go_roundw
          case rel =>
            refine ⟨k + 1, A9, _, c9, no + 1, by go_num, by omega, B712.out, ?_, ?_, ?_, HAP12.out, B412.out, HS12.out, HB12.out⟩
            · show World.ownsRow _ _ _ _ _ _ _
              rw [HS1.out.1]; exact HO12.out
            · show _ ∧ _ ∧ _ ∧ _
              rw [HS1.out.1, HOU.out.2]
              have := HNN.out
              exact ⟨rfl, by omega, by omega, HNL.out⟩
            · show World.ownsRow _ _ _ _ _ _ _
              rw [HOU.out.1]; exact HOO12.out
          case measure => simp [intOf]; omega
        · have HOU := Lib.hid (show (putL m l (xs.take (k + 1))).2 = P2 from by
            rw [HS1.out.2]
            cases G with
            | false => rw [HOUT.out.1 rfl, List.append_nil]
            | true =>
              have : yd = false := by simpa using hgd
              rw [HOUT.out.2 rfl, this]
              simp)
          have hrel2 : ∀ r : Int, r = k + 1 → True := fun _ _ => trivial
          clear hrel2
          cases G with
          | false =>
            clear hgd
            go_wp2
            go_roundw
            case rel =>
              refine ⟨k + 1, A9, _, c9, no, by go_num, by omega, B70.out, ?_, ?_, ?_, HAP9.out, B40.out, HSZ.out, HB10.out⟩
              · show World.ownsRow _ _ _ _ _ _ _
                rw [HS1.out.1]; exact HO10.out
              · show _ ∧ _ ∧ _ ∧ _
                rw [HS1.out.1, HOU.out]
                have := HNN.out
                exact ⟨rfl, by omega, by omega, HNL.out⟩
              · show World.ownsRow _ _ _ _ _ _ _
                rw [HOU.out]; exact HOO10.out
            case measure => simp [intOf]; omega
          | true =>
            have hyd : yd = false := by simpa using hgd
            subst hyd
            clear hgd
            go_wp2
            go_roundw
            case rel =>
              refine ⟨k + 1, A9, _, c9, no, by go_num, by omega, B70.out, ?_, ?_, ?_, HAP9.out, B40.out, HSZ.out, HB10.out⟩
              · show World.ownsRow _ _ _ _ _ _ _
                rw [HS1.out.1]; exact HO10.out
              · show _ ∧ _ ∧ _ ∧ _
                rw [HS1.out.1, HOU.out]
                have := HNN.out
                exact ⟨rfl, by omega, by omega, HNL.out⟩
              · show World.ownsRow _ _ _ _ _ _ _
                rw [HOU.out]; exact HOO10.out
            case measure => simp [intOf]; omega
      · have HKX := Lib.hid (show xs.take k = xs from List.take_of_length_le (by rw [HLX.out]; omega))
        have k0 := Box.cell B7.out 0 rfl
        have k1 := Box.cell B7.out 1 rfl
        obtain ⟨W, hW, hcs, hbW, hoW⟩ := ans_cache B4.out hbr HQ.out.1 (.int .i64 m) (.slice A' n' c')
        have HW := Lib.hid hW
        have HCS := Lib.hid hcs
        have HBW := Lib.hid hbW
        have HOW := Lib.hid (hoW _ _ _ _ _ _ HO.out (own_far HO.out HQ.out.2.1))
        have HOOW := Lib.hid (hoW _ _ _ _ _ _ HOO.out (own_far HOO.out HQ.out.2.1))
        have m0 := Box.cell B4.out 0 rfl
        have m1 := Box.cell B4.out 1 rfl
        have f0 := Box.free B4.out 0
        have f1 := Box.free B4.out 1
        clear hW hcs hbW hoW
        go_wp2
        rw [← HW.out]
        obtain ⟨p0, p1⟩ := HCS.out
        have hx2 := HKX.out
        rw [HP.out.1, HP.out.2]
        have h1 := HOW.out
        have h2 := HOOW.out
        have h3 := HNN.out
        rw [hx2] at h1 h2 h3
        exact bodyPost_ret (v := .tuple #[.agg #[.int .i64 m, .slice A' n' c'], u8, .int .i64 0]) (by simp [results, Try.results13, go_sem, p0, p1]) rfl ⟨_, _, rfl, IV.own h1 h3.1, IV.own h2 h3.2.1, HBW.out⟩

end Go.Proofs.Ythoffknkpogfhaa
