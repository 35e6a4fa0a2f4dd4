/- The walk of the document's Put. -/
import Derived.Test.YthoffknkpogfhaaRGet
import Derived.Test.YthoffknkpogfhaaWPut
set_option linter.unusedVariables false
set_option linter.unusedSimpArgs false
namespace Go.Proofs.Ythoffknkpogfhaa
open Go.RowKit

def lenV : Value → Nat
  | .slice _ n _ => n
  | _ => 0
theorem apart_of {w w2 : World} {base base2 e e2 k k2 n n2 : Nat} {a b : Value} {xs ys : List Value} (ha : w.ownsRow base e k a n xs) (hb : w2.ownsRow base2 e2 k2 b n2 ys) (h : w2.heap.size ≤ base) : Apart2 a b := by
  unfold Apart2
  cases hbb : b.ownBlock with
  | none => exact .inl rfl
  | some g =>
    right
    intro e
    have h1 := (own_lt ha e.symm).1
    have h2 := (own_lt hb hbb).2
    omega

def RpS (g k nx cx nf np cp : Nat) (B0 : Nat) (ad : Addr) (Ap : Option Addr) (xa : Int) (xt : ByteArray) (xd : Bool) (L : List It) (p t : Nat) (v : Value) (w : World) : Prop :=
  match t with
  | 22 => v = .pointer (some ⟨g, 1, none⟩)
  | 23 => v = .slice Ap np cp
  | 24 => v = .slice (some ad) nx cx
  | 25 => v = .int .i64 k
  | 26 => v = .pointer (some (ad.add (k * 3)))
  | 27 => v = .agg #[.int .i64 xa, .string xt, .bool xd]
  | 28 => ∃ A' c', v = .slice A' nf c' ∧ w.ownsRow B0 33 3 (.slice A' nf c') nf (L.flatMap It.cells)
  | 10 => ∃ A' c', v = .slice A' nf c' ∧ w.ownsRow B0 33 3 (.slice A' nf c') nf (L.flatMap It.cells)
  | _ => True
theorem RpS.on {g k nx cx nf np cp : Nat} {B0 : Nat} {ad : Addr} {Ap : Option Addr} {xa : Int} {xt : ByteArray} {xd : Bool} {L : List It} {p t : Nat} {v : Value} {w w' : World} (h : RpS g k nx cx nf np cp B0 ad Ap xa xt xd L p t v w) (hb : Below w.heap.size w w') : RpS g k nx cx nf np cp B0 ad Ap xa xt xd L p t v w' := by
  unfold RpS at *
  split at h <;> first | exact h | exact (let ⟨s', c', e1, h1⟩ := h; ⟨s', c', e1, own_on h1 hb⟩)

set_option maxHeartbeats 4000000 in
set_option maxRecDepth 100000 in
theorem rput_any {s it : Value} {l xs : List It} (m : Int) (w : World) (hv : IV w s l) (hn : l.length ≤ 1000) (hx : IV w it xs) (hxn : xs.length ≤ 10000) :
    Calls Try.prog 14 #[.agg #[.int .i64 m, s], it] w fun e w' => ∃ s' o', e = .returned (.tuple #[.agg #[.int .i64 m, s'], o', .bool (rightL m l)]) ∧ IV w' s' (putC m l xs).1 ∧ IV w' o' (putC m l xs).2 ∧ Below w.heap.size w w' := by
  obtain ⟨E, hE⟩ : ∃ E, E = putC m l xs := ⟨_, rfl⟩
  obtain ⟨R, hR⟩ : ∃ R, R = rightL m l := ⟨_, rfl⟩
  rw [← hE, ← hR]
  have HE := Lib.hid hE
  have HR := Lib.hid hR
  obtain ⟨AX, cx, rfl, hx⟩ := (show ∃ A c, it = .slice A xs.length c ∧ IV w (.slice A xs.length c) xs from by obtain ⟨A, c, e, h⟩ := hx; exact ⟨A, c, e, A, c, rfl, h⟩)
  obtain ⟨nx, hlx⟩ : ∃ nx, xs.length = nx := ⟨_, rfl⟩
  rw [hlx] at hx hxn ⊢
  have HLX := Lib.hid hlx
  have HXW := Lib.hid hx
  obtain ⟨A, c, rfl, hv⟩ := (show ∃ A c, s = .slice A l.length c ∧ IV w (.slice A l.length c) l from by obtain ⟨A, c, e, h⟩ := hv; exact ⟨A, c, e, A, c, rfl, h⟩)
  obtain ⟨n, hl⟩ : ∃ n, l.length = n := ⟨_, rfl⟩
  rw [hl] at hv hn ⊢
  have HL := Lib.hid hl
  have HVW := Lib.hid hv
  obtain ⟨w1, hw1⟩ : ∃ w1, w1 = w.alloc (.cells #[.int .i64 m, .slice A n c] 32) := ⟨_, rfl⟩
  obtain ⟨w3, hw3⟩ : ∃ w3, w3 = w1.alloc (.cells #[.int .i64 0, .slice none 0 0] 32) := ⟨_, rfl⟩
  obtain ⟨g, hg⟩ : ∃ g, g = w.heap.size := ⟨_, rfl⟩
  obtain ⟨ga, hga⟩ : ∃ q, q = w1.heap.size := ⟨_, rfl⟩
  have e4 : g + 1 = ga := by rw [hga, hw1, hg]; simp
  have BX0 := Lib.hid (show Box w3 g 32 #[.int .i64 m, .slice A n c] from by rw [hw3]; exact Box.push (by rw [hw1]; exact Box.at_ w _ _ hg) _)
  have B40 := Lib.hid (show Box w3 ga 32 #[.int .i64 0, .slice none 0 0] from by rw [hw3]; exact Box.at_ w1 _ _ hga)
  have hb3 : Below w.heap.size w w3 := by rw [hw3, hw1]; exact ((Below.refl _ _).alloc (Nat.le_refl _) _).alloc (by simp) _
  have HV0 := Lib.hid (hv.on hb3)
  have HB0 := Lib.hid hb3
  have HGW := Lib.hid (show w.heap.size ≤ g ∧ w.heap.size ≤ ga ∧ g ≠ ga ∧ ga < w3.heap.size from ⟨by omega, by omega, by omega, Box.lt B40.out⟩)
  have hc2 := fun (wx : World) (h : IV wx (.slice A n c) l) => rright_any m wx h (by omega)
  rw [← hR] at hc2
  have HC2' := Lib.hid hc2
  have k0 := Box.cell BX0.out 0 rfl
  have k1 := Box.cell BX0.out 1 rfl
  clear hE hR hv hx hc2 hl hlx hb3
  go_enter Try.func14, Try.ntmps14
  go_upto_region 1 with fail
  rw [← hg, e4, ← hw1, ← hw3]
  clear hg hga e4 hw1 hw3
  go_wp2_with fail
  refine (HC2'.out _ HV0.out).mono ?_
  rintro e w6 ⟨rfl, hb⟩
  have HB6 := Lib.hid (HB0.out.trans (hb.mono HB0.out.size))
  have BX6 := Lib.hid (BX0.out.on hb)
  have B46 := Lib.hid (B40.out.on hb)
  have HV6 := Lib.hid (HV0.out.on hb)
  have HGS := Lib.hid (show w3.heap.size ≤ w6.heap.size from hb.size)
  clear hb k0 k1 HC2' BX0 B40 HV0 HB0
  cases R with
  | false =>
    have k0 := Box.cell BX6.out 0 rfl
    have k1 := Box.cell BX6.out 1 rfl
    obtain ⟨W, hW, hcs, hbW, hoW⟩ := ans_cache B46.out HB6.out HGW.out.2.1 (.int .i64 m) (.slice A n c)
    have HW := Lib.hid hW
    have HCS := Lib.hid hcs
    have HBZ := Lib.hid hbW
    have m0 := Box.cell B46.out 0 rfl
    have m1 := Box.cell B46.out 1 rfl
    have f0 := Box.free B46.out 0
    have f1 := Box.free B46.out 1
    clear hW hcs hbW hoW
    go_wp2
    rw [← HW.out]
    obtain ⟨p0, p1⟩ := HCS.out
    have hF : E = (l, []) := by rw [HE.out]; unfold putC; rw [← HR.out]; rfl
    rw [hF]
    exact bodyPost_ret (v := .tuple #[.agg #[.int .i64 m, .slice A n c], .slice none 0 0, .bool false]) (by simp [results, Try.results14, go_sem, p0, p1]) rfl ⟨_, _, rfl, HVW.out.on HBZ.out, IV.nil _, HBZ.out⟩
  | true =>
    have HP := Lib.hid (show E = putL m l xs from by rw [HE.out]; unfold putC; rw [← HR.out]; rfl)
    have HRR := Lib.hid (show rightL m l = true from HR.out.symm)
    go_wp2
    go_loopw [8, 9] (fun ov iv wr => ∃ (k no np cp : Nat) (Ap : Option Addr), iv = .int .i64 k ∧ k ≤ nx ∧ Hid (np = (putL m l (xs.take k)).1.length ∧ no = (putL m l (xs.take k)).2.length ∧ no ≤ k) ∧ Hid (Box wr g 32 #[.int .i64 m, .slice Ap np cp]) ∧ Hid (IV wr (.slice Ap np cp) (putL m l (xs.take k)).1) ∧ Hid (wr.ownsRow w6.heap.size 33 3 ov no ((putL m l (xs.take k)).2.flatMap It.cells)) ∧ Hid (Box wr ga 32 #[.int .i64 0, .slice none 0 0]) ∧ Hid (w6.heap.size ≤ wr.heap.size) ∧ Below w.heap.size w wr) (fun _ iv _ => (nx - intOf iv).toNat)
    case atStart =>
      refine ⟨0, 0, n, c, A, rfl, by omega, ?_, BX6.out, ?_, ?_, B46.out, Nat.le_refl _, HB6.out⟩
      · show _ ∧ _ ∧ _
        rw [List.take_zero, putL_nil]
        exact ⟨HL.out.symm, rfl, Nat.le_refl _⟩
      · show IV _ _ _
        rw [List.take_zero, putL_nil]
        exact HV6.out
      · show World.ownsRow _ _ _ _ _ _ _
        rw [List.take_zero, putL_nil]
        exact World.ownsRow_nil _ _ _ _
    case round =>
      obtain ⟨k, no, np, cp, Ap, rfl, hk, HNN, BXr, HVr, HOO, B4r, HSr, hbr⟩ := hrel
      by_cases hlt : k < nx
      · obtain ⟨ad, rfl, hab, hca⟩ := (show Its wr wr.heap.size AX xs from by obtain ⟨A', c', e, h, _⟩ := HXW.out.on hbr; injection e with e1 _ _; rw [e1]; exact h).seeI (by rw [HLX.out]; omega)
        have hkl : k < xs.length := by rw [HLX.out]; exact hlt
        obtain ⟨c1, c2, c3⟩ := hca k hkl
        obtain ⟨x, hx⟩ : ∃ x, x = xs[k]'hkl := ⟨_, rfl⟩
        rw [← hx] at c1 c2 c3
        have hST : putL m l (xs.take (k + 1)) = stepP m (putL m l (xs.take k)) x := by rw [putL_take m l xs hkl, hx]
        have hRP := put_right HRR.out (xs.take k)
        obtain ⟨P1, hP1⟩ : ∃ P1, P1 = (putL m l (xs.take k)).1 := ⟨_, rfl⟩
        obtain ⟨P2, hP2⟩ : ∃ P2, P2 = (putL m l (xs.take k)).2 := ⟨_, rfl⟩
        rw [← hP1] at HVr hRP
        rw [← hP2] at HOO
        rw [← hP1, ← hP2] at HNN
        have HS1 := Lib.hid (show (putL m l (xs.take (k + 1))).1 = useL m P1 x ∧ (putL m l (xs.take (k + 1))).2 = P2 ++ outD (goneL m P1 x) from by rw [hST, hP1, hP2]; exact ⟨rfl, rfl⟩)
        have hPL := right_len hRP
        have HPN := Lib.hid (show P1.length ≤ 1000 from by omega)
        rw [right_iff] at hRP
        obtain ⟨L, hL⟩ : ∃ L, L = front P1 x := ⟨_, rfl⟩
        have HFL := Lib.hid (show firstR P1 x = L from by rw [hL]; exact firstR_front hRP.2.2.2 x)
        have HLF := Lib.hid hL
        obtain ⟨q, hq⟩ : ∃ q, L.length = q + 1 := ⟨L.length - 1, by have := front_pos P1 x; rw [← hL] at this; omega⟩
        have HMQ := Lib.hid (show (q : Int) ≤ m ∧ q ≤ 100 from by
          have h1 := front_le P1 x
          rw [← hL, hq] at h1
          omega)
        obtain ⟨nf, hnf⟩ : ∃ nf, L.length = nf := ⟨_, rfl⟩
        have HNF := Lib.hid hnf
        have HQF := Lib.hid (show nf = q + 1 from by rw [← hnf, hq])
        have HC1 := Lib.hid c1
        have HC2 := Lib.hid c2
        have HC3 := Lib.hid c3
        have HBRo := Lib.hid hbr
        obtain ⟨wd, hwd⟩ : ∃ wd, wd = wr := ⟨_, rfl⟩
        rw [← hwd] at BXr HVr HOO B4r HSr HC1 HC2 HC3 HBRo ⊢
        have BX := BXr
        have HVP := HVr
        clear hca hx hkl hST hP1 hP2 hab hbr hwd hRP hPL hL hq hnf c1 c2 c3 BXr HVr
        obtain ⟨xa, xt, xd⟩ := x
        simp only at HC1 HC2 HC3
        go_upto_region 8 with fail
        refine wp_region_phase 14 [22, 23, 24, 25, 26, 27, 28, 10] (by kernel_rfl) [] [] (fun _ _ => True) 0 rfl (by kernel_rfl) (SP (fun wx => Below wd.heap.size wd wx) (fun _ => True) (fun _ => True)) (fun wa wb => Below wa.heap.size wa wb) (RpS g k nx cx nf np cp wd.heap.size ad Ap xa xt xd L) (by kernel_rfl) (SP.on below_grow (fun _ _ _ _ => trivial) (fun _ _ _ _ => trivial)) (fun _ t v wa wb h1 h2 => h2.on h1) (fun _ _ _ _ _ _ _ => trivial) (Below.refl _ _).drew trivial (phase0 ?_) ?_
        · refine Steps1.cons (fun _ ax wx hS _ hG => ?_) (Steps1.cons (fun _ ax wx hS _ hG => ?_) (Steps1.cons (fun _ ax wx hS _ hG => ?_) (Steps1.cons (fun _ ax wx hS _ hG => ?_) (Steps1.cons (fun _ ax wx hS _ hG => ?_) (Steps1.cons (fun _ ax wx hS _ hG => ?_) (Steps1.cons (fun _ ax wx hS _ hG => ?_) (Steps1.cons (fun _ ax wx hS _ hG => ?_) Steps1.nil)))))))
          · have q2 := hG.old 2 (by kernel_rfl) (by kernel_rfl)
            refine step_slot rfl rfl rfl (step_value (v := .pointer (some ⟨g, 1, none⟩)) (w' := wx) rfl rfl ?_ (Below.refl _ _) (fun d hd => by cases hd; exact rfl))
            go_simp
          · obtain ⟨_, q22, rfl⟩ := hG.new 22 (by kernel_rfl) (by kernel_rfl)
            have z0 := Box.cell (BX.out.on hS) 1 rfl
            refine step_slot rfl rfl rfl (step_value (v := .slice Ap np cp) (w' := wx) rfl rfl ?_ (Below.refl _ _) (fun d hd => by cases hd; exact rfl))
            go_simp
          · have q1 := hG.old 1 (by kernel_rfl) (by kernel_rfl)
            refine step_slot rfl rfl rfl (step_value (v := .slice (some ad) nx cx) (w' := wx) rfl rfl ?_ (Below.refl _ _) (fun d hd => by cases hd; exact rfl))
            go_simp
          · have q9 := hG.old 9 (by kernel_rfl) (by kernel_rfl)
            refine step_slot rfl rfl rfl (step_value (v := .int .i64 k) (w' := wx) rfl rfl ?_ (Below.refl _ _) (fun d hd => by cases hd; exact rfl))
            go_simp
          · obtain ⟨_, q24, rfl⟩ := hG.new 24 (by kernel_rfl) (by kernel_rfl)
            obtain ⟨_, q25, rfl⟩ := hG.new 25 (by kernel_rfl) (by kernel_rfl)
            refine step_slot rfl rfl rfl (step_value (v := .pointer (some (ad.add (k * 3)))) (w' := wx) rfl rfl ?_ (Below.refl _ _) (fun d hd => by cases hd; exact rfl))
            go_simp
          · obtain ⟨_, q26, rfl⟩ := hG.new 26 (by kernel_rfl) (by kernel_rfl)
            have hb := (show Below _ _ _ from hS)
            have z0 := (hb.cell (lt_of_cell HC1.out)).trans HC1.out
            have z1 := (hb.cell (lt_of_cell HC2.out)).trans HC2.out
            have z2 := (hb.cell (lt_of_cell HC3.out)).trans HC3.out
            clear hb
            refine step_slot rfl rfl rfl (step_value (v := .agg #[.int .i64 xa, .string xt, .bool xd]) (w' := wx) rfl rfl ?_ (Below.refl _ _) (fun d hd => by cases hd; exact rfl))
            go_simp
          · obtain ⟨_, q23, rfl⟩ := hG.new 23 (by kernel_rfl) (by kernel_rfl)
            obtain ⟨_, q27, rfl⟩ := hG.new 27 (by kernel_rfl) (by kernel_rfl)
            refine step_slot rfl rfl rfl (step_call (w1 := wx) (f := 26) (args := #[.slice Ap np cp, .agg #[.int .i64 xa, .string xt, .bool xd]]) rfl rfl ?_ ((first_any ⟨xa, xt, xd⟩ wx (HVP.out.on hS) HPN.out).mono ?_))
            · skip
              go_simp
            · rintro e w' ⟨v', rfl, ho, hq⟩
              exact ⟨_, rfl, hq, fun d hd => by cases hd; exact (by rw [HFL.out, HNF.out] at ho; obtain ⟨A', c', e⟩ := own_shape ho; subst e; exact ⟨A', c', rfl, own_more ho (show Below _ _ _ from hS).size⟩)⟩
          · obtain ⟨v28, q28, h28⟩ := hG.new 28 (by kernel_rfl) (by kernel_rfl)
            have p28 : ∃ A' c', v28 = .slice A' nf c' ∧ wx.ownsRow wd.heap.size 33 3 (.slice A' nf c') nf (L.flatMap It.cells) := h28
            refine step_slot rfl rfl rfl (step_value (v := v28) (w' := wx) rfl rfl ?_ (Below.refl _ _) (fun d hd => by cases hd; exact p28))
            clear h28 p28
            go_simp
        intro fv w8 hS8 _ hV8
        have e10 : ∃ A' c', (fv 10) = .slice A' nf c' ∧ w8.ownsRow wd.heap.size 33 3 (.slice A' nf c') nf (L.flatMap It.cells) := hV8 10 (by decide)
        simp only [puts, Act.put, List.setIfInBounds_toArray, List.set_cons_succ, List.set_cons_zero]
        clear hV8
        obtain ⟨Af, cf, e10, o10⟩ := e10
        rw [e10]
        obtain ⟨we, hwe⟩ : ∃ we, we = w8 := ⟨_, rfl⟩
        rw [← hwe] at o10 hS8 ⊢
        have hbe : Below wd.heap.size wd we := hS8
        have BXe := Lib.hid (BX.out.on hbe)
        have B4e := Lib.hid (B4r.out.on hbe)
        have HOe := Lib.hid (own_on HOO.out hbe)
        have HBe := Lib.hid (HBRo.out.trans (hbe.mono HBRo.out.size))
        have HSe := Lib.hid (show w6.heap.size ≤ we.heap.size from Nat.le_trans HSr.out hbe.size)
        have HFe := Lib.hid o10
        have HWD := Lib.hid (show w6.heap.size ≤ wd.heap.size ∧ w3.heap.size ≤ wd.heap.size from ⟨HSr.out, Nat.le_trans HGS.out HSr.out⟩)
        have HAPe := Lib.hid (apart_of o10 HOO.out (Nat.le_refl _))
        have hnfq : nf ≤ 101 := by have := HQF.out; have := HMQ.out; omega
        have hno : no ≤ 10000 := by have := HNN.out; omega
        clear hwe hbe o10 hS8 BX B4r HOO HSr HVP HBRo HC1 HC2 HC3 e10
        go_wp2
        go_loopw [8, 10] (fun ov lv wx => ∃ (nl n2 : Nat) (O2 : List It), lv = .slice Af nl cf ∧ nl ≤ nf ∧ n2 ≤ no + 1 ∧ Hid ((nl = nf ∧ O2 = P2) ∨ (nl + 1 = nf ∧ m < (nf : Int) ∧ O2 = P2 ++ outD L.getLast?)) ∧ Hid (O2.length = n2) ∧ Hid (Box wx g 32 #[.int .i64 m, .slice Ap np cp]) ∧ Hid (Box wx ga 32 #[.int .i64 0, .slice none 0 0]) ∧ Hid (wx.ownsRow w6.heap.size 33 3 ov n2 (O2.flatMap It.cells)) ∧ Hid (wx.ownsRow wd.heap.size 33 3 (.slice Af nf cf) nf (L.flatMap It.cells)) ∧ Hid (Apart2 (.slice Af nf cf) ov) ∧ Hid (w6.heap.size ≤ wx.heap.size) ∧ Below w.heap.size w wx) (fun _ lv _ => lenV lv)
        case atStart => exact ⟨nf, no, P2, rfl, Nat.le_refl _, by omega, .inl ⟨rfl, rfl⟩, HNN.out.2.1.symm, BXe.out, B4e.out, HOe.out, HFe.out, HAPe.out, HSe.out, HBe.out⟩
        case round =>
          obtain ⟨nl, n2, O2, rfl, hnl, hn2, HCASE, HO2L, BXi, B4i, HOi, HFi, HAPi, HSi, hbi⟩ := hrel
          have ki0 := Box.cell BXi.out 0 rfl
          by_cases hgt : (nl : Int) ≤ m
          · have HEX := Lib.hid (show L.take nl = useL m P1 ⟨xa, xt, xd⟩ ∧ O2 = P2 ++ outD (goneL m P1 ⟨xa, xt, xd⟩) from by
              unfold useL goneL cutL gone
              rw [← HLF.out]
              rcases HCASE.out with ⟨h1, h2⟩ | ⟨h1, h2, h3⟩
              · rw [HNF.out, if_pos (by omega), if_pos (by omega), h2, h1]
                exact ⟨List.take_of_length_le (by rw [HNF.out]; exact Nat.le_refl _), by simp [outD]⟩
              · rw [HNF.out, if_neg (by omega), if_neg (by omega), h3, List.dropLast_eq_take, HNF.out]
                exact ⟨by congr 1; omega, rfl⟩)
            have HVL := Lib.hid (show IV wr (.slice Af nl cf) (L.take nl) from (IV.own HFi.out HNF.out.symm).take hnl HNF.out)
            have HTL := Lib.hid (show (L.take nl).length = nl from by rw [List.length_take, HNF.out]; omega)
            have ff0 := Box.free BXi.out 0
            have ff1 := Box.free BXi.out 1
            have ki1 := Box.cell BXi.out 1 rfl
            have HBI := Lib.hid hbi
            have hgd : decide (m < (nl : Int)) = false := by simp; omega
            clear hbi
            go_upto_region 7 with fail
            obtain ⟨wz, hwz⟩ : ∃ wz, wz = (wr.setCell ⟨g, 0, none⟩ (.int .i64 m)).setCell ⟨g, 1, none⟩ (.slice Af nl cf) := ⟨_, rfl⟩
            rw [← hwz]
            have hex : Ex g wr wz := by rw [hwz]; exact (Ex.set (g := g) (i := 0) wr _).trans (Ex.set (i := 1) _ _)
            have BXz := Lib.hid (show Box wz g 32 #[.int .i64 m, .slice Af nl cf] from by rw [hwz]; exact (BXi.out.set 0 _).set 1 _)
            have B4z := Lib.hid (hex.box B4i.out HGW.out.2.2.1.symm)
            have HVz := Lib.hid (show IV wz (.slice Af nl cf) (L.take nl) from by rw [hwz]; exact iv_off HVL.out BXi.out)
            have HOz := Lib.hid (own_ex hex HOi.out (own_off HOi.out BXi.out))
            have HSz := Lib.hid (Nat.le_trans HSi.out hex.size)
            have HBz := Lib.hid (Ex.below HBI.out hex HGW.out.1 HBI.out.size)
            clear hwz hex ki0 ki1 ff0 ff1
            go_wp2
            go_roundw
            case rel =>
              refine ⟨k + 1, n2, nl, cf, Af, by go_num, by omega, ?_, BXz.out, ?_, ?_, B4z.out, HSz.out, HBz.out⟩
              · show _ ∧ _ ∧ _
                rw [HS1.out.1, HS1.out.2, ← HEX.out.1, ← HEX.out.2, HTL.out, HO2L.out]
                have := HNN.out
                exact ⟨rfl, rfl, by omega⟩
              · show IV _ _ _
                rw [HS1.out.1, ← HEX.out.1]; exact HVz.out
              · show World.ownsRow _ _ _ _ _ _ _
                rw [HS1.out.2, ← HEX.out.2]; exact HOz.out
            case measure => simp [intOf]; omega
          · have hcase : nl = nf ∧ O2 = P2 := by
              rcases HCASE.out with h | ⟨h1, _, _⟩
              · exact h
              · have := HMQ.out; have := HQF.out; omega
            obtain ⟨e1, e2⟩ := hcase
            have HO2P := Lib.hid e2
            have hnlq : nl = q + 1 := by rw [e1]; exact HQF.out
            have HNM := Lib.hid (show m < (nf : Int) from by rw [← e1]; omega)
            have HEN := Lib.hid e1
            clear e1 e2
            subst hnlq
            rcases own_open HFi.out with ⟨e, h0, _⟩ | ⟨r4, c5, C, e, hC⟩
            · have := HQF.out; omega
            injection e with e1 e2 e3
            subst e1 e3
            have hql : q < L.length := by rw [HNF.out, HQF.out]; omega
            obtain ⟨y, hy⟩ : ∃ y, y = L[q]'hql := ⟨_, rfl⟩
            have hcell : ∀ j u, y.cells[j]? = some u → wr.cell? ⟨r4, q * 3 + j, none⟩ = some u := fun j u hu => by
              have hj : j < 3 := by rw [← It.cells3 y]; exact (List.getElem?_eq_some_iff.1 hu).1
              refine hC.cell ?_
              rw [flat_get It.cells3 L q hql j hj, ← hy]
              exact hu
            have x0 := hcell 0 _ rfl
            have x1 := hcell 1 _ rfl
            have x2 := hcell 2 _ rfl
            have HYL := Lib.hid (show L.getLast? = some y from by rw [List.getLast?_eq_getElem?, HNF.out, HQF.out, show q + 1 - 1 = q from rfl, List.getElem?_eq_getElem hql, ← hy])
            clear hcell hC hy hql
            obtain ⟨ya, yt, yd⟩ := y
            simp only [Nat.add_zero] at x0 x1 x2
            have hgd : decide (m < ((q + 1 : Nat) : Int)) = true := by simp; omega
            have hgd2 : m < (q : Int) + 1 := by omega
            have hwq : IntKind.i64.wrap ((q : Int) + 1 - 1) = (q : Int) := by rw [IntKind.wrap_i64]; omega
            have hqc : (q : Int) < (q : Int) + 1 := by omega
            have hqle : q ≤ cf := by
              have h := (row_cap HFi.out).1
              have := HQF.out
              omega
            have HBI := Lib.hid hbi
            clear hbi
            cases yd with
            | false =>
              go_wp2
              go_roundw
              case rel => exact ⟨q, n2, O2, by first | rfl | simp, by omega, hn2, .inr ⟨HQF.out.symm, HNM.out, by rw [HYL.out, HO2P.out]; simp [outD]⟩, HO2L.out, BXi.out, B4i.out, HOi.out, HFi.out, HAPi.out, HSi.out, HBI.out⟩
              case measure => simp [lenV]
            | true =>
              go_wp2_with (at_builtin; refine push_it ritem_info Try.underlying30 _ rfl _ _ rfl w6.heap.size _ n2 _ rfl (own_on HOi.out ((Below.refl _ _).alloc (Nat.le_refl _) _)) wr.heap.size ⟨ya, yt, true⟩ rfl (Box.fresh _ _ _) (by omega) (by have := HSi.out; simp; omega) ?_)
              intro ov' w12 hown hgr hat
              have hb1 : Below wr.heap.size wr (wr.alloc (.cells #[.int .i64 ya, .string yt, .bool true] 33)) := (Below.refl _ _).alloc (Nat.le_refl _) _
              have hoff := own_off HOi.out BXi.out
              have hfar : Value.ownBlock _ ≠ some ga := own_far HOi.out (by have := HGW.out; have := HGS.out; omega)
              have HB12 := Lib.hid ((HBI.out.trans (hb1.mono HBI.out.size)).grown hgr (by have := HBI.out.size; simp; omega) (fun q hq => by have := (own_lt HOi.out hq).1; have := HGW.out; have := HGS.out; omega))
              have BX12 := Lib.hid ((BXi.out.on hb1).grown hgr (fun e => hoff e.symm))
              have B412 := Lib.hid ((B4i.out.on hb1).grown hgr (fun e => hfar e.symm))
              have HF12 := Lib.hid (own_grown (own_on HFi.out hb1) hgr HAPi.out.symm)
              have HAP12 := Lib.hid ((Apart2.grow HAPi.out.symm (own_on HFi.out hb1) (hat.imp id fun h => ⟨wr.heap.size + 1, by simp, h⟩)).symm)
              have HS12 := Lib.hid (show w6.heap.size ≤ w12.heap.size from Nat.le_trans HSi.out (Nat.le_trans hb1.size hgr.size))
              have HOO12 := Lib.hid hown
              clear hown hgr hat hb1 hoff hfar x0 x1 x2 ki0
              go_wp2
              go_roundw
              case rel =>
                refine ⟨q, n2 + 1, O2 ++ [⟨ya, yt, true⟩], by first | rfl | simp, by omega, ?_, .inr ⟨HQF.out.symm, HNM.out, by rw [HYL.out, HO2P.out]; simp [outD]⟩, ?_, BX12.out, B412.out, ?_, HF12.out, HAP12.out, HS12.out, HB12.out⟩
                · have h1 := HO2L.out; have h2 := HO2P.out; have h3 := HNN.out; rw [h2] at h1; omega
                · show List.length _ = _
                  rw [List.length_append, HO2L.out]; rfl
                · show World.ownsRow _ _ _ _ _ _ _
                  rw [List.flatMap_append]
                  simpa using HOO12.out
              case measure => simp [lenV]
      · have HKX := Lib.hid (show xs.take k = xs from List.take_of_length_le (by rw [HLX.out]; omega))
        have k0 := Box.cell BXr.out 0 rfl
        have k1 := Box.cell BXr.out 1 rfl
        obtain ⟨W, hW, hcs, hbW, hoW⟩ := ans_cache B4r.out hbr HGW.out.2.1 (.int .i64 m) (.slice Ap np cp)
        have HVz := Lib.hid (show IV W _ _ from by rw [hW]; exact iv_off HVr.out B4r.out)
        have HW := Lib.hid hW
        have HCS := Lib.hid hcs
        have HBZ := Lib.hid hbW
        have HOOW := Lib.hid (hoW _ _ _ _ _ _ HOO.out (own_far HOO.out (by have := HGW.out; have := HGS.out; omega)))
        have m0 := Box.cell B4r.out 0 rfl
        have m1 := Box.cell B4r.out 1 rfl
        have f0 := Box.free B4r.out 0
        have f1 := Box.free B4r.out 1
        have hne := HGW.out.2.2.1
        clear hW hcs hbW hoW
        go_wp2
        rw [← HW.out]
        obtain ⟨p0, p1⟩ := HCS.out
        have hx2 := HKX.out
        rw [HP.out]
        have h1 := HVz.out
        have h2 := HOOW.out
        have h3 := HNN.out
        rw [hx2] at h1 h2 h3
        exact bodyPost_ret (v := .tuple #[.agg #[.int .i64 m, .slice Ap np cp], u8, .bool true]) (by simp [results, Try.results14, go_sem, p0, p1]) rfl ⟨_, _, rfl, h1, IV.own h2 h3.2.1, HBZ.out⟩

end Go.Proofs.Ythoffknkpogfhaa
