/- The walk of the law NoteChain. -/
import Derived.Test.YtifemajgdbihnaaLAdds
import Derived.Test.YtifemajgdbihnaaInv
namespace Go.Proofs.Ytifemajgdbihnaa
open Go.RowKit

def ChainV (d1 lastK : ByteArray) (d2 : Bool) (g7 N n : Nat) (SL PA PB : Value) (t : Nat) (v : Value) (w : World) : Prop :=
  match t with
  | 62 => v = .string d1
  | 63 => v = .string d1
  | 64 => v = .bool true
  | 65 => v = .bool true
  | 66 => v = .bool d2
  | 67 => v = .bool d2
  | 68 => v = .bool true
  | 69 => v = .bool true
  | 70 => v = .bool true
  | 71 => v = .pointer (some ⟨g7, 1, none⟩)
  | 72 => v = .string lastK
  | 73 => v = SL
  | 74 => v = SL
  | 75 => v = .int .i64 N
  | 76 => v = .int .i64 n
  | 77 => v = PA
  | 78 => v = PB
  | 79 => v = .string lastK
  | 80 => v = .bool true
  | 81 => v = .bool true
  | 82 => v = .bool true
  | 83 => v = .bool true
  | 84 => v = .bool true
  | 6 => v = .bool true
  | _ => True
theorem ChainV.on {d1 lastK : ByteArray} {d2 : Bool} {g7 N n : Nat} {SL PA PB : Value} {t : Nat} {v : Value} {w w' : World} (h : ChainV d1 lastK d2 g7 N n SL PA PB t v w) (_ : Below w.heap.size w w') : ChainV d1 lastK d2 g7 N n SL PA PB t v w' := by
  unfold ChainV at *
  split at h <;> exact h

theorem Lies.tail {α : Type} {cs : α → List Value} {k : Nat} {w : World} {B : Nat} {ad : Addr} {x : α} {l : List α} (h : Lies cs k w B (some ad) (x :: l)) : Lies cs k w B (some (ad.add k)) l := fun hl => by
  obtain ⟨ad2, e, hB, hc⟩ := h (by simp)
  injection e with e
  subst e
  refine ⟨_, rfl, by rw [block_of_add]; exact hB, fun i hi j v hv => ?_⟩
  have := hc (i + 1) (by simp; omega) j v (by simpa using hv)
  rw [Go.Addr.add_add] at this
  rw [Go.Addr.add_add, Go.Addr.add_add, show k + (i * k + j) = (i + 1) * k + j by rw [Nat.add_mul]; omega]
  exact this

set_option maxHeartbeats 8000000 in
set_option maxRecDepth 100000 in
theorem chain_walk (s0 : ByteArray) (has : Bool) (A : Option Addr) (c : Nat) (l : List Nt) (w : World) (hA : Nts w w.heap.size A l) (hn : l.length ≤ maxLen) (hcap : l.length ≤ c) :
    Calls Try.prog 6 #[.string s0, .bool has, .slice A l.length c] w fun e w' => e = .returned (.bool true) ∧ Below w.heap.size w w' := by
  have awk : ∀ w, Calls Try.prog 9 #[] w fun e w' => e = .returned (.bool true) ∧ Below w.heap.size w w' := awake_true
  have hsh := short_any A c l w hA hn
  by_cases g1 : s0.size ≤ 300
  case neg =>
    have hd1 : decide (300 < (s0.size : Int)) = true := by simp; omega
    go_enter Try.func6, Try.ntmps6
    go_wp2_with fail
    refine (awk _).mono ?_
    rintro e w1 ⟨rfl, hb1⟩
    go_wp2
    go_ret
    exact ⟨rfl, hb1⟩
  have hd1 : decide (300 < (s0.size : Int)) = false := by simp; omega
  by_cases g2 : l.length ≤ 60
  case neg =>
    have hd2 : decide (60 < (l.length : Int)) = true := by simp; omega
    have hd2' : decide (60 < l.length) = true := by simp; omega
    generalize l.length = n at *
    go_enter Try.func6, Try.ntmps6
    go_wp2_with fail
    refine (awk _).mono ?_
    rintro e w1 ⟨rfl, hb1⟩
    go_wp2
    go_ret
    exact ⟨rfl, hb1⟩
  rcases l with _ | ⟨a, ls⟩
  · go_enter Try.func6, Try.ntmps6
    go_wp2_with fail
    refine (awk _).mono ?_
    rintro e w1 ⟨rfl, hb1⟩
    go_wp2
    go_ret
    exact ⟨rfl, hb1⟩
  rw [List.length_cons] at *
  have hdone := fun w' (h : Below w.heap.size w w') => done_any s0 has A c (a :: ls) w' (Lies.on hA h) hn
  have hch := chain_done s0 has a ls
  have hkey := chain_key a ls
  have hstep := fun k x (h : ls[k]? = some x) => (show (ls.take (k + 1)).foldl bothN a = bothN ((ls.take k).foldl bothN a) x by obtain ⟨hk, rfl⟩ := List.getElem?_eq_some_iff.1 h; exact chain_take a ls k hk)
  rw [hch] at hdone
  rw [List.length_cons] at hdone
  unfold maxLen at hn
  obtain ⟨ad, rfl, hab, hca⟩ := hA.seeN (by simp)
  obtain ⟨c1, c2, c3, c4⟩ := hca 0 (by simp)
  have htail := Lies.tail hA
  have hlast := hca ls.length (by simp)
  simp only [List.getElem_cons_zero, Nat.zero_mul, Addr.add_zero'] at c1 c2 c3 c4
  have hlk : ((a :: ls)[ls.length]'(by simp)).key = ((a :: ls).getLast (by simp)).key := by rw [List.getLast_eq_getElem]; simp
  rw [hlk, ← hkey] at hlast
  have hl2 := hlast.2.1
  obtain ⟨lastK, hlastK⟩ : ∃ x, x = (ls.foldl bothN a).key := ⟨_, rfl⟩
  rw [← hlastK] at hl2
  clear hlast hlk
  generalize hq : ls.length = n at *
  have HL := Lib.hid hq
  have HT := Lib.hid htail
  have HD := Lib.hid hdone
  have HS := Lib.hid hstep
  have HLK := Lib.hid hlastK
  have HL2 := Lib.hid hl2
  clear hq hA hca htail hdone hch hkey hstep hlastK
  have hd2 : decide (60 < ((n + 1 : Nat) : Int)) = false := by simp; omega
  have hd2' : decide (60 < n + 1) = false := by simp; omega
  have hne : (((n + 1 : Nat) : Int) == 0) = false := by simp; omega
  generalize hN : n + 1 = N at *
  have HNN := Lib.hid hN
  have hnN : n < N := by omega
  clear hN
  generalize List.all (a :: ls) shortN = sh at *
  obtain ⟨ak, ae, av, an⟩ := a
  simp only at c1 c2 c3 c4
  go_enter Try.func6, Try.ntmps6
  go_wp2_with fail
  refine hsh.mono ?_
  clear hsh
  rintro e w1 ⟨rfl, hb1⟩
  have HC := Lib.hid (fun (wx : World) (h : Below w.heap.size w wx) => (⟨(h.cell hab).trans c1, (h.cell (p := ⟨ad.block, ad.off + 1, none⟩) hab).trans c2, (h.cell (p := ⟨ad.block, ad.off + 2, none⟩) hab).trans c3, (h.cell (p := ⟨ad.block, ad.off + 3, none⟩) hab).trans c4⟩ : wx.cell? ad = some (.int .i64 ak) ∧ wx.cell? ⟨ad.block, ad.off + 1, none⟩ = some (.string ae) ∧ wx.cell? ⟨ad.block, ad.off + 2, none⟩ = some (.string av) ∧ wx.cell? ⟨ad.block, ad.off + 3, none⟩ = some (.int .u64 (an.toNat : Int))))
  clear c1 c2 c3 c4
  cases sh with
  | false =>
    go_wp2_with fail
    refine (awk _).mono ?_
    rintro e w2 ⟨rfl, hb2⟩
    go_wp2
    go_ret
    exact ⟨rfl, hb1.trans (hb2.mono hb1.size)⟩
  | true =>
  obtain ⟨c1, c2, c3, c4⟩ := HC.out w1 hb1
  go_upto_region 4 with fail
  obtain ⟨g7, hg7⟩ : ∃ g7, g7 = w1.heap.size := ⟨_, rfl⟩
  have n7 : NBlk (w1.alloc (.cells #[.int .i64 ak, .string ae, .string av, .int .u64 (an.toNat : Int)] 24)) g7 ⟨ak, ae, av, an⟩ := NBlk.fresh w1 ⟨ak, ae, av, an⟩ hg7
  have hb2 : Below w.heap.size w (w1.alloc (.cells #[.int .i64 ak, .string ae, .string av, .int .u64 (an.toNat : Int)] 24)) := hb1.alloc hb1.size _
  have hgw : w.heap.size ≤ g7 := by rw [hg7]; exact hb1.size
  rw [← hg7]
  generalize w1.alloc (.cells #[.int .i64 ak, .string ae, .string av, .int .u64 (an.toNat : Int)] 24) = w2 at *
  have N7 := Lib.hid n7
  have HB2 := Lib.hid hb2
  clear hb1 hb2 n7 c1 c2 c3 c4 hl2 HC hg7
  go_cut [37, 38, 39] (fun sl len i wx => ∃ A2 c2, sl = .slice A2 n c2 ∧ len = .int .i64 n ∧ i = .int .i64 0 ∧ (0 < n → A2 = some (ad.add 4)) ∧ wx = w2)
  case first =>
    have hNn := HNN.out
    by_cases hn0 : n = 0
    · obtain rfl : N = 1 := by omega
      subst hn0
      clear HNN hNn
      by_cases hc1 : c = 1
      · subst hc1
        go_wp2
        go_meet
        case rel => exact ⟨_, _, rfl, by first | rfl | go_num, rfl, fun h => by omega, rfl⟩
      · have hc1' : ¬ c - 1 = 0 := by omega
        go_wp2
        go_meet
        case rel => exact ⟨_, _, rfl, by first | rfl | go_num, rfl, fun h => by omega, rfl⟩
    · have hc1 : ¬ c = 1 := by omega
      have hc1' : ¬ c - 1 = 0 := by omega
      obtain rfl : N = n + 1 := by omega
      clear HNN hNn
      go_wp2
      go_meet
      case rel => exact ⟨_, _, rfl, by first | rfl | go_num, rfl, fun _ => by simp [Addr.add], rfl⟩
  case rest =>
    obtain ⟨A2, c2, rfl, rfl, rfl, hA2, rfl⟩ := hcut
    have HA2 := Lib.hid hA2
    clear hA2
    generalize ad.add 4 = ad4 at HA2 HT
    go_wp2
    go_loopw [39] (fun i wr => ∃ k : Nat, i = .int .i64 k ∧ k ≤ n ∧ NBlk wr g7 ((ls.take k).foldl bothN ⟨ak, ae, av, an⟩) ∧ Below w.heap.size w wr) (fun i _ => (n - intOf i).toNat)
    case atStart => exact ⟨0, rfl, by omega, N7.out, HB2.out⟩
    case round =>
      obtain ⟨k, rfl, hk, hnk, hbr⟩ := hrel
      obtain ⟨q, hq⟩ : ∃ q, q = (ls.take k).foldl bothN ⟨ak, ae, av, an⟩ := ⟨_, rfl⟩
      rw [← hq] at hnk
      have HQ := Lib.hid hq
      clear hq
      obtain ⟨qk, qe, qv, qn⟩ := q
      obtain ⟨m1, m2, m3, m4⟩ := NBlk.cells hnk
      have hlg := NBlk.lt hnk
      by_cases hlt : k < n
      · obtain rfl := HA2.out (by omega)
        obtain ⟨ad2, e2, hab2, hca⟩ := (HT.out.below hbr).seeN (by rw [HL.out]; omega)
        injection e2 with e2
        rw [← e2] at hab2 hca
        clear e2
        obtain ⟨c1, c2, c3, c4⟩ := hca k (by rw [HL.out]; omega)
        obtain ⟨x, hx⟩ : ∃ x, x = ls[k]'(by rw [HL.out]; omega) := ⟨_, rfl⟩
        have hxk : ls[k]? = some x := by rw [hx]; exact List.getElem?_eq_getElem _
        rw [← hx] at c1 c2 c3 c4
        have HST := Lib.hid (HS.out k x hxk)
        clear hx hca hxk
        obtain ⟨xk, xe, xv, xn⟩ := x
        have hboth := fun w => both_any qk qe qv qn xk xe xv xn w
        obtain ⟨r, hr⟩ : ∃ r, r = bothN ⟨qk, qe, qv, qn⟩ ⟨xk, xe, xv, xn⟩ := ⟨_, rfl⟩
        rw [← hr] at hboth
        have HR := Lib.hid hr
        clear hr
        obtain ⟨rk, re, rv, rn⟩ := r
        unfold Nt.v at hboth
        simp only at hboth c1 c2 c3 c4 m1 m2 m3 m4
        have hlt3 : (ad4.add (k * 4)).block < w.heap.size := by rw [block_of_add]; exact hab2
        have hgz : g7 < wr.heap.size := hlg
        have NK := Lib.hid hnk
        have hz := hbr.size
        clear hnk
        go_wp2_with fail
        refine (hboth _).mono ?_
        clear hboth
        rintro e w3 ⟨rfl, hb3⟩
        have n3 : NBlk w3 g7 ⟨qk, qe, qv, qn⟩ := NBlk.on (NBlk.push NK.out _) hb3
        have hb03 : Below w.heap.size w w3 := (hbr.alloc hbr.size _).trans (hb3.mono (by simp; omega))
        have f0 := Box.free n3 0
        have f1 := Box.free n3 1
        have f2 := Box.free n3 2
        have f3 := Box.free n3 3
        have hl3 := NBlk.lt n3
        have N3 := Lib.hid n3
        have HB3 := Lib.hid hb03
        clear n3 hb3 hb03 m1 m2 m3 m4 NK hgz hlg c1 c2 c3 c4
        obtain ⟨m1, m2, m3, m4⟩ := NBlk.cells N3.out
        go_wp2
        go_roundw
        case rel =>
          refine ⟨k + 1, by go_num, by omega, ?_, below_put HB3.out hgw _ _ _ _⟩
          rw [HST.out, ← HQ.out, ← HR.out]
          exact NBlk.put N3.out ⟨rk, re, rv, rn⟩
        case measure => simp [intOf]; omega
      · obtain rfl : k = n := by omega
        have hq := HQ.out
        rw [← HL.out, List.take_length] at hq
        have hd := HD.out wr hbr
        rw [← hq] at hd
        have hlk := HLK.out
        rw [← hq] at hlk
        simp only at hlk
        subst hlk
        have hdq := fun w g hg => done_lit1 s0 has ⟨qk, lastK, qv, qn⟩ w g hg
        generalize doneL s0 has [⟨qk, lastK, qv, qn⟩] = D at *
        obtain ⟨d1, d2⟩ := D
        simp only at hd hdq
        have NK := Lib.hid hnk
        clear hq HQ HD HLK hnk HS HT HA2 m1 m2 m3 m4
        go_wp2_with fail
        refine hd.mono ?_
        clear hd
        rintro e w5 ⟨rfl, hb5⟩
        have N5 := Lib.hid (NBlk.on NK.out hb5)
        have hbr5 := hbr.trans (hb5.mono hbr.size)
        have hgz := NBlk.lt N5.out
        obtain ⟨m1, m2, m3, m4⟩ := NBlk.cells N5.out
        simp only at m1 m2 m3 m4
        clear hbr hb5 NK hlg
        go_wp2_with fail
        refine (hdq _ _ rfl).mono ?_
        clear hdq
        rintro e w7 ⟨rfl, hb7⟩
        have N7' := Lib.hid (NBlk.on N5.out hb7)
        have hbr7 := hbr5.trans (hb7.mono hbr5.size)
        clear hbr5 hb7 N5 m1 m2 m3 m4 hgz
        go_upto_region 11 with fail
        have HC7 := Lib.hid (fun (wx : World) (h : Below w7.heap.size w7 wx) => NBlk.cells (NBlk.on N7'.out h))
        simp only at HC7
        have HCL := Lib.hid (fun (wx : World) (h : Below w7.heap.size w7 wx) => (⟨((hbr7.trans (h.mono hbr7.size)).cell (lt_of_cell HL2.out)).trans HL2.out, trivial⟩ : wx.cell? ⟨(ad.add (k * 4)).block, (ad.add (k * 4)).off + 1, none⟩ = some (.string lastK) ∧ True))
        have HSD := Lib.hid (str_eq (rfl : d1 = d1))
        have HSL := Lib.hid (str_eq (rfl : lastK = lastK))
        have HBD := Lib.hid (show (d2 == d2) = true by simp)
        have HNM := Lib.hid (show IntKind.i64.wrap ((N : Int) - 1) = (k : Int) by have := HNN.out; rw [IntWalk.i64_in _ (by omega)]; omega)
        have hkN : k < N := hnN
        refine wp_region_inv [62, 63, 64, 65, 66, 67, 68, 69, 70, 71, 72, 73, 74, 75, 76, 77, 78, 79, 80, 81, 82, 83, 84, 6] (by kernel_rfl) (by kernel_rfl) (fun w' => Below w7.heap.size w7 w') (fun wa wb => Below wa.heap.size wa wb) (ChainV d1 lastK d2 g7 N k (.slice (some ad) N c) (.pointer (some (ad.add (k * 4)))) (.pointer (some ⟨(ad.add (k * 4)).block, (ad.add (k * 4)).off + 1, none⟩))) (by kernel_rfl) (fun wa wb h1 h2 => h2.trans (h1.mono h2.size)) (fun t v wa wb h1 h2 => h2.on h1) (Below.refl _ _).drew (steps_of ?_) ?_
        · skip
          refine Steps1.cons (fun ax wx hS hG => ?_) (Steps1.cons (fun ax wx hS hG => ?_) (Steps1.cons (fun ax wx hS hG => ?_) (Steps1.cons (fun ax wx hS hG => ?_) (Steps1.cons (fun ax wx hS hG => ?_) (Steps1.cons (fun ax wx hS hG => ?_) (Steps1.cons (fun ax wx hS hG => ?_) (Steps1.cons (fun ax wx hS hG => ?_) (Steps1.cons (fun ax wx hS hG => ?_) (Steps1.cons (fun ax wx hS hG => ?_) (Steps1.cons (fun ax wx hS hG => ?_) (Steps1.cons (fun ax wx hS hG => ?_) (Steps1.cons (fun ax wx hS hG => ?_) (Steps1.cons (fun ax wx hS hG => ?_) (Steps1.cons (fun ax wx hS hG => ?_) (Steps1.cons (fun ax wx hS hG => ?_) (Steps1.cons (fun ax wx hS hG => ?_) (Steps1.cons (fun ax wx hS hG => ?_) (Steps1.cons (fun ax wx hS hG => ?_) (Steps1.cons (fun ax wx hS hG => ?_) (Steps1.cons (fun ax wx hS hG => ?_) (Steps1.cons (fun ax wx hS hG => ?_) (Steps1.cons (fun ax wx hS hG => ?_) (Steps1.cons (fun ax wx hS hG => ?_) Steps1.nil)))))))))))))))))))))))
          · have q10 := hG.old 10 (by kernel_rfl) (by kernel_rfl)
            refine step_value (v := .string d1) (w' := wx) rfl rfl ?_ (Below.refl _ _) (fun d hd => by cases hd; exact rfl)
            go_simp
          · have q12 := hG.old 12 (by kernel_rfl) (by kernel_rfl)
            refine step_value (v := .string d1) (w' := wx) rfl rfl ?_ (Below.refl _ _) (fun d hd => by cases hd; exact rfl)
            go_simp
          · obtain ⟨_, q62, rfl⟩ := hG.new 62 (by kernel_rfl) (by kernel_rfl)
            obtain ⟨_, q63, rfl⟩ := hG.new 63 (by kernel_rfl) (by kernel_rfl)
            refine step_value (v := .bool true) (w' := wx) rfl rfl ?_ (Below.refl _ _) (fun d hd => by cases hd; exact rfl)
            have hss := HSD.out
            go_simp
          · obtain ⟨_, q64, rfl⟩ := hG.new 64 (by kernel_rfl) (by kernel_rfl)
            refine step_value (v := .bool true) (w' := wx) rfl rfl ?_ (Below.refl _ _) (fun d hd => by cases hd; exact rfl)
            go_simp
          · have q11 := hG.old 11 (by kernel_rfl) (by kernel_rfl)
            obtain ⟨_, q65, rfl⟩ := hG.new 65 (by kernel_rfl) (by kernel_rfl)
            refine step_value (v := .bool d2) (w' := wx) rfl (by simp [Region.wanted, yielded, q65]) ?_ (Below.refl _ _) (fun d hd => by cases hd; exact rfl)
            go_simp
          · have q13 := hG.old 13 (by kernel_rfl) (by kernel_rfl)
            obtain ⟨_, q65, rfl⟩ := hG.new 65 (by kernel_rfl) (by kernel_rfl)
            refine step_value (v := .bool d2) (w' := wx) rfl (by simp [Region.wanted, yielded, q65]) ?_ (Below.refl _ _) (fun d hd => by cases hd; exact rfl)
            go_simp
          · obtain ⟨_, q66, rfl⟩ := hG.new 66 (by kernel_rfl) (by kernel_rfl)
            obtain ⟨_, q67, rfl⟩ := hG.new 67 (by kernel_rfl) (by kernel_rfl)
            obtain ⟨_, q65, rfl⟩ := hG.new 65 (by kernel_rfl) (by kernel_rfl)
            refine step_value (v := .bool true) (w' := wx) rfl (by simp [Region.wanted, yielded, q65]) ?_ (Below.refl _ _) (fun d hd => by cases hd; exact rfl)
            have hss := HBD.out
            go_simp
          · obtain ⟨_, q65, rfl⟩ := hG.new 65 (by kernel_rfl) (by kernel_rfl)
            obtain ⟨_, q68, rfl⟩ := hG.new 68 (by kernel_rfl) (by kernel_rfl)
            refine step_value (v := .bool true) (w' := wx) rfl rfl ?_ (Below.refl _ _) (fun d hd => by cases hd; exact rfl)
            go_simp
          · obtain ⟨_, q69, rfl⟩ := hG.new 69 (by kernel_rfl) (by kernel_rfl)
            refine step_value (v := .bool true) (w' := wx) rfl rfl ?_ (Below.refl _ _) (fun d hd => by cases hd; exact rfl)
            go_simp
          · have q7 := hG.old 7 (by kernel_rfl) (by kernel_rfl)
            obtain ⟨_, q70, rfl⟩ := hG.new 70 (by kernel_rfl) (by kernel_rfl)
            refine step_value (v := .pointer (some ⟨g7, 1, none⟩)) (w' := wx) rfl (by simp [Region.wanted, yielded, q70]) ?_ (Below.refl _ _) (fun d hd => by cases hd; exact rfl)
            go_simp
          · obtain ⟨_, q71, rfl⟩ := hG.new 71 (by kernel_rfl) (by kernel_rfl)
            obtain ⟨_, q70, rfl⟩ := hG.new 70 (by kernel_rfl) (by kernel_rfl)
            obtain ⟨z0, z1, z2, z3⟩ := HC7.out wx hS
            refine step_value (v := .string lastK) (w' := wx) rfl (by simp [Region.wanted, yielded, q70]) ?_ (Below.refl _ _) (fun d hd => by cases hd; exact rfl)
            go_simp
          · have q2 := hG.old 2 (by kernel_rfl) (by kernel_rfl)
            obtain ⟨_, q70, rfl⟩ := hG.new 70 (by kernel_rfl) (by kernel_rfl)
            refine step_value (v := .slice (some ad) N c) (w' := wx) rfl (by simp [Region.wanted, yielded, q70]) ?_ (Below.refl _ _) (fun d hd => by cases hd; exact rfl)
            go_simp
          · have q2 := hG.old 2 (by kernel_rfl) (by kernel_rfl)
            obtain ⟨_, q70, rfl⟩ := hG.new 70 (by kernel_rfl) (by kernel_rfl)
            refine step_value (v := .slice (some ad) N c) (w' := wx) rfl (by simp [Region.wanted, yielded, q70]) ?_ (Below.refl _ _) (fun d hd => by cases hd; exact rfl)
            go_simp
          · obtain ⟨_, q74, rfl⟩ := hG.new 74 (by kernel_rfl) (by kernel_rfl)
            obtain ⟨_, q70, rfl⟩ := hG.new 70 (by kernel_rfl) (by kernel_rfl)
            refine step_value (v := .int .i64 N) (w' := wx) rfl (by simp [Region.wanted, yielded, q70]) ?_ (Below.refl _ _) (fun d hd => by cases hd; exact rfl)
            go_simp
          · obtain ⟨_, q75, rfl⟩ := hG.new 75 (by kernel_rfl) (by kernel_rfl)
            obtain ⟨_, q70, rfl⟩ := hG.new 70 (by kernel_rfl) (by kernel_rfl)
            refine step_value (v := .int .i64 k) (w' := wx) rfl (by simp [Region.wanted, yielded, q70]) ?_ (Below.refl _ _) (fun d hd => by cases hd; exact rfl)
            have hnm := HNM.out
            (go_simp; first | done | exact hnm)
          · obtain ⟨_, q73, rfl⟩ := hG.new 73 (by kernel_rfl) (by kernel_rfl)
            obtain ⟨_, q76, rfl⟩ := hG.new 76 (by kernel_rfl) (by kernel_rfl)
            obtain ⟨_, q70, rfl⟩ := hG.new 70 (by kernel_rfl) (by kernel_rfl)
            refine step_value (v := .pointer (some (ad.add (k * 4)))) (w' := wx) rfl (by simp [Region.wanted, yielded, q70]) ?_ (Below.refl _ _) (fun d hd => by cases hd; exact rfl)
            go_simp
          · obtain ⟨_, q77, rfl⟩ := hG.new 77 (by kernel_rfl) (by kernel_rfl)
            obtain ⟨_, q70, rfl⟩ := hG.new 70 (by kernel_rfl) (by kernel_rfl)
            refine step_value (v := .pointer (some ⟨(ad.add (k * 4)).block, (ad.add (k * 4)).off + 1, none⟩)) (w' := wx) rfl (by simp [Region.wanted, yielded, q70]) ?_ (Below.refl _ _) (fun d hd => by cases hd; exact rfl)
            go_simp
          · obtain ⟨_, q78, rfl⟩ := hG.new 78 (by kernel_rfl) (by kernel_rfl)
            obtain ⟨_, q70, rfl⟩ := hG.new 70 (by kernel_rfl) (by kernel_rfl)
            obtain ⟨z0, z1⟩ := HCL.out wx hS
            refine step_value (v := .string lastK) (w' := wx) rfl (by simp [Region.wanted, yielded, q70]) ?_ (Below.refl _ _) (fun d hd => by cases hd; exact rfl)
            go_simp
          · obtain ⟨_, q72, rfl⟩ := hG.new 72 (by kernel_rfl) (by kernel_rfl)
            obtain ⟨_, q79, rfl⟩ := hG.new 79 (by kernel_rfl) (by kernel_rfl)
            obtain ⟨_, q70, rfl⟩ := hG.new 70 (by kernel_rfl) (by kernel_rfl)
            refine step_value (v := .bool true) (w' := wx) rfl (by simp [Region.wanted, yielded, q70]) ?_ (Below.refl _ _) (fun d hd => by cases hd; exact rfl)
            have hss := HSL.out
            go_simp
          · obtain ⟨_, q70, rfl⟩ := hG.new 70 (by kernel_rfl) (by kernel_rfl)
            obtain ⟨_, q80, rfl⟩ := hG.new 80 (by kernel_rfl) (by kernel_rfl)
            refine step_value (v := .bool true) (w' := wx) rfl rfl ?_ (Below.refl _ _) (fun d hd => by cases hd; exact rfl)
            go_simp
          · obtain ⟨_, q81, rfl⟩ := hG.new 81 (by kernel_rfl) (by kernel_rfl)
            refine step_value (v := .bool true) (w' := wx) rfl rfl ?_ (Below.refl _ _) (fun d hd => by cases hd; exact rfl)
            go_simp
          · obtain ⟨_, q82, rfl⟩ := hG.new 82 (by kernel_rfl) (by kernel_rfl)
            refine step_call (w1 := wx) (f := 9) (args := #[]) rfl (by simp [Region.wanted, yielded, q82]) ?_ ((awake_true wx).mono ?_)
            · skip
              go_simp
            · rintro e w' ⟨rfl, hq⟩
              exact ⟨_, rfl, hq, fun d hd => by cases hd; exact rfl⟩
          · obtain ⟨_, q82, rfl⟩ := hG.new 82 (by kernel_rfl) (by kernel_rfl)
            obtain ⟨_, q83, rfl⟩ := hG.new 83 (by kernel_rfl) (by kernel_rfl)
            refine step_value (v := .bool true) (w' := wx) rfl rfl ?_ (Below.refl _ _) (fun d hd => by cases hd; exact rfl)
            go_simp
          · obtain ⟨_, q84, rfl⟩ := hG.new 84 (by kernel_rfl) (by kernel_rfl)
            refine step_value (v := .bool true) (w' := wx) rfl rfl ?_ (Below.refl _ _) (fun d hd => by cases hd; exact rfl)
            go_simp
        intro fv w8 hS8 hV8
        have e6 : fv 6 = .bool true := hV8 6 (by decide)
        simp only [puts, Act.put, List.setIfInBounds_toArray, List.set_cons_succ, List.set_cons_zero]
        clear hV8
        rw [e6]
        go_wp2
        go_ret
        exact ⟨rfl, hbr7.trans (hS8.mono hbr7.size)⟩

end Go.Proofs.Ytifemajgdbihnaa
