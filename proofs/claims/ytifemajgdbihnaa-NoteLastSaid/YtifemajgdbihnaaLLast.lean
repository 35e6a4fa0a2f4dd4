/- The walk of the law NoteLast. -/
import Derived.Test.YtifemajgdbihnaaNotesV
import Derived.Test.YtifemajgdbihnaaLAdds
namespace Go.Proofs.Ytifemajgdbihnaa
open Go.RowKit

set_option maxHeartbeats 8000000 in
set_option maxRecDepth 100000 in
theorem last_walk (s0 s1 : ByteArray) (has is : Bool) (A4 : Option Addr) (c4 : Nat) (l : List Nt) (A5 : Option Addr) (c5 : Nat) (m : List Nt) (xk : Int) (xe xv : ByteArray) (xn : UInt64) (w : World)
    (hA4 : Nts w w.heap.size A4 l) (hn4 : l.length ≤ maxLen) (hz4 : A4 = none → c4 = 0) (hA5 : Nts w w.heap.size A5 m) (hn5 : m.length ≤ maxLen) (hz5 : A5 = none → c5 = 0) :
    Calls Try.prog 5 #[.string s0, .string s1, .bool has, .bool is, .slice A4 l.length c4, .slice A5 m.length c5, .agg #[.int .i64 xk, .string xe, .string xv, .int .u64 (xn.toNat : Int)]] w fun e w' => e = .returned (.bool true) ∧ Below w.heap.size w w' := by
  have hl4 := fun w' (h : Below w.heap.size w w') => short_any A4 c4 l w' (Lies.on hA4 h) hn4
  have hl5 := fun w' (h : Below w.heap.size w w') => short_any A5 c5 m w' (Lies.on hA5 h) hn5
  have hlx := fun w g hg => short_lit1 (⟨xk, xe, xv, xn⟩ : Nt) w g hg
  have hlast := last_done s0 s1 has is l m (⟨xk, xe, xv, xn⟩ : Nt)
  have hdl := fun w u (h : NV w u (l ++ [(⟨xk, xe, xv, xn⟩ : Nt)] ++ m)) (hn : (l ++ [(⟨xk, xe, xv, xn⟩ : Nt)] ++ m).length ≤ maxLen) => done_nv s0 has h hn
  have hdm := fun w u (h : NV w u ((⟨xk, xe, xv, xn⟩ : Nt) :: m)) (hn : ((⟨xk, xe, xv, xn⟩ : Nt) :: m).length ≤ maxLen) => done_nv s1 is h hn
  unfold maxLen at hn4 hn5
  generalize l.all shortN = q4 at *
  generalize m.all shortN = q5 at *
  generalize shortN (⟨xk, xe, xv, xn⟩ : Nt) = qx at *
  rw [show l ++ [(⟨xk, xe, xv, xn⟩ : Nt)] ++ m = l ++ (⟨xk, xe, xv, xn⟩ : Nt) :: m by simp] at hdl
  have hdl2 := fun (hx : xk = 1 ∨ xk = 2) w u (h : NV w u (l ++ (⟨xk, xe, xv, xn⟩ : Nt) :: m)) (hn : (l ++ (⟨xk, xe, xv, xn⟩ : Nt) :: m).length ≤ maxLen) => hlast hx ▸ hdl w u h hn
  have HN4 := Lib.hid (show (l ++ (⟨xk, xe, xv, xn⟩ : Nt) :: m).length = l.length + 1 + m.length by simp; omega)
  have HN5 := Lib.hid (show ((⟨xk, xe, xv, xn⟩ : Nt) :: m).length = m.length + 1 by simp)
  clear hdl hlast
  generalize doneL s1 is ((⟨xk, xe, xv, xn⟩ : Nt) :: m) = D at *
  obtain ⟨d1, d2⟩ := D
  simp only at hdl2 hdm
  generalize hql4 : l.length = n4 at *
  generalize hql5 : m.length = n5 at *
  have HL4 := Lib.hid hql4
  have HL5 := Lib.hid hql5
  have HA4 := Lib.hid hA4
  have HA5 := Lib.hid hA5
  have HZ4 := Lib.hid hz4
  have HZ5 := Lib.hid hz5
  have HDL := Lib.hid hdl2
  have HDM := Lib.hid hdm
  obtain ⟨w1, hw1⟩ : ∃ w1, w1 = w.alloc (.cells #[.int .i64 xk, .string xe, .string xv, .int .u64 (xn.toNat : Int)] 24) := ⟨_, rfl⟩
  have hb1 : Below w.heap.size w w1 := by rw [hw1]; exact (Below.refl _ _).alloc (Nat.le_refl _) _
  have nx : NBlk w1 w.heap.size (⟨xk, xe, xv, xn⟩ : Nt) := by rw [hw1]; exact NBlk.fresh _ (⟨xk, xe, xv, xn⟩ : Nt) rfl
  have W1 := Lib.hid hw1
  have NX := Lib.hid nx
  clear hql4 hql5 hA4 hA5 hz4 hz5 hdl2 hdm hw1 nx
  by_cases k1 : s0.size ≤ 300
  case neg =>
    have hd1 : decide (300 < (s0.size : Int)) = true := by simp; omega
    go_enter Try.func5, Try.ntmps5
    go_wp2_with fail
    rw [← W1.out]
    go_wp2_with fail
    refine (awake_true _).mono ?_
    rintro e w9 ⟨rfl, hb9⟩
    go_wp2
    go_ret
    exact ⟨rfl, hb1.trans (hb9.mono hb1.size)⟩
  have hd1 : decide (300 < (s0.size : Int)) = false := by simp; omega
  by_cases k2 : s1.size ≤ 300
  case neg =>
    have hd2 : decide (300 < (s1.size : Int)) = true := by simp; omega
    go_enter Try.func5, Try.ntmps5
    go_wp2_with fail
    rw [← W1.out]
    go_wp2_with fail
    refine (awake_true _).mono ?_
    rintro e w9 ⟨rfl, hb9⟩
    go_wp2
    go_ret
    exact ⟨rfl, hb1.trans (hb9.mono hb1.size)⟩
  have hd2 : decide (300 < (s1.size : Int)) = false := by simp; omega
  by_cases k3 : n4 ≤ 60
  case neg =>
    have hd3 : decide (60 < (n4 : Int)) = true := by simp; omega
    have hd3' : decide (60 < n4) = true := by simp; omega
    go_enter Try.func5, Try.ntmps5
    go_wp2_with fail
    rw [← W1.out]
    go_wp2_with fail
    refine (awake_true _).mono ?_
    rintro e w9 ⟨rfl, hb9⟩
    go_wp2
    go_ret
    exact ⟨rfl, hb1.trans (hb9.mono hb1.size)⟩
  have hd3 : decide (60 < (n4 : Int)) = false := by simp; omega
  have hd3' : decide (60 < n4) = false := by simp; omega
  by_cases k4 : n5 ≤ 60
  case neg =>
    have hd4 : decide (60 < (n5 : Int)) = true := by simp; omega
    have hd4' : decide (60 < n5) = true := by simp; omega
    go_enter Try.func5, Try.ntmps5
    go_wp2_with fail
    rw [← W1.out]
    go_wp2_with fail
    refine (awake_true _).mono ?_
    rintro e w9 ⟨rfl, hb9⟩
    go_wp2
    go_ret
    exact ⟨rfl, hb1.trans (hb9.mono hb1.size)⟩
  have hd4 : decide (60 < (n5 : Int)) = false := by simp; omega
  have hd4' : decide (60 < n5) = false := by simp; omega
  go_enter Try.func5, Try.ntmps5
  go_wp2_with fail
  rw [← W1.out]
  refine (hl4 w1 hb1).mono ?_
  rintro e w2 ⟨rfl, hb2⟩
  have NX2 := Lib.hid (NBlk.on NX.out hb2)
  have hb02 := hb1.trans (hb2.mono hb1.size)
  clear W1 hl4 hb1 hb2 NX
  cases q4 with
  | false =>
    go_wp2_with fail
    refine (awake_true _).mono ?_
    rintro e w9 ⟨rfl, hb9⟩
    go_wp2
    go_ret
    exact ⟨rfl, hb02.trans (hb9.mono hb02.size)⟩
  | true =>
  go_wp2_with fail
  refine (hl5 w2 hb02).mono ?_
  rintro e w3 ⟨rfl, hb3⟩
  have NX3 := Lib.hid (NBlk.on NX2.out hb3)
  have hb03 := hb02.trans (hb3.mono hb02.size)
  clear hl5 hb02 hb3 NX2
  cases q5 with
  | false =>
    go_wp2_with fail
    refine (awake_true _).mono ?_
    rintro e w9 ⟨rfl, hb9⟩
    go_wp2
    go_ret
    exact ⟨rfl, hb03.trans (hb9.mono hb03.size)⟩
  | true =>
  obtain ⟨c0, c1, c2, c3⟩ := NBlk.cells NX3.out
  go_wp2_with fail
  refine (hlx w3 _ rfl).mono ?_
  rintro e w4 ⟨rfl, hb4⟩
  have NX4 := Lib.hid (NBlk.on NX3.out hb4)
  have hb04 := hb03.trans (hb4.mono hb03.size)
  clear hlx hb03 hb4 NX3 c0 c1 c2 c3
  obtain ⟨c0, c1, c2, c3⟩ := NBlk.cells NX4.out
  cases qx with
  | false =>
    go_wp2_with fail
    refine (awake_true _).mono ?_
    rintro e w9 ⟨rfl, hb9⟩
    go_wp2
    go_ret
    exact ⟨rfl, hb04.trans (hb9.mono hb04.size)⟩
  | true =>
  by_cases hk : xk = 1 ∨ xk = 2
  case neg =>
    have h1 : xk ≠ 1 := fun h => hk (.inl h)
    have h2 : xk ≠ 2 := fun h => hk (.inr h)
    have hq1 : (xk != 1) = true := by simpa using h1
    have hq2 : (xk != 2) = true := by simpa using h2
    have hq3 : (xk == 1) = false := by simpa using h1
    have hq4 : (xk == 2) = false := by simpa using h2
    go_wp2_with fail
    refine (awake_true _).mono ?_
    rintro e w9 ⟨rfl, hb9⟩
    go_wp2
    go_ret
    exact ⟨rfl, hb04.trans (hb9.mono hb04.size)⟩
  have main : xk = 1 ∨ xk = 2 → True := fun _ => trivial
  have HD := Lib.hid (fun w u (h : NV w u (l ++ [(⟨xk, xe, xv, xn⟩ : Nt)] ++ m)) => HDL.out hk w u (by simpa using h) (by rw [HN4.out]; unfold maxLen; omega))
  have HE := Lib.hid (fun w u (h : NV w u ((⟨xk, xe, xv, xn⟩ : Nt) :: m)) => HDM.out w u h (by rw [HN5.out]; unfold maxLen; omega))
  clear HDL HDM main
  rcases hk with hk1 | hk1
  · subst hk1
    go_wp2_with fail
    obtain ⟨w0, hw0⟩ : ∃ w0, w0 = w4 := ⟨_, rfl⟩
    subst hw0
    have HLX := Lib.hid (show ∀ wx, Below w0.heap.size w0 wx → Nts wx wx.heap.size A4 l from fun wx h => Lies.on HA4.out (hb04.trans (h.mono hb04.size)))
    have HMX := Lib.hid (show ∀ wx, Below w0.heap.size w0 wx → Nts wx wx.heap.size A5 m from fun wx h => Lies.on HA5.out (hb04.trans (h.mono hb04.size)))
    have HCX := Lib.hid (show ∀ wx, Below w0.heap.size w0 wx → _ from fun wx h => NBlk.cells (NBlk.on NX4.out h))
    simp only at HCX
    refine wp_region_phase 12 [65, 66, 67, 68, 69, 70, 71, 72, 73, 74, 75, 64, 76, 77, 15, 16] (by kernel_rfl) [4, 7, 9] [] (fun _ _ => True) 3 rfl (by kernel_rfl) (fun _ w' => Below w0.heap.size w0 w') (fun wa wb => Below wa.heap.size wa wb) (LastV w0.heap.size s0 d1 has d2 (.slice A4 n4 c4) (.slice A5 n5 c5) l m (⟨1, xe, xv, xn⟩ : Nt)) (by kernel_rfl) (fun _ wa wb h1 h2 => h2.trans (h1.mono h2.size)) (fun _ t v wa wb h1 h2 => h2.on h1) (fun _ _ _ _ _ _ _ => trivial) (Below.refl _ _).drew trivial (phase3 ?_ ?_ ?_ ?_) ?_
    · skip
      refine Steps1.cons (fun _ ax wx hS hJ hG => ?_) (Steps1.cons (fun _ ax wx hS hJ hG => ?_) (Steps1.cons (fun _ ax wx hS hJ hG => ?_) (Steps1.cons (fun _ ax wx hS hJ hG => ?_) (Steps1.cons (fun _ ax wx hS hJ hG => ?_) (Steps1.cons (fun _ ax wx hS hJ hG => ?_) (Steps1.cons (fun _ ax wx hS hJ hG => ?_) (Steps1.cons (fun hin _ _ _ _ _ => out (by kernel_rfl) hin) (Steps1.cons (fun _ ax wx hS hJ hG => ?_) (Steps1.cons (fun hin _ _ _ _ _ => out (by kernel_rfl) hin) (Steps1.cons (fun hin _ _ _ _ _ => out (by kernel_rfl) hin) (Steps1.cons (fun hin _ _ _ _ _ => out (by kernel_rfl) hin) (Steps1.cons (fun hin _ _ _ _ _ => out (by kernel_rfl) hin) (Steps1.cons (fun hin _ _ _ _ _ => out (by kernel_rfl) hin) (Steps1.cons (fun hin _ _ _ _ _ => out (by kernel_rfl) hin) (Steps1.cons (fun hin _ _ _ _ _ => out (by kernel_rfl) hin) Steps1.nil)))))))))))))))
      · have q0 := hG.old 0 (by kernel_rfl) (by kernel_rfl)
        refine step_slot rfl rfl rfl (step_value (v := .string s0) (w' := wx) rfl rfl ?_ (Below.refl _ _) (fun d hd => by cases hd; exact rfl))
        go_simp
      · have q2 := hG.old 2 (by kernel_rfl) (by kernel_rfl)
        refine step_slot rfl rfl rfl (step_value (v := .bool has) (w' := wx) rfl rfl ?_ (Below.refl _ _) (fun d hd => by cases hd; exact rfl))
        go_simp
      · refine step_slot rfl rfl rfl (step_value (v := .slice (some ⟨wx.heap.size, 0, none⟩) 0 0) (w' := wx.alloc (.cells #[] 24)) rfl rfl ?_ ((Below.refl _ _).alloc (Nat.le_refl _) _) (fun d hd => by cases hd; exact fun _ => ⟨_, rfl, hS.size, Box.fresh _ _ _⟩))
        go_simp
      · have q4 := hG.old 4 (by kernel_rfl) (by kernel_rfl)
        refine step_slot rfl rfl rfl (step_value (v := .slice A4 n4 c4) (w' := wx) rfl rfl ?_ (Below.refl _ _) (fun d hd => by cases hd; exact rfl))
        go_simp
      · obtain ⟨v1, q1, h1⟩ := hG.new 67 (by kernel_rfl) (by kernel_rfl)
        obtain ⟨_, q2, rfl⟩ := hG.new 68 (by kernel_rfl) (by kernel_rfl)
        have hno : NoneN w0.heap.size wx v1 := (show 0 = 0 → _ from h1) rfl
        obtain ⟨v2, w2, hr, hown2, hg⟩ := run_append_nts wx 33 w0.heap.size v1 0 [] hno.own wx.heap.size A4 n4 c4 l HL4.out (HLX.out wx hS) HZ4.out (by omega) hS.size
        have hS2 : Below w0.heap.size w0 w2 := hS.grown hg hS.size (fun k hk => (hno.own.lt k hk).1)
        refine step_marked (v := v2) (w' := w2) rfl rfl rfl rfl ?_ hS2 trivial ?_ ?_
        · have e1 : ax.eval (.tmp 67) = v1 := by simp [Act.eval, q1]
          have e2 : ax.eval (.tmp 68) = .slice A4 n4 c4 := by simp [Act.eval, q2]
          unfold execOp
          simp only [resolve, invoke, builtin, Sem.run_bind, Sem.run_pure, Result.andThen_ok, List.map_toArray, List.map_cons, List.map_nil, e1, e2, hr]
        · exact fun _ => (by rw [HL4.out]; simpa using hown2)
        · intro t u _ ht hu hV
          unfold LastV at hV ⊢
          split at hV
          · exact hV
          · exact hV
          · exact fun h => absurd h (by decide)
          · exact hV
          · exact absurd rfl ht
          · exact hV
          · exact fun _ => (hV (by decide)).grown hno hg
          · exact fun h => absurd h (by decide)
          · exact hV
          · exact fun h => absurd h (by decide)
          · exact hV
          · exact hV
          · exact hV
          · exact hV
          · exact hV
          · exact hV
          · trivial
      · have q13 := hG.old 13 (by kernel_rfl) (by kernel_rfl)
        obtain ⟨z0, z1, z2, z3⟩ := HCX.out wx hS
        refine step_slot rfl rfl rfl (step_value (v := .agg #[.int .i64 1, .string xe, .string xv, .int .u64 (xn.toNat : Int)]) (w' := wx) rfl rfl ?_ (Below.refl _ _) (fun d hd => by cases hd; exact rfl))
        go_simp
      · obtain ⟨_, q70, rfl⟩ := hG.new 70 (by kernel_rfl) (by kernel_rfl)
        refine step_slot rfl rfl rfl (step_value (v := .slice (some ⟨wx.heap.size, 0, none⟩) 1 1) (w' := wx.alloc (.cells #[.int .i64 1, .string xe, .string xv, .int .u64 (xn.toNat : Int)] 24)) rfl rfl ?_ ((Below.refl _ _).alloc (Nat.le_refl _) _) (fun d hd => by cases hd; exact fun _ => ⟨_, rfl, hS.size, Box.fresh _ _ _⟩))
        unfold Nt.v at q70
        go_simp
      · have q5 := hG.old 5 (by kernel_rfl) (by kernel_rfl)
        refine step_slot rfl rfl rfl (step_value (v := .slice A5 n5 c5) (w' := wx) rfl rfl ?_ (Below.refl _ _) (fun d hd => by cases hd; exact rfl))
        go_simp
    · skip
      refine Steps1.cons (fun _ ax wx hS hJ hG => ?_) (Steps1.cons (fun _ ax wx hS hJ hG => ?_) (Steps1.cons (fun hin _ _ _ _ _ => out (by kernel_rfl) hin) (Steps1.cons (fun hin _ _ _ _ _ => out (by kernel_rfl) hin) (Steps1.cons (fun hin _ _ _ _ _ => out (by kernel_rfl) hin) (Steps1.cons (fun _ ax wx hS hJ hG => ?_) (Steps1.cons (fun _ ax wx hS hJ hG => ?_) (Steps1.cons (fun _ ax wx hS hJ hG => ?_) (Steps1.cons (fun _ ax wx hS hJ hG => ?_) (Steps1.cons (fun hin _ _ _ _ _ => out (by kernel_rfl) hin) (Steps1.cons (fun hin _ _ _ _ _ => out (by kernel_rfl) hin) (Steps1.cons (fun hin _ _ _ _ _ => out (by kernel_rfl) hin) (Steps1.cons (fun hin _ _ _ _ _ => out (by kernel_rfl) hin) (Steps1.cons (fun hin _ _ _ _ _ => out (by kernel_rfl) hin) (Steps1.cons (fun hin _ _ _ _ _ => out (by kernel_rfl) hin) (Steps1.cons (fun hin _ _ _ _ _ => out (by kernel_rfl) hin) Steps1.nil)))))))))))))))
      · have q0 := hG.old 0 (by kernel_rfl) (by kernel_rfl)
        refine step_slot rfl rfl rfl (step_value (v := .string s0) (w' := wx) rfl rfl ?_ (Below.refl _ _) (fun d hd => by cases hd; exact rfl))
        go_simp
      · have q2 := hG.old 2 (by kernel_rfl) (by kernel_rfl)
        refine step_slot rfl rfl rfl (step_value (v := .bool has) (w' := wx) rfl rfl ?_ (Below.refl _ _) (fun d hd => by cases hd; exact rfl))
        go_simp
      · have q13 := hG.old 13 (by kernel_rfl) (by kernel_rfl)
        obtain ⟨z0, z1, z2, z3⟩ := HCX.out wx hS
        refine step_slot rfl rfl rfl (step_value (v := .agg #[.int .i64 1, .string xe, .string xv, .int .u64 (xn.toNat : Int)]) (w' := wx) rfl rfl ?_ (Below.refl _ _) (fun d hd => by cases hd; exact rfl))
        go_simp
      · obtain ⟨_, q70, rfl⟩ := hG.new 70 (by kernel_rfl) (by kernel_rfl)
        refine step_slot rfl rfl rfl (step_value (v := .slice (some ⟨wx.heap.size, 0, none⟩) 1 1) (w' := wx.alloc (.cells #[.int .i64 1, .string xe, .string xv, .int .u64 (xn.toNat : Int)] 24)) rfl rfl ?_ ((Below.refl _ _).alloc (Nat.le_refl _) _) (fun d hd => by cases hd; exact fun _ => ⟨_, rfl, hS.size, Box.fresh _ _ _⟩))
        unfold Nt.v at q70
        go_simp
      · obtain ⟨v1, q1, h1⟩ := hG.new 69 (by kernel_rfl) (by kernel_rfl)
        obtain ⟨v3, q2, h2⟩ := hG.new 71 (by kernel_rfl) (by kernel_rfl)
        have hown : wx.ownsRow w0.heap.size 24 4 v1 l.length (l.flatMap Nt.cells) := (show 1 = 1 → _ from h1) rfl
        obtain ⟨g5, rfl, hl5⟩ := OneN.lies ((show 1 ≤ 1 → OneN w0.heap.size (⟨1, xe, xv, xn⟩ : Nt) wx v3 from h2) (Nat.le_refl _))
        obtain ⟨v2, w2, hr, hown2, hg⟩ := run_append_nts wx 33 w0.heap.size v1 l.length _ hown wx.heap.size (some ⟨g5, 0, none⟩) 1 1 [(⟨1, xe, xv, xn⟩ : Nt)] rfl hl5 (fun h => by cases h) (by rw [HL4.out]; omega) hS.size
        have hS2 : Below w0.heap.size w0 w2 := hS.grown hg hS.size (fun k hk => (own_lt hown hk).1)
        refine step_marked (v := v2) (w' := w2) rfl rfl rfl rfl ?_ hS2 trivial ?_ ?_
        · have e1 : ax.eval (.tmp 69) = v1 := by simp [Act.eval, q1]
          have e2 : ax.eval (.tmp 71) = .slice (some ⟨g5, 0, none⟩) 1 1 := by simp [Act.eval, q2]
          unfold execOp
          simp only [resolve, invoke, builtin, Sem.run_bind, Sem.run_pure, Result.andThen_ok, List.map_toArray, List.map_cons, List.map_nil, e1, e2, hr]
        · exact fun _ => (by rw [List.flatMap_append]; exact hown2)
        · intro t u _ ht hu hV
          unfold LastV at hV ⊢
          split at hV
          · exact hV
          · exact hV
          · exact fun h => absurd h (by decide)
          · exact hV
          · exact fun h => absurd h (by decide)
          · exact hV
          · exact fun h => absurd h (by decide)
          · exact absurd rfl ht
          · exact hV
          · exact fun h => absurd h (by decide)
          · exact hV
          · exact hV
          · exact hV
          · exact hV
          · exact hV
          · exact hV
          · trivial
      · have q5 := hG.old 5 (by kernel_rfl) (by kernel_rfl)
        refine step_slot rfl rfl rfl (step_value (v := .slice A5 n5 c5) (w' := wx) rfl rfl ?_ (Below.refl _ _) (fun d hd => by cases hd; exact rfl))
        go_simp
    · skip
      refine Steps1.cons (fun _ ax wx hS hJ hG => ?_) (Steps1.cons (fun _ ax wx hS hJ hG => ?_) (Steps1.cons (fun hin _ _ _ _ _ => out (by kernel_rfl) hin) (Steps1.cons (fun hin _ _ _ _ _ => out (by kernel_rfl) hin) (Steps1.cons (fun hin _ _ _ _ _ => out (by kernel_rfl) hin) (Steps1.cons (fun hin _ _ _ _ _ => out (by kernel_rfl) hin) (Steps1.cons (fun hin _ _ _ _ _ => out (by kernel_rfl) hin) (Steps1.cons (fun hin _ _ _ _ _ => out (by kernel_rfl) hin) (Steps1.cons (fun _ ax wx hS hJ hG => ?_) (Steps1.cons (fun _ ax wx hS hJ hG => ?_) (Steps1.cons (fun hin _ _ _ _ _ => out (by kernel_rfl) hin) (Steps1.cons (fun hin _ _ _ _ _ => out (by kernel_rfl) hin) (Steps1.cons (fun hin _ _ _ _ _ => out (by kernel_rfl) hin) (Steps1.cons (fun hin _ _ _ _ _ => out (by kernel_rfl) hin) (Steps1.cons (fun hin _ _ _ _ _ => out (by kernel_rfl) hin) (Steps1.cons (fun hin _ _ _ _ _ => out (by kernel_rfl) hin) Steps1.nil)))))))))))))))
      · have q0 := hG.old 0 (by kernel_rfl) (by kernel_rfl)
        refine step_slot rfl rfl rfl (step_value (v := .string s0) (w' := wx) rfl rfl ?_ (Below.refl _ _) (fun d hd => by cases hd; exact rfl))
        go_simp
      · have q2 := hG.old 2 (by kernel_rfl) (by kernel_rfl)
        refine step_slot rfl rfl rfl (step_value (v := .bool has) (w' := wx) rfl rfl ?_ (Below.refl _ _) (fun d hd => by cases hd; exact rfl))
        go_simp
      · have q5 := hG.old 5 (by kernel_rfl) (by kernel_rfl)
        refine step_slot rfl rfl rfl (step_value (v := .slice A5 n5 c5) (w' := wx) rfl rfl ?_ (Below.refl _ _) (fun d hd => by cases hd; exact rfl))
        go_simp
      · obtain ⟨v1, q1, h1⟩ := hG.new 72 (by kernel_rfl) (by kernel_rfl)
        obtain ⟨_, q2, rfl⟩ := hG.new 73 (by kernel_rfl) (by kernel_rfl)
        have hown : wx.ownsRow w0.heap.size 24 4 v1 (l.length + 1) ((l ++ [(⟨1, xe, xv, xn⟩ : Nt)]).flatMap Nt.cells) := (show 2 = 2 → _ from h1) rfl
        obtain ⟨v2, w2, hr, hown2, hg⟩ := run_append_nts wx 33 w0.heap.size v1 (l.length + 1) _ hown wx.heap.size A5 n5 c5 m HL5.out (HMX.out wx hS) HZ5.out (by rw [HL4.out]; omega) hS.size
        have hS2 : Below w0.heap.size w0 w2 := hS.grown hg hS.size (fun k hk => (own_lt hown hk).1)
        refine step_marked (v := v2) (w' := w2) rfl rfl rfl rfl ?_ hS2 trivial ?_ ?_
        · have e1 : ax.eval (.tmp 72) = v1 := by simp [Act.eval, q1]
          have e2 : ax.eval (.tmp 73) = .slice A5 n5 c5 := by simp [Act.eval, q2]
          unfold execOp
          simp only [resolve, invoke, builtin, Sem.run_bind, Sem.run_pure, Result.andThen_ok, List.map_toArray, List.map_cons, List.map_nil, e1, e2, hr]
        · exact fun _ => (by rw [List.flatMap_append, HL5.out]; exact hown2)
        · intro t u _ ht hu hV
          unfold LastV at hV ⊢
          split at hV
          · exact hV
          · exact hV
          · exact fun h => absurd h (by decide)
          · exact hV
          · exact fun h => absurd h (by decide)
          · exact hV
          · exact fun h => absurd h (by decide)
          · exact fun h => absurd h (by decide)
          · exact hV
          · exact absurd rfl ht
          · exact hV
          · exact hV
          · exact hV
          · exact hV
          · exact hV
          · exact hV
          · trivial
    · skip
      refine Steps1.cons (fun _ ax wx hS hJ hG => ?_) (Steps1.cons (fun _ ax wx hS hJ hG => ?_) (Steps1.cons (fun hin _ _ _ _ _ => out (by kernel_rfl) hin) (Steps1.cons (fun hin _ _ _ _ _ => out (by kernel_rfl) hin) (Steps1.cons (fun hin _ _ _ _ _ => out (by kernel_rfl) hin) (Steps1.cons (fun hin _ _ _ _ _ => out (by kernel_rfl) hin) (Steps1.cons (fun hin _ _ _ _ _ => out (by kernel_rfl) hin) (Steps1.cons (fun hin _ _ _ _ _ => out (by kernel_rfl) hin) (Steps1.cons (fun hin _ _ _ _ _ => out (by kernel_rfl) hin) (Steps1.cons (fun hin _ _ _ _ _ => out (by kernel_rfl) hin) (Steps1.cons (fun _ ax wx hS hJ hG => ?_) (Steps1.cons (fun _ ax wx hS hJ hG => ?_) (Steps1.cons (fun _ ax wx hS hJ hG => ?_) (Steps1.cons (fun _ ax wx hS hJ hG => ?_) (Steps1.cons (fun _ ax wx hS hJ hG => ?_) (Steps1.cons (fun _ ax wx hS hJ hG => ?_) Steps1.nil)))))))))))))))
      · have q0 := hG.old 0 (by kernel_rfl) (by kernel_rfl)
        refine step_slot rfl rfl rfl (step_value (v := .string s0) (w' := wx) rfl rfl ?_ (Below.refl _ _) (fun d hd => by cases hd; exact rfl))
        go_simp
      · have q2 := hG.old 2 (by kernel_rfl) (by kernel_rfl)
        refine step_slot rfl rfl rfl (step_value (v := .bool has) (w' := wx) rfl rfl ?_ (Below.refl _ _) (fun d hd => by cases hd; exact rfl))
        go_simp
      · obtain ⟨_, q65, rfl⟩ := hG.new 65 (by kernel_rfl) (by kernel_rfl)
        obtain ⟨_, q66, rfl⟩ := hG.new 66 (by kernel_rfl) (by kernel_rfl)
        obtain ⟨v74, q74, h74⟩ := hG.new 74 (by kernel_rfl) (by kernel_rfl)
        have hnv : NV wx v74 (l ++ [(⟨1, xe, xv, xn⟩ : Nt)] ++ m) := rows_nv (by simp; omega) ((show 3 = 3 → wx.ownsRow w0.heap.size 24 4 v74 (l.length + 1 + m.length) ((l ++ [(⟨1, xe, xv, xn⟩ : Nt)] ++ m).flatMap Nt.cells) from h74) rfl)
        refine step_slot rfl rfl rfl (step_call (w1 := wx) (f := 10) (args := #[.string s0, .bool has, v74]) rfl rfl ?_ ((HD.out wx v74 hnv).mono ?_))
        · clear hnv h74
          go_simp
        · rintro e w' ⟨rfl, hq⟩
          exact ⟨_, rfl, hq, fun d hd => by cases hd; exact rfl⟩
      · obtain ⟨_, q75, rfl⟩ := hG.new 75 (by kernel_rfl) (by kernel_rfl)
        refine step_slot rfl rfl rfl (step_value (v := .tuple #[.string d1, .bool d2]) (w' := wx) rfl rfl ?_ (Below.refl _ _) (fun d hd => by cases hd; exact rfl))
        go_simp
      · obtain ⟨_, q64, rfl⟩ := hG.new 64 (by kernel_rfl) (by kernel_rfl)
        refine step_slot rfl rfl rfl (step_value (v := .string d1) (w' := wx) rfl rfl ?_ (Below.refl _ _) (fun d hd => by cases hd; exact rfl))
        go_simp
      · obtain ⟨_, q64, rfl⟩ := hG.new 64 (by kernel_rfl) (by kernel_rfl)
        refine step_slot rfl rfl rfl (step_value (v := .bool d2) (w' := wx) rfl rfl ?_ (Below.refl _ _) (fun d hd => by cases hd; exact rfl))
        go_simp
      · obtain ⟨_, q76, rfl⟩ := hG.new 76 (by kernel_rfl) (by kernel_rfl)
        refine step_slot rfl rfl rfl (step_value (v := .string d1) (w' := wx) rfl rfl ?_ (Below.refl _ _) (fun d hd => by cases hd; exact rfl))
        go_simp
      · obtain ⟨_, q77, rfl⟩ := hG.new 77 (by kernel_rfl) (by kernel_rfl)
        refine step_slot rfl rfl rfl (step_value (v := .bool d2) (w' := wx) rfl rfl ?_ (Below.refl _ _) (fun d hd => by cases hd; exact rfl))
        go_simp
    intro gg wa hSa _ hVa
    have e15 : gg 15 = .string d1 := hVa 15 (by decide)
    have e16 : gg 16 = .bool d2 := hVa 16 (by decide)
    simp only [puts, Act.put, List.setIfInBounds_toArray, List.set_cons_succ, List.set_cons_zero]
    clear hVa
    rw [e15, e16]
    have NXa := Lib.hid (NBlk.on NX4.out hSa)
    have hb0a : Below w.heap.size w wa := hb04.trans (hSa.mono hb04.size)
    generalize gg 64 = f64
    generalize gg 65 = f65
    generalize gg 66 = f66
    generalize gg 67 = f67
    generalize gg 68 = f68
    generalize gg 69 = f69
    generalize gg 70 = f70
    generalize gg 71 = f71
    generalize gg 72 = f72
    generalize gg 73 = f73
    generalize gg 74 = f74
    generalize gg 75 = f75
    generalize gg 76 = f76
    generalize gg 77 = f77
    clear gg HLX HMX HCX hb04 hSa NX4 c0 c1 c2 c3 e15 e16 HD
    obtain ⟨c0, c1, c2, c3⟩ := NBlk.cells NXa.out
    have hA5a := Lies.on HA5.out (hb0a.alloc hb0a.size (.cells #[.int .i64 1, .string xe, .string xv, .int .u64 (xn.toNat : Int)] 24))
    have hlit := World.ownsRow_lit (base := wa.heap.size) (e := 24) (size := 4) wa #[.int .i64 1, .string xe, .string xv, .int .u64 (xn.toNat : Int)] 1 (Nat.le_refl _) (by unfold maxLen; omega) rfl
    go_wp2_with (at_builtin; go_loud (refine append_nts _ rfl _ _ rfl wa.heap.size _ 1 _ rfl hlit _ A5 n5 c5 m rfl HL5.out hA5a HZ5.out (by omega) (by simp) ?_))
    intro v2 wb hown2 hg2
    have hnv : NV wb v2 ((⟨1, xe, xv, xn⟩ : Nt) :: m) := rows_nv (n := 1 + n5) (by rw [HN5.out]; omega) (show wb.ownsRow wa.heap.size 24 4 v2 (1 + n5) (((⟨1, xe, xv, xn⟩ : Nt) :: m).flatMap Nt.cells) by rw [List.flatMap_cons]; exact hown2)
    have hb0b : Below w.heap.size w wb := (hb0a.alloc hb0a.size _).grown hg2 (by have := hb0a.size; simp; omega) (fun g hk => by simp [Value.ownBlock] at hk; have := hb0a.size; omega)
    have HNV := Lib.hid hnv
    clear hown2 hg2 hlit hA5a hnv hb0a c0 c1 c2 c3 NXa
    go_wp2_with fail
    refine (HE.out _ _ HNV.out).mono ?_
    rintro e wd ⟨rfl, hbd⟩
    have hb0d := hb0b.trans (hbd.mono hb0b.size)
    have hss := str_eq (rfl : d1 = d1)
    have hbb : (d2 == d2) = true := by simp
    clear hbd hb0b HNV HE
    go_wp2_with fail
    refine (awake_true _).mono ?_
    rintro e we ⟨rfl, hbe⟩
    go_wp2
    go_ret
    exact ⟨rfl, hb0d.trans (hbe.mono hb0d.size)⟩
  · subst hk1
    go_wp2_with fail
    obtain ⟨w0, hw0⟩ : ∃ w0, w0 = w4 := ⟨_, rfl⟩
    subst hw0
    have HLX := Lib.hid (show ∀ wx, Below w0.heap.size w0 wx → Nts wx wx.heap.size A4 l from fun wx h => Lies.on HA4.out (hb04.trans (h.mono hb04.size)))
    have HMX := Lib.hid (show ∀ wx, Below w0.heap.size w0 wx → Nts wx wx.heap.size A5 m from fun wx h => Lies.on HA5.out (hb04.trans (h.mono hb04.size)))
    have HCX := Lib.hid (show ∀ wx, Below w0.heap.size w0 wx → _ from fun wx h => NBlk.cells (NBlk.on NX4.out h))
    simp only at HCX
    refine wp_region_phase 12 [65, 66, 67, 68, 69, 70, 71, 72, 73, 74, 75, 64, 76, 77, 15, 16] (by kernel_rfl) [4, 7, 9] [] (fun _ _ => True) 3 rfl (by kernel_rfl) (fun _ w' => Below w0.heap.size w0 w') (fun wa wb => Below wa.heap.size wa wb) (LastV w0.heap.size s0 d1 has d2 (.slice A4 n4 c4) (.slice A5 n5 c5) l m (⟨2, xe, xv, xn⟩ : Nt)) (by kernel_rfl) (fun _ wa wb h1 h2 => h2.trans (h1.mono h2.size)) (fun _ t v wa wb h1 h2 => h2.on h1) (fun _ _ _ _ _ _ _ => trivial) (Below.refl _ _).drew trivial (phase3 ?_ ?_ ?_ ?_) ?_
    · skip
      refine Steps1.cons (fun _ ax wx hS hJ hG => ?_) (Steps1.cons (fun _ ax wx hS hJ hG => ?_) (Steps1.cons (fun _ ax wx hS hJ hG => ?_) (Steps1.cons (fun _ ax wx hS hJ hG => ?_) (Steps1.cons (fun _ ax wx hS hJ hG => ?_) (Steps1.cons (fun _ ax wx hS hJ hG => ?_) (Steps1.cons (fun _ ax wx hS hJ hG => ?_) (Steps1.cons (fun hin _ _ _ _ _ => out (by kernel_rfl) hin) (Steps1.cons (fun _ ax wx hS hJ hG => ?_) (Steps1.cons (fun hin _ _ _ _ _ => out (by kernel_rfl) hin) (Steps1.cons (fun hin _ _ _ _ _ => out (by kernel_rfl) hin) (Steps1.cons (fun hin _ _ _ _ _ => out (by kernel_rfl) hin) (Steps1.cons (fun hin _ _ _ _ _ => out (by kernel_rfl) hin) (Steps1.cons (fun hin _ _ _ _ _ => out (by kernel_rfl) hin) (Steps1.cons (fun hin _ _ _ _ _ => out (by kernel_rfl) hin) (Steps1.cons (fun hin _ _ _ _ _ => out (by kernel_rfl) hin) Steps1.nil)))))))))))))))
      · have q0 := hG.old 0 (by kernel_rfl) (by kernel_rfl)
        refine step_slot rfl rfl rfl (step_value (v := .string s0) (w' := wx) rfl rfl ?_ (Below.refl _ _) (fun d hd => by cases hd; exact rfl))
        go_simp
      · have q2 := hG.old 2 (by kernel_rfl) (by kernel_rfl)
        refine step_slot rfl rfl rfl (step_value (v := .bool has) (w' := wx) rfl rfl ?_ (Below.refl _ _) (fun d hd => by cases hd; exact rfl))
        go_simp
      · refine step_slot rfl rfl rfl (step_value (v := .slice (some ⟨wx.heap.size, 0, none⟩) 0 0) (w' := wx.alloc (.cells #[] 24)) rfl rfl ?_ ((Below.refl _ _).alloc (Nat.le_refl _) _) (fun d hd => by cases hd; exact fun _ => ⟨_, rfl, hS.size, Box.fresh _ _ _⟩))
        go_simp
      · have q4 := hG.old 4 (by kernel_rfl) (by kernel_rfl)
        refine step_slot rfl rfl rfl (step_value (v := .slice A4 n4 c4) (w' := wx) rfl rfl ?_ (Below.refl _ _) (fun d hd => by cases hd; exact rfl))
        go_simp
      · obtain ⟨v1, q1, h1⟩ := hG.new 67 (by kernel_rfl) (by kernel_rfl)
        obtain ⟨_, q2, rfl⟩ := hG.new 68 (by kernel_rfl) (by kernel_rfl)
        have hno : NoneN w0.heap.size wx v1 := (show 0 = 0 → _ from h1) rfl
        obtain ⟨v2, w2, hr, hown2, hg⟩ := run_append_nts wx 33 w0.heap.size v1 0 [] hno.own wx.heap.size A4 n4 c4 l HL4.out (HLX.out wx hS) HZ4.out (by omega) hS.size
        have hS2 : Below w0.heap.size w0 w2 := hS.grown hg hS.size (fun k hk => (hno.own.lt k hk).1)
        refine step_marked (v := v2) (w' := w2) rfl rfl rfl rfl ?_ hS2 trivial ?_ ?_
        · have e1 : ax.eval (.tmp 67) = v1 := by simp [Act.eval, q1]
          have e2 : ax.eval (.tmp 68) = .slice A4 n4 c4 := by simp [Act.eval, q2]
          unfold execOp
          simp only [resolve, invoke, builtin, Sem.run_bind, Sem.run_pure, Result.andThen_ok, List.map_toArray, List.map_cons, List.map_nil, e1, e2, hr]
        · exact fun _ => (by rw [HL4.out]; simpa using hown2)
        · intro t u _ ht hu hV
          unfold LastV at hV ⊢
          split at hV
          · exact hV
          · exact hV
          · exact fun h => absurd h (by decide)
          · exact hV
          · exact absurd rfl ht
          · exact hV
          · exact fun _ => (hV (by decide)).grown hno hg
          · exact fun h => absurd h (by decide)
          · exact hV
          · exact fun h => absurd h (by decide)
          · exact hV
          · exact hV
          · exact hV
          · exact hV
          · exact hV
          · exact hV
          · trivial
      · have q13 := hG.old 13 (by kernel_rfl) (by kernel_rfl)
        obtain ⟨z0, z1, z2, z3⟩ := HCX.out wx hS
        refine step_slot rfl rfl rfl (step_value (v := .agg #[.int .i64 2, .string xe, .string xv, .int .u64 (xn.toNat : Int)]) (w' := wx) rfl rfl ?_ (Below.refl _ _) (fun d hd => by cases hd; exact rfl))
        go_simp
      · obtain ⟨_, q70, rfl⟩ := hG.new 70 (by kernel_rfl) (by kernel_rfl)
        refine step_slot rfl rfl rfl (step_value (v := .slice (some ⟨wx.heap.size, 0, none⟩) 1 1) (w' := wx.alloc (.cells #[.int .i64 2, .string xe, .string xv, .int .u64 (xn.toNat : Int)] 24)) rfl rfl ?_ ((Below.refl _ _).alloc (Nat.le_refl _) _) (fun d hd => by cases hd; exact fun _ => ⟨_, rfl, hS.size, Box.fresh _ _ _⟩))
        unfold Nt.v at q70
        go_simp
      · have q5 := hG.old 5 (by kernel_rfl) (by kernel_rfl)
        refine step_slot rfl rfl rfl (step_value (v := .slice A5 n5 c5) (w' := wx) rfl rfl ?_ (Below.refl _ _) (fun d hd => by cases hd; exact rfl))
        go_simp
    · skip
      refine Steps1.cons (fun _ ax wx hS hJ hG => ?_) (Steps1.cons (fun _ ax wx hS hJ hG => ?_) (Steps1.cons (fun hin _ _ _ _ _ => out (by kernel_rfl) hin) (Steps1.cons (fun hin _ _ _ _ _ => out (by kernel_rfl) hin) (Steps1.cons (fun hin _ _ _ _ _ => out (by kernel_rfl) hin) (Steps1.cons (fun _ ax wx hS hJ hG => ?_) (Steps1.cons (fun _ ax wx hS hJ hG => ?_) (Steps1.cons (fun _ ax wx hS hJ hG => ?_) (Steps1.cons (fun _ ax wx hS hJ hG => ?_) (Steps1.cons (fun hin _ _ _ _ _ => out (by kernel_rfl) hin) (Steps1.cons (fun hin _ _ _ _ _ => out (by kernel_rfl) hin) (Steps1.cons (fun hin _ _ _ _ _ => out (by kernel_rfl) hin) (Steps1.cons (fun hin _ _ _ _ _ => out (by kernel_rfl) hin) (Steps1.cons (fun hin _ _ _ _ _ => out (by kernel_rfl) hin) (Steps1.cons (fun hin _ _ _ _ _ => out (by kernel_rfl) hin) (Steps1.cons (fun hin _ _ _ _ _ => out (by kernel_rfl) hin) Steps1.nil)))))))))))))))
      · have q0 := hG.old 0 (by kernel_rfl) (by kernel_rfl)
        refine step_slot rfl rfl rfl (step_value (v := .string s0) (w' := wx) rfl rfl ?_ (Below.refl _ _) (fun d hd => by cases hd; exact rfl))
        go_simp
      · have q2 := hG.old 2 (by kernel_rfl) (by kernel_rfl)
        refine step_slot rfl rfl rfl (step_value (v := .bool has) (w' := wx) rfl rfl ?_ (Below.refl _ _) (fun d hd => by cases hd; exact rfl))
        go_simp
      · have q13 := hG.old 13 (by kernel_rfl) (by kernel_rfl)
        obtain ⟨z0, z1, z2, z3⟩ := HCX.out wx hS
        refine step_slot rfl rfl rfl (step_value (v := .agg #[.int .i64 2, .string xe, .string xv, .int .u64 (xn.toNat : Int)]) (w' := wx) rfl rfl ?_ (Below.refl _ _) (fun d hd => by cases hd; exact rfl))
        go_simp
      · obtain ⟨_, q70, rfl⟩ := hG.new 70 (by kernel_rfl) (by kernel_rfl)
        refine step_slot rfl rfl rfl (step_value (v := .slice (some ⟨wx.heap.size, 0, none⟩) 1 1) (w' := wx.alloc (.cells #[.int .i64 2, .string xe, .string xv, .int .u64 (xn.toNat : Int)] 24)) rfl rfl ?_ ((Below.refl _ _).alloc (Nat.le_refl _) _) (fun d hd => by cases hd; exact fun _ => ⟨_, rfl, hS.size, Box.fresh _ _ _⟩))
        unfold Nt.v at q70
        go_simp
      · obtain ⟨v1, q1, h1⟩ := hG.new 69 (by kernel_rfl) (by kernel_rfl)
        obtain ⟨v3, q2, h2⟩ := hG.new 71 (by kernel_rfl) (by kernel_rfl)
        have hown : wx.ownsRow w0.heap.size 24 4 v1 l.length (l.flatMap Nt.cells) := (show 1 = 1 → _ from h1) rfl
        obtain ⟨g5, rfl, hl5⟩ := OneN.lies ((show 1 ≤ 1 → OneN w0.heap.size (⟨2, xe, xv, xn⟩ : Nt) wx v3 from h2) (Nat.le_refl _))
        obtain ⟨v2, w2, hr, hown2, hg⟩ := run_append_nts wx 33 w0.heap.size v1 l.length _ hown wx.heap.size (some ⟨g5, 0, none⟩) 1 1 [(⟨2, xe, xv, xn⟩ : Nt)] rfl hl5 (fun h => by cases h) (by rw [HL4.out]; omega) hS.size
        have hS2 : Below w0.heap.size w0 w2 := hS.grown hg hS.size (fun k hk => (own_lt hown hk).1)
        refine step_marked (v := v2) (w' := w2) rfl rfl rfl rfl ?_ hS2 trivial ?_ ?_
        · have e1 : ax.eval (.tmp 69) = v1 := by simp [Act.eval, q1]
          have e2 : ax.eval (.tmp 71) = .slice (some ⟨g5, 0, none⟩) 1 1 := by simp [Act.eval, q2]
          unfold execOp
          simp only [resolve, invoke, builtin, Sem.run_bind, Sem.run_pure, Result.andThen_ok, List.map_toArray, List.map_cons, List.map_nil, e1, e2, hr]
        · exact fun _ => (by rw [List.flatMap_append]; exact hown2)
        · intro t u _ ht hu hV
          unfold LastV at hV ⊢
          split at hV
          · exact hV
          · exact hV
          · exact fun h => absurd h (by decide)
          · exact hV
          · exact fun h => absurd h (by decide)
          · exact hV
          · exact fun h => absurd h (by decide)
          · exact absurd rfl ht
          · exact hV
          · exact fun h => absurd h (by decide)
          · exact hV
          · exact hV
          · exact hV
          · exact hV
          · exact hV
          · exact hV
          · trivial
      · have q5 := hG.old 5 (by kernel_rfl) (by kernel_rfl)
        refine step_slot rfl rfl rfl (step_value (v := .slice A5 n5 c5) (w' := wx) rfl rfl ?_ (Below.refl _ _) (fun d hd => by cases hd; exact rfl))
        go_simp
    · skip
      refine Steps1.cons (fun _ ax wx hS hJ hG => ?_) (Steps1.cons (fun _ ax wx hS hJ hG => ?_) (Steps1.cons (fun hin _ _ _ _ _ => out (by kernel_rfl) hin) (Steps1.cons (fun hin _ _ _ _ _ => out (by kernel_rfl) hin) (Steps1.cons (fun hin _ _ _ _ _ => out (by kernel_rfl) hin) (Steps1.cons (fun hin _ _ _ _ _ => out (by kernel_rfl) hin) (Steps1.cons (fun hin _ _ _ _ _ => out (by kernel_rfl) hin) (Steps1.cons (fun hin _ _ _ _ _ => out (by kernel_rfl) hin) (Steps1.cons (fun _ ax wx hS hJ hG => ?_) (Steps1.cons (fun _ ax wx hS hJ hG => ?_) (Steps1.cons (fun hin _ _ _ _ _ => out (by kernel_rfl) hin) (Steps1.cons (fun hin _ _ _ _ _ => out (by kernel_rfl) hin) (Steps1.cons (fun hin _ _ _ _ _ => out (by kernel_rfl) hin) (Steps1.cons (fun hin _ _ _ _ _ => out (by kernel_rfl) hin) (Steps1.cons (fun hin _ _ _ _ _ => out (by kernel_rfl) hin) (Steps1.cons (fun hin _ _ _ _ _ => out (by kernel_rfl) hin) Steps1.nil)))))))))))))))
      · have q0 := hG.old 0 (by kernel_rfl) (by kernel_rfl)
        refine step_slot rfl rfl rfl (step_value (v := .string s0) (w' := wx) rfl rfl ?_ (Below.refl _ _) (fun d hd => by cases hd; exact rfl))
        go_simp
      · have q2 := hG.old 2 (by kernel_rfl) (by kernel_rfl)
        refine step_slot rfl rfl rfl (step_value (v := .bool has) (w' := wx) rfl rfl ?_ (Below.refl _ _) (fun d hd => by cases hd; exact rfl))
        go_simp
      · have q5 := hG.old 5 (by kernel_rfl) (by kernel_rfl)
        refine step_slot rfl rfl rfl (step_value (v := .slice A5 n5 c5) (w' := wx) rfl rfl ?_ (Below.refl _ _) (fun d hd => by cases hd; exact rfl))
        go_simp
      · obtain ⟨v1, q1, h1⟩ := hG.new 72 (by kernel_rfl) (by kernel_rfl)
        obtain ⟨_, q2, rfl⟩ := hG.new 73 (by kernel_rfl) (by kernel_rfl)
        have hown : wx.ownsRow w0.heap.size 24 4 v1 (l.length + 1) ((l ++ [(⟨2, xe, xv, xn⟩ : Nt)]).flatMap Nt.cells) := (show 2 = 2 → _ from h1) rfl
        obtain ⟨v2, w2, hr, hown2, hg⟩ := run_append_nts wx 33 w0.heap.size v1 (l.length + 1) _ hown wx.heap.size A5 n5 c5 m HL5.out (HMX.out wx hS) HZ5.out (by rw [HL4.out]; omega) hS.size
        have hS2 : Below w0.heap.size w0 w2 := hS.grown hg hS.size (fun k hk => (own_lt hown hk).1)
        refine step_marked (v := v2) (w' := w2) rfl rfl rfl rfl ?_ hS2 trivial ?_ ?_
        · have e1 : ax.eval (.tmp 72) = v1 := by simp [Act.eval, q1]
          have e2 : ax.eval (.tmp 73) = .slice A5 n5 c5 := by simp [Act.eval, q2]
          unfold execOp
          simp only [resolve, invoke, builtin, Sem.run_bind, Sem.run_pure, Result.andThen_ok, List.map_toArray, List.map_cons, List.map_nil, e1, e2, hr]
        · exact fun _ => (by rw [List.flatMap_append, HL5.out]; exact hown2)
        · intro t u _ ht hu hV
          unfold LastV at hV ⊢
          split at hV
          · exact hV
          · exact hV
          · exact fun h => absurd h (by decide)
          · exact hV
          · exact fun h => absurd h (by decide)
          · exact hV
          · exact fun h => absurd h (by decide)
          · exact fun h => absurd h (by decide)
          · exact hV
          · exact absurd rfl ht
          · exact hV
          · exact hV
          · exact hV
          · exact hV
          · exact hV
          · exact hV
          · trivial
    · skip
      refine Steps1.cons (fun _ ax wx hS hJ hG => ?_) (Steps1.cons (fun _ ax wx hS hJ hG => ?_) (Steps1.cons (fun hin _ _ _ _ _ => out (by kernel_rfl) hin) (Steps1.cons (fun hin _ _ _ _ _ => out (by kernel_rfl) hin) (Steps1.cons (fun hin _ _ _ _ _ => out (by kernel_rfl) hin) (Steps1.cons (fun hin _ _ _ _ _ => out (by kernel_rfl) hin) (Steps1.cons (fun hin _ _ _ _ _ => out (by kernel_rfl) hin) (Steps1.cons (fun hin _ _ _ _ _ => out (by kernel_rfl) hin) (Steps1.cons (fun hin _ _ _ _ _ => out (by kernel_rfl) hin) (Steps1.cons (fun hin _ _ _ _ _ => out (by kernel_rfl) hin) (Steps1.cons (fun _ ax wx hS hJ hG => ?_) (Steps1.cons (fun _ ax wx hS hJ hG => ?_) (Steps1.cons (fun _ ax wx hS hJ hG => ?_) (Steps1.cons (fun _ ax wx hS hJ hG => ?_) (Steps1.cons (fun _ ax wx hS hJ hG => ?_) (Steps1.cons (fun _ ax wx hS hJ hG => ?_) Steps1.nil)))))))))))))))
      · have q0 := hG.old 0 (by kernel_rfl) (by kernel_rfl)
        refine step_slot rfl rfl rfl (step_value (v := .string s0) (w' := wx) rfl rfl ?_ (Below.refl _ _) (fun d hd => by cases hd; exact rfl))
        go_simp
      · have q2 := hG.old 2 (by kernel_rfl) (by kernel_rfl)
        refine step_slot rfl rfl rfl (step_value (v := .bool has) (w' := wx) rfl rfl ?_ (Below.refl _ _) (fun d hd => by cases hd; exact rfl))
        go_simp
      · obtain ⟨_, q65, rfl⟩ := hG.new 65 (by kernel_rfl) (by kernel_rfl)
        obtain ⟨_, q66, rfl⟩ := hG.new 66 (by kernel_rfl) (by kernel_rfl)
        obtain ⟨v74, q74, h74⟩ := hG.new 74 (by kernel_rfl) (by kernel_rfl)
        have hnv : NV wx v74 (l ++ [(⟨2, xe, xv, xn⟩ : Nt)] ++ m) := rows_nv (by simp; omega) ((show 3 = 3 → wx.ownsRow w0.heap.size 24 4 v74 (l.length + 1 + m.length) ((l ++ [(⟨2, xe, xv, xn⟩ : Nt)] ++ m).flatMap Nt.cells) from h74) rfl)
        refine step_slot rfl rfl rfl (step_call (w1 := wx) (f := 10) (args := #[.string s0, .bool has, v74]) rfl rfl ?_ ((HD.out wx v74 hnv).mono ?_))
        · clear hnv h74
          go_simp
        · rintro e w' ⟨rfl, hq⟩
          exact ⟨_, rfl, hq, fun d hd => by cases hd; exact rfl⟩
      · obtain ⟨_, q75, rfl⟩ := hG.new 75 (by kernel_rfl) (by kernel_rfl)
        refine step_slot rfl rfl rfl (step_value (v := .tuple #[.string d1, .bool d2]) (w' := wx) rfl rfl ?_ (Below.refl _ _) (fun d hd => by cases hd; exact rfl))
        go_simp
      · obtain ⟨_, q64, rfl⟩ := hG.new 64 (by kernel_rfl) (by kernel_rfl)
        refine step_slot rfl rfl rfl (step_value (v := .string d1) (w' := wx) rfl rfl ?_ (Below.refl _ _) (fun d hd => by cases hd; exact rfl))
        go_simp
      · obtain ⟨_, q64, rfl⟩ := hG.new 64 (by kernel_rfl) (by kernel_rfl)
        refine step_slot rfl rfl rfl (step_value (v := .bool d2) (w' := wx) rfl rfl ?_ (Below.refl _ _) (fun d hd => by cases hd; exact rfl))
        go_simp
      · obtain ⟨_, q76, rfl⟩ := hG.new 76 (by kernel_rfl) (by kernel_rfl)
        refine step_slot rfl rfl rfl (step_value (v := .string d1) (w' := wx) rfl rfl ?_ (Below.refl _ _) (fun d hd => by cases hd; exact rfl))
        go_simp
      · obtain ⟨_, q77, rfl⟩ := hG.new 77 (by kernel_rfl) (by kernel_rfl)
        refine step_slot rfl rfl rfl (step_value (v := .bool d2) (w' := wx) rfl rfl ?_ (Below.refl _ _) (fun d hd => by cases hd; exact rfl))
        go_simp
    intro gg wa hSa _ hVa
    have e15 : gg 15 = .string d1 := hVa 15 (by decide)
    have e16 : gg 16 = .bool d2 := hVa 16 (by decide)
    simp only [puts, Act.put, List.setIfInBounds_toArray, List.set_cons_succ, List.set_cons_zero]
    clear hVa
    rw [e15, e16]
    have NXa := Lib.hid (NBlk.on NX4.out hSa)
    have hb0a : Below w.heap.size w wa := hb04.trans (hSa.mono hb04.size)
    generalize gg 64 = f64
    generalize gg 65 = f65
    generalize gg 66 = f66
    generalize gg 67 = f67
    generalize gg 68 = f68
    generalize gg 69 = f69
    generalize gg 70 = f70
    generalize gg 71 = f71
    generalize gg 72 = f72
    generalize gg 73 = f73
    generalize gg 74 = f74
    generalize gg 75 = f75
    generalize gg 76 = f76
    generalize gg 77 = f77
    clear gg HLX HMX HCX hb04 hSa NX4 c0 c1 c2 c3 e15 e16 HD
    obtain ⟨c0, c1, c2, c3⟩ := NBlk.cells NXa.out
    have hA5a := Lies.on HA5.out (hb0a.alloc hb0a.size (.cells #[.int .i64 2, .string xe, .string xv, .int .u64 (xn.toNat : Int)] 24))
    have hlit := World.ownsRow_lit (base := wa.heap.size) (e := 24) (size := 4) wa #[.int .i64 2, .string xe, .string xv, .int .u64 (xn.toNat : Int)] 1 (Nat.le_refl _) (by unfold maxLen; omega) rfl
    go_wp2_with (at_builtin; go_loud (refine append_nts _ rfl _ _ rfl wa.heap.size _ 1 _ rfl hlit _ A5 n5 c5 m rfl HL5.out hA5a HZ5.out (by omega) (by simp) ?_))
    intro v2 wb hown2 hg2
    have hnv : NV wb v2 ((⟨2, xe, xv, xn⟩ : Nt) :: m) := rows_nv (n := 1 + n5) (by rw [HN5.out]; omega) (show wb.ownsRow wa.heap.size 24 4 v2 (1 + n5) (((⟨2, xe, xv, xn⟩ : Nt) :: m).flatMap Nt.cells) by rw [List.flatMap_cons]; exact hown2)
    have hb0b : Below w.heap.size w wb := (hb0a.alloc hb0a.size _).grown hg2 (by have := hb0a.size; simp; omega) (fun g hk => by simp [Value.ownBlock] at hk; have := hb0a.size; omega)
    have HNV := Lib.hid hnv
    clear hown2 hg2 hlit hA5a hnv hb0a c0 c1 c2 c3 NXa
    go_wp2_with fail
    refine (HE.out _ _ HNV.out).mono ?_
    rintro e wd ⟨rfl, hbd⟩
    have hb0d := hb0b.trans (hbd.mono hb0b.size)
    have hss := str_eq (rfl : d1 = d1)
    have hbb : (d2 == d2) = true := by simp
    clear hbd hb0b HNV HE
    go_wp2_with fail
    refine (awake_true _).mono ?_
    rintro e we ⟨rfl, hbe⟩
    go_wp2
    go_ret
    exact ⟨rfl, hb0d.trans (hbe.mono hb0d.size)⟩

end Go.Proofs.Ytifemajgdbihnaa
