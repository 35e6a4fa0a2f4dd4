/- The walks of the document's Number, Done, Right and All of notes. -/
import Derived.Test.YtnlmdgbkfoofoaaFew
import Derived.Test.YtnlmdgbkfoofoaaRNum
import Derived.Test.YtnlmdgbkfoofoaaPhase
set_option linter.unusedVariables false
set_option linter.unusedSimpArgs false
namespace Go.Proofs.Ytnlmdgbkfoofoaa
open Go.RowKit

set_option maxRecDepth 100000 in
set_option maxHeartbeats 2000000 in
theorem dright_any (xk : Int) (xkey xval : ByteArray) (xn : UInt64) (w : World) :
    Calls Try.prog 31 #[.agg #[.int .i64 xk, .string xkey, .string xval, .int .u64 (xn.toNat : Int)]] w fun e w' => e = .returned (.bool (rightN ⟨xk, xkey, xval, xn⟩)) ∧ Below w.heap.size w w' := by
  obtain ⟨R, hR⟩ : ∃ R, R = rightN ⟨xk, xkey, xval, xn⟩ := ⟨_, rfl⟩
  rw [← hR]
  unfold rightN at hR
  simp only at hR
  by_cases h16 : xkey.size ≤ 16
  · have hd : decide (16 < (xkey.size : Int)) = false := by simp; omega
    rw [decide_eq_true h16, Bool.true_and] at hR
    by_cases h1 : xk = 1
    · subst h1
      rw [if_pos rfl] at hR
      by_cases h32 : xval.size ≤ 32
      · have hd2 : decide ((xval.size : Int) ≤ 32) = true := by simp; omega
        rw [decide_eq_true h32, Bool.true_and, ← u64_zero] at hR
        have HR := Lib.hid hR
        clear hR
        go_enter Try.func31, Try.ntmps31
        go_wp2
        go_ret
        rw [HR.out]
        exact ⟨rfl, (Below.refl _ _).alloc (Nat.le_refl _) _⟩
      · have hd2 : decide ((xval.size : Int) ≤ 32) = false := by simp; omega
        rw [decide_eq_false h32, Bool.false_and] at hR
        subst hR
        go_enter Try.func31, Try.ntmps31
        go_wp2
        go_ret
        exact ⟨rfl, (Below.refl _ _).alloc (Nat.le_refl _) _⟩
    · rw [if_neg h1] at hR
      by_cases h2 : xk = 2
      · subst h2
        rw [if_pos rfl, ← str_empty, ← u64_zero] at hR
        clear h1
        cases hb : xval.toList.isEmpty with
        | true =>
          rw [hb, Bool.true_and] at hR
          have HR := Lib.hid hR
          clear hR
          go_enter Try.func31, Try.ntmps31
          go_wp2
          go_ret
          rw [HR.out]
          exact ⟨rfl, (Below.refl _ _).alloc (Nat.le_refl _) _⟩
        | false =>
          rw [hb, Bool.false_and] at hR
          subst hR
          go_enter Try.func31, Try.ntmps31
          go_wp2
          go_ret
          exact ⟨rfl, (Below.refl _ _).alloc (Nat.le_refl _) _⟩
      · rw [if_neg h2, ← str_empty] at hR
        by_cases h3 : xk = 3
        · subst h3
          rw [decide_eq_true rfl, Bool.true_and] at hR
          clear h1 h2
          have HR := Lib.hid hR
          clear hR
          go_enter Try.func31, Try.ntmps31
          go_wp2
          go_ret
          rw [HR.out]
          exact ⟨rfl, (Below.refl _ _).alloc (Nat.le_refl _) _⟩
        · rw [decide_eq_false h3, Bool.false_and] at hR
          subst hR
          go_enter Try.func31, Try.ntmps31
          go_wp2
          go_ret
          exact ⟨rfl, (Below.refl _ _).alloc (Nat.le_refl _) _⟩
  · have hd : decide (16 < (xkey.size : Int)) = true := by simp; omega
    rw [decide_eq_false h16, Bool.false_and] at hR
    subst hR
    go_enter Try.func31, Try.ntmps31
    go_wp2
    go_ret
    exact ⟨rfl, (Below.refl _ _).alloc (Nat.le_refl _) _⟩


set_option maxRecDepth 100000 in
set_option maxHeartbeats 2000000 in
theorem dall_any (A : Option Addr) (c : Nat) (l : List Nt) (w : World) (hA : Nts w w.heap.size A l) (hn : l.length ≤ maxLen) :
    Calls Try.prog 15 #[.slice A l.length c] w fun e w' => e = .returned (.bool (l.all rightN)) ∧ Below w.heap.size w w' := by
  unfold maxLen at hn
  obtain ⟨R, hR⟩ : ∃ R, R = l.all rightN := ⟨_, rfl⟩
  rw [← hR]
  have HY := Lib.hid (show (∀ i (h : i < l.length), rightN l[i] = true) → R = true from fun h => by
    rw [hR, List.all_eq_true]
    intro x hx
    obtain ⟨i, hi, rfl⟩ := List.getElem_of_mem hx
    exact h i hi)
  have HNo := Lib.hid (show ∀ i (h : i < l.length), rightN l[i] = false → R = false from fun i h h1 => by
    rw [hR, List.all_eq_false]
    exact ⟨l[i], List.getElem_mem _, by rw [h1]; simp⟩)
  clear hR
  obtain ⟨n, hl⟩ : ∃ n, l.length = n := ⟨_, rfl⟩
  rw [hl] at hn ⊢
  have HL := Lib.hid hl
  have HA := Lib.hid hA
  clear hl hA
  go_enter Try.func15, Try.ntmps15
  go_wp2
  go_loopw [3] (fun i wr => ∃ (k : Nat), i = .int .i64 k ∧ k ≤ n ∧ Hid (∀ i (h : i < l.length), i < k → rightN l[i] = true) ∧ Below w.heap.size w wr) (fun i _ => (n - intOf i).toNat)
  case atStart => exact ⟨0, rfl, by omega, fun i h h0 => by omega, Below.refl _ _⟩
  case round =>
    obtain ⟨k, rfl, hk, HG, hbr⟩ := hrel
    by_cases hlt : k < n
    · obtain ⟨ad, rfl, hab, hca⟩ := (HA.out.below hbr).seeN (by rw [HL.out]; omega)
      have hkl : k < l.length := by rw [HL.out]; exact hlt
      obtain ⟨c1, c2, c3, c4⟩ := hca k hkl
      obtain ⟨x, hx⟩ : ∃ x, x = l[k]'hkl := ⟨_, rfl⟩
      rw [← hx] at c1 c2 c3 c4
      have HX := Lib.hid hx
      clear hx hca
      obtain ⟨xk, xkey, xval, xn⟩ := x
      simp only at c1 c2 c3 c4
      have hlt3 : (ad.add (k * 4)).block < w.heap.size := by rw [block_of_add]; exact hab
      have hbs := hbr.size
      go_wp2_with fail
      refine (dright_any xk xkey xval xn _).mono ?_
      rintro e w1 ⟨rfl, hb1⟩
      have hbr1 : Below w.heap.size w w1 := hbr.trans (hb1.mono hbs)
      clear hb1 c1 c2 c3 c4
      cases hf : rightN ⟨xk, xkey, xval, xn⟩ with
      | false =>
        have HE := Lib.hid (HNo.out k hkl (by rw [← HX.out]; exact hf))
        clear hf
        go_wp2
        go_ret
        rw [HE.out]
        exact ⟨rfl, hbr1⟩
      | true =>
        have HG2 := Lib.hid (show ∀ i (h : i < l.length), i < k + 1 → rightN l[i] = true from fun i h h1 => by
          by_cases hi : i < k
          · exact HG.out i h hi
          · have : i = k := by omega
            subst this
            rw [← HX.out]; exact hf)
        clear hf HG
        go_wp2
        go_roundw
        case rel => exact ⟨k + 1, by go_num, by omega, HG2, hbr1⟩
        case measure => simp [intOf]; omega
    · have HE := Lib.hid (HY.out fun i h => HG.out i h (by rw [HL.out] at h; omega))
      go_wp2
      go_ret
      rw [HE.out]
      exact ⟨rfl, hbr⟩

set_option maxRecDepth 100000 in
set_option maxHeartbeats 1000000 in
theorem dnumber_any (s : ByteArray) (w : World) :
    Calls Try.prog 62 #[.string s] w fun e w' => e = .returned (.int .u64 ((numB s).toNat : Int)) ∧ Below w.heap.size w w' := by
  by_cases h8 : s.size = 8
  · have ht := fun w => dtake_ok s 8 w (by decide) (by decide) (by omega)
    obtain ⟨r, hr⟩ : ∃ r, r = s.extract 8 s.size := ⟨_, rfl⟩
    obtain ⟨x, hx⟩ : ∃ x, x = val (s.data.toList.take 8) := ⟨_, rfl⟩
    rw [← hr, ← hx] at ht
    have hl : s.data.toList.length = 8 := by simpa using h8
    have hz : (x : Int) = ((numB s).toNat : Int) := by
      rw [hx, List.take_of_length_le (by omega)]
      unfold numB
      rw [if_pos h8]
      have h1 := val_lt s.data.toList
      rw [hl] at h1
      rw [UInt64.toNat_ofNat_of_lt' (by simpa using h1)]
    rw [← hz]
    have hd : ((s.size : Int) == 8) = true := by simp; omega
    clear hz hl hr hx
    go_enter Try.func62, Try.ntmps62
    go_wp2_with fail
    refine (ht _).mono ?_
    clear ht
    rintro e w1 ⟨rfl, hb1⟩
    go_wp2
    go_ret
    exact ⟨rfl, hb1⟩
  · have hz : (0 : Int) = ((numB s).toNat : Int) := by unfold numB; rw [if_neg h8]; rfl
    rw [← hz]
    have hd : ((s.size : Int) == 8) = false := by simp; omega
    clear hz
    go_enter Try.func62, Try.ntmps62
    go_wp2
    go_ret
    exact ⟨rfl, Below.refl _ _⟩

def DoneV (s1 tt : ByteArray) (x y xn : UInt64) (k : Nat) (SL PA PB : Value) (t : Nat) (v : Value) (w : World) : Prop :=
  match t with
  | 41 => v = .string s1
  | 42 => v = .int .u64 (x.toNat : Int)
  | 43 => v = SL
  | 44 => v = .int .i64 k
  | 45 => v = PA
  | 46 => v = PB
  | 47 => v = .int .u64 (xn.toNat : Int)
  | 48 => v = .int .u64 (y.toNat : Int)
  | 49 => v = .tuple #[.string tt, .int .i64 0]
  | 40 => v = .tuple #[.string tt, .int .i64 0]
  | 50 => v = .string tt
  | 51 => v = .int .i64 0
  | 0 => v = .string tt
  | _ => True
theorem DoneV.on {s1 tt : ByteArray} {x y xn : UInt64} {k : Nat} {SL PA PB : Value} {t : Nat} {v : Value} {w w' : World} (h : DoneV s1 tt x y xn k SL PA PB t v w) (_ : Below w.heap.size w w') : DoneV s1 tt x y xn k SL PA PB t v w' := by
  unfold DoneV at *
  split at h <;> exact h

set_option maxRecDepth 100000 in
set_option maxHeartbeats 4000000 in
theorem ddone_any (v : ByteArray) (has : Bool) (A : Option Addr) (c : Nat) (l : List Nt) (w : World) (hA : Nts w w.heap.size A l) (hn : l.length ≤ maxLen) :
    Calls Try.prog 44 #[.string v, .bool has, .slice A l.length c] w fun e w' => e = .returned (.tuple #[.string (doneL v has l).1, .bool (doneL v has l).2]) ∧ Below w.heap.size w w' := by
  unfold maxLen at hn
  obtain ⟨D, hD⟩ : ∃ D : Nat → Has, ∀ k, D k = doneL v has (l.take k) := ⟨_, fun _ => rfl⟩
  have e0 : D 0 = (if has then v else noB, has) := by rw [hD]; rfl
  have eS : ∀ (k : Nat) (x : Nt), l[k]? = some x → D (k + 1) = step (D k) x := fun k x hx => by
    obtain ⟨h, rfl⟩ := List.getElem?_eq_some_iff.1 hx
    rw [hD, hD, done_take v has l k h]
  have eN : doneL v has l = D l.length := by rw [hD, List.take_length]
  rw [eN]
  have HS := Lib.hid eS
  clear hD eS eN
  generalize hl : l.length = n at *
  have HL := Lib.hid hl
  have HA := Lib.hid hA
  clear hl hA
  obtain ⟨u, hu⟩ : ∃ u, u = (if has then v else noB) := ⟨_, rfl⟩
  rw [← hu] at e0
  have H0 := Lib.hid e0
  clear e0
  go_enter Try.func44, Try.ntmps44
  go_upto_if 10 with fail
  go_cut [0] (fun s wx => s = .string u ∧ w = wx)
  case first =>
    cases has with
    | true =>
      have HUU := Lib.hid hu
      clear hu
      go_wp2
      go_meet
      case rel => exact ⟨by rw [HUU.out]; rfl, rfl⟩
    | false =>
      have HUU := Lib.hid hu
      clear hu
      go_wp2
      go_meet
      case rel => exact ⟨by rw [HUU.out]; rfl, rfl⟩
  case rest =>
  obtain ⟨rfl, rfl⟩ := hcut
  clear hu
  go_wp2
  go_loopw [0, 1, 8] (fun s b i wr => ∃ (k : Nat), s = .string (D k).1 ∧ b = .bool (D k).2 ∧ i = .int .i64 k ∧ k ≤ n ∧ Below w.heap.size w wr) (fun _ _ i _ => (n - intOf i).toNat)
  case atStart => exact ⟨0, by rw [H0.out], by rw [H0.out], rfl, by omega, Below.refl _ _⟩
  case round =>
    obtain ⟨k, rfl, rfl, rfl, hk, hbr⟩ := hrel
    by_cases hlt : k < n
    · obtain ⟨ad, rfl, hab, hca⟩ := (HA.out.below hbr).seeN (by rw [HL.out]; omega)
      obtain ⟨c1, c2, c3, c4⟩ := hca k (by rw [HL.out]; omega)
      obtain ⟨x, hx⟩ : ∃ x, x = l[k]'(by rw [HL.out]; omega) := ⟨_, rfl⟩
      have HT := Lib.hid (HS.out k x (by rw [hx]; exact List.getElem?_eq_getElem _))
      rw [← hx] at c1 c2 c3 c4
      clear hx hca
      obtain ⟨xk, xkey, xval, xn⟩ := x
      simp only at c1 c2 c3 c4
      obtain ⟨s, hs⟩ : ∃ s, s = D k := ⟨_, rfl⟩
      rw [← hs] at HT ⊢
      clear hs
      obtain ⟨s1, s2⟩ := s
      have hlt3 : (ad.add (k * 4)).block < w.heap.size := by rw [block_of_add]; exact hab
      by_cases h1 : xk = 1
      · subst h1
        rw [step1 _ _ rfl] at HT
        go_wp2
        go_roundw
        case rel => exact ⟨k + 1, by rw [HT.out], by rw [HT.out], by go_num, by omega, hbr⟩
        case measure => simp [intOf]; omega
      · by_cases h2 : xk = 2
        · subst h2
          rw [step2 _ _ rfl] at HT
          clear h1
          go_wp2
          go_roundw
          case rel => exact ⟨k + 1, by rw [HT.out], by rw [HT.out], by go_num, by omega, hbr⟩
          case measure => simp [intOf]; omega
        · by_cases h3 : xk = 3
          · subst h3
            rw [step3 _ _ rfl] at HT
            clear h1 h2
            obtain ⟨x, hx⟩ : ∃ x, x = numB s1 := ⟨_, rfl⟩
            have HNB := Lib.hid (show ∀ wx, Calls Try.prog 62 #[.string s1] wx fun e w' => e = .returned (.int .u64 (x.toNat : Int)) ∧ Below wx.heap.size wx w' from fun wx => by rw [hx]; exact dnumber_any s1 wx)
            have HTT := Lib.hid (show D (k + 1) = (be8 (x + xn), true) by rw [HT.out, hx])
            obtain ⟨y, hy⟩ : ∃ y, y = x + xn := ⟨_, rfl⟩
            have HU := Lib.hid (show IntKind.u64.wrap ((x.toNat : Int) + (xn.toNat : Int)) = (y.toNat : Int) from by rw [hy]; exact u64_add x xn)
            obtain ⟨t, ht⟩ : ∃ t, t = be8 y := ⟨_, rfl⟩
            have HNM := Lib.hid (show ∀ wx, Calls Try.prog 61 #[.int .u64 (y.toNat : Int), .int .i64 8] wx fun e w' => e = .returned (.tuple #[.string t, .int .i64 0]) ∧ Below wx.heap.size wx w' from fun wx => by
              have h1 := dnum_in y.toNat 8 wx (by decide) (by decide) y.toNat_lt
              have h2 : fits y.toNat 8 = true := by have h := y.toNat_lt; unfold fits; simp; omega
              have h3 : (⟨(numS y.toNat 8).toArray⟩ : ByteArray) = t := by rw [ht]; unfold numS be8; rw [if_pos h2]; rfl
              have h4 : numE y.toNat 8 = 0 := by unfold numE; rw [if_pos h2]
              have h5 : (((8 : Nat)) : Int) = 8 := rfl
              rw [h5, h3, h4] at h1
              exact h1)
            have HTD := Lib.hid (show D (k + 1) = (t, true) by rw [HTT.out, ← hy, ht])
            have HCC := Lib.hid (show ∀ wx, Below wr.heap.size wr wx → wx.cell? ⟨(ad.add (k * 4)).block, (ad.add (k * 4)).off + 3, none⟩ = some (.int .u64 (xn.toNat : Int)) ∧ True from fun wx hS => ⟨(hS.cell (lt_of_cell c4)).trans c4, trivial⟩)
            have HKN := Lib.hid hlt
            clear hx hy ht HT HTT
            go_wp2
            refine wp_region_phase 12 [41, 42, 43, 44, 45, 46, 47, 48, 49, 40, 50, 51, 0] (by kernel_rfl) [] [] (fun _ _ => True) 0 rfl (by kernel_rfl) (fun _ w' => Below wr.heap.size wr w') (fun wa wb => Below wa.heap.size wa wb) (fun _ => DoneV s1 t x y xn k (.slice (some ad) n c) (.pointer (some (ad.add (k * 4)))) (.pointer (some ⟨(ad.add (k * 4)).block, (ad.add (k * 4)).off + 3, none⟩))) (by kernel_rfl) (fun _ wa wb h1 h2 => h2.trans (h1.mono h2.size)) (fun _ t v wa wb h1 h2 => h2.on h1) (fun _ _ _ _ _ _ _ => trivial) (Below.refl _ _).drew trivial (phase0 ?_) ?_
            · skip
              refine Steps1.cons (fun _ ax wx hS _ hG => ?_) (Steps1.cons (fun _ ax wx hS _ hG => ?_) (Steps1.cons (fun _ ax wx hS _ hG => ?_) (Steps1.cons (fun _ ax wx hS _ hG => ?_) (Steps1.cons (fun _ ax wx hS _ hG => ?_) (Steps1.cons (fun _ ax wx hS _ hG => ?_) (Steps1.cons (fun _ ax wx hS _ hG => ?_) (Steps1.cons (fun _ ax wx hS _ hG => ?_) (Steps1.cons (fun _ ax wx hS _ hG => ?_) (Steps1.cons (fun _ ax wx hS _ hG => ?_) (Steps1.cons (fun _ ax wx hS _ hG => ?_) (Steps1.cons (fun _ ax wx hS _ hG => ?_) (Steps1.cons (fun _ ax wx hS _ hG => ?_) Steps1.nil))))))))))))
              · have q0 := hG.old 0 (by kernel_rfl) (by kernel_rfl)
                refine step_slot rfl rfl rfl (step_value (v := .string s1) (w' := wx) rfl rfl ?_ (Below.refl _ _) (fun d hd => by cases hd; exact rfl))
                go_simp
              · obtain ⟨_, q41, rfl⟩ := hG.new 41 (by kernel_rfl) (by kernel_rfl)
                refine step_slot rfl rfl rfl (step_call (w1 := wx) (f := 62) (args := #[.string s1]) rfl rfl ?_ ((HNB.out wx).mono ?_))
                · skip
                  go_simp
                · rintro e w' ⟨rfl, hq⟩
                  exact ⟨_, rfl, hq, fun d hd => by cases hd; exact rfl⟩
              · have q2 := hG.old 2 (by kernel_rfl) (by kernel_rfl)
                refine step_slot rfl rfl rfl (step_value (v := .slice (some ad) n c) (w' := wx) rfl rfl ?_ (Below.refl _ _) (fun d hd => by cases hd; exact rfl))
                go_simp
              · have q8 := hG.old 8 (by kernel_rfl) (by kernel_rfl)
                refine step_slot rfl rfl rfl (step_value (v := .int .i64 k) (w' := wx) rfl rfl ?_ (Below.refl _ _) (fun d hd => by cases hd; exact rfl))
                go_simp
              · obtain ⟨_, q43, rfl⟩ := hG.new 43 (by kernel_rfl) (by kernel_rfl)
                obtain ⟨_, q44, rfl⟩ := hG.new 44 (by kernel_rfl) (by kernel_rfl)
                refine step_slot rfl rfl rfl (step_value (v := .pointer (some (ad.add (k * 4)))) (w' := wx) rfl rfl ?_ (Below.refl _ _) (fun d hd => by cases hd; exact rfl))
                have hkn := HKN.out
                go_simp
              · obtain ⟨_, q45, rfl⟩ := hG.new 45 (by kernel_rfl) (by kernel_rfl)
                refine step_slot rfl rfl rfl (step_value (v := .pointer (some ⟨(ad.add (k * 4)).block, (ad.add (k * 4)).off + 3, none⟩)) (w' := wx) rfl rfl ?_ (Below.refl _ _) (fun d hd => by cases hd; exact rfl))
                go_simp
              · obtain ⟨_, q46, rfl⟩ := hG.new 46 (by kernel_rfl) (by kernel_rfl)
                obtain ⟨z0, z1⟩ := HCC.out wx hS
                refine step_slot rfl rfl rfl (step_value (v := .int .u64 (xn.toNat : Int)) (w' := wx) rfl rfl ?_ (Below.refl _ _) (fun d hd => by cases hd; exact rfl))
                go_simp
              · obtain ⟨_, q42, rfl⟩ := hG.new 42 (by kernel_rfl) (by kernel_rfl)
                obtain ⟨_, q47, rfl⟩ := hG.new 47 (by kernel_rfl) (by kernel_rfl)
                refine step_slot rfl rfl rfl (step_value (v := .int .u64 (y.toNat : Int)) (w' := wx) rfl rfl ?_ (Below.refl _ _) (fun d hd => by cases hd; exact rfl))
                have hu := HU.out
                go_simp
              · obtain ⟨_, q48, rfl⟩ := hG.new 48 (by kernel_rfl) (by kernel_rfl)
                refine step_slot rfl rfl rfl (step_call (w1 := wx) (f := 61) (args := #[.int .u64 (y.toNat : Int), .int .i64 8]) rfl rfl ?_ ((HNM.out wx).mono ?_))
                · skip
                  go_simp
                · rintro e w' ⟨rfl, hq⟩
                  exact ⟨_, rfl, hq, fun d hd => by cases hd; exact rfl⟩
              · obtain ⟨_, q49, rfl⟩ := hG.new 49 (by kernel_rfl) (by kernel_rfl)
                refine step_slot rfl rfl rfl (step_value (v := .tuple #[.string t, .int .i64 0]) (w' := wx) rfl rfl ?_ (Below.refl _ _) (fun d hd => by cases hd; exact rfl))
                go_simp
              · obtain ⟨_, q40, rfl⟩ := hG.new 40 (by kernel_rfl) (by kernel_rfl)
                refine step_slot rfl rfl rfl (step_value (v := .string t) (w' := wx) rfl rfl ?_ (Below.refl _ _) (fun d hd => by cases hd; exact rfl))
                go_simp
              · obtain ⟨_, q40, rfl⟩ := hG.new 40 (by kernel_rfl) (by kernel_rfl)
                refine step_slot rfl rfl rfl (step_value (v := .int .i64 0) (w' := wx) rfl rfl ?_ (Below.refl _ _) (fun d hd => by cases hd; exact rfl))
                go_simp
              · obtain ⟨_, q50, rfl⟩ := hG.new 50 (by kernel_rfl) (by kernel_rfl)
                refine step_slot rfl rfl rfl (step_value (v := .string t) (w' := wx) rfl rfl ?_ (Below.refl _ _) (fun d hd => by cases hd; exact rfl))
                go_simp
            intro fv w8 hS8 _ hV8
            have e0 : fv 0 = .string t := hV8 0 (by decide)
            simp only [puts, Act.put, List.setIfInBounds_toArray, List.set_cons_succ, List.set_cons_zero]
            clear hV8
            rw [e0]
            have hbr8 := hbr.trans (hS8.mono hbr.size)
            go_wp2
            go_roundw
            case rel => exact ⟨k + 1, by rw [HTD.out], by rw [HTD.out], by go_num, by omega, hbr8⟩
            case measure => simp [intOf]; omega
          · rw [step0 _ _ h1 h2 h3] at HT
            go_wp2
            go_roundw
            case rel => exact ⟨k + 1, by rw [HT.out], by rw [HT.out], by go_num, by omega, hbr⟩
            case measure => simp [intOf]; omega
    · have hkn : k = n := by omega
      subst hkn
      go_wp2
      go_ret2
      exact ⟨rfl, hbr⟩

end Go.Proofs.Ytnlmdgbkfoofoaa
