/- The walk of trail's Right. -/
import Derived.Test.YtgpjbajfkagdbaaTl
import Derived.Test.YtgpjbajfkagdbaaPh
set_option linter.unusedVariables false
set_option linter.unusedSimpArgs false
namespace Go.Proofs.Ytgpjbajfkagdbaa
open Go.RowKit

def Rtno (gz n c k j : Nat) (ad : Addr) (s ps : Int) (key b a : ByteArray) (m d : Bool) (p t : Nat) (v : Value) (w : World) : Prop :=
  match t with
  | 12 => v = .agg #[.int .i64 s, .string key, .bool m, .string b, .bool d, .string a]
  | 13 => v = .bool false
  | 14 => v = .bool true
  | 15 => v = .bool true
  | 16 => v = undef
  | 17 => v = undef
  | 18 => v = undef
  | 19 => v = undef
  | 20 => v = undef
  | 21 => v = undef
  | 22 => v = undef
  | 23 => v = undef
  | 24 => v = undef
  | 25 => v = undef
  | 26 => v = undef
  | 27 => v = undef
  | 28 => v = undef
  | 29 => v = .bool true
  | _ => True
theorem Rtno.on {gz n c k j : Nat} {ad : Addr} {s ps : Int} {key b a : ByteArray} {m d : Bool} {p t : Nat} {v : Value} {w w' : World} (h : Rtno gz n c k j ad s ps key b a m d p t v w) (hb : Below w.heap.size w w') : Rtno gz n c k j ad s ps key b a m d p t v w' := by
  unfold Rtno at *
  split at h <;> first | exact h

def Rtfirst (gz n c k j : Nat) (ad : Addr) (s ps : Int) (key b a : ByteArray) (m d : Bool) (p t : Nat) (v : Value) (w : World) : Prop :=
  match t with
  | 12 => v = .agg #[.int .i64 s, .string key, .bool m, .string b, .bool d, .string a]
  | 13 => v = .bool true
  | 14 => v = .bool false
  | 15 => v = .bool false
  | 16 => v = (.int .i64 0)
  | 17 => v = .bool false
  | 18 => v = .bool false
  | 19 => v = undef
  | 20 => v = undef
  | 21 => v = undef
  | 22 => v = undef
  | 23 => v = undef
  | 24 => v = undef
  | 25 => v = undef
  | 26 => v = undef
  | 27 => v = undef
  | 28 => v = .bool false
  | 29 => v = .bool false
  | _ => True
theorem Rtfirst.on {gz n c k j : Nat} {ad : Addr} {s ps : Int} {key b a : ByteArray} {m d : Bool} {p t : Nat} {v : Value} {w w' : World} (h : Rtfirst gz n c k j ad s ps key b a m d p t v w) (hb : Below w.heap.size w w') : Rtfirst gz n c k j ad s ps key b a m d p t v w' := by
  unfold Rtfirst at *
  split at h <;> first | exact h

def Rtmore (gz n c k j : Nat) (ad : Addr) (s ps : Int) (key b a : ByteArray) (m d : Bool) (p t : Nat) (v : Value) (w : World) : Prop :=
  match t with
  | 12 => v = .agg #[.int .i64 s, .string key, .bool m, .string b, .bool d, .string a]
  | 13 => v = .bool true
  | 14 => v = .bool false
  | 15 => v = .bool false
  | 16 => v = (.int .i64 k)
  | 17 => v = .bool true
  | 18 => v = .bool true
  | 19 => v = (.pointer (some ⟨gz, 0, none⟩))
  | 20 => v = (.int .i64 s)
  | 21 => v = (.slice (some ad) n c)
  | 22 => v = (.int .i64 k)
  | 23 => v = (.int .i64 j)
  | 24 => v = (.pointer (some (ad.add (j * 6))))
  | 25 => v = (.pointer (some (ad.add (j * 6))))
  | 26 => v = (.int .i64 ps)
  | 27 => v = .bool (decide (s ≤ ps))
  | 28 => v = .bool (decide (s ≤ ps))
  | 29 => v = .bool (decide (s ≤ ps))
  | _ => True
theorem Rtmore.on {gz n c k j : Nat} {ad : Addr} {s ps : Int} {key b a : ByteArray} {m d : Bool} {p t : Nat} {v : Value} {w w' : World} (h : Rtmore gz n c k j ad s ps key b a m d p t v w) (hb : Below w.heap.size w w') : Rtmore gz n c k j ad s ps key b a m d p t v w' := by
  unfold Rtmore at *
  split at h <;> first | exact h

set_option maxRecDepth 100000 in
set_option maxHeartbeats 4000000 in
theorem tright_any (A : Option Addr) (c : Nat) (l : List Ch) (w : World) (hA : Chs w w.heap.size A l) (hn : l.length ≤ maxLen) :
    Calls Try.prog 19 #[.slice A l.length c] w fun e w' => e = .returned (.bool (trailB l)) ∧ Below w.heap.size w w' := by
  unfold maxLen at hn
  obtain ⟨n, hl⟩ : ∃ n, l.length = n := ⟨_, rfl⟩
  rw [hl] at hn ⊢
  have HL := Lib.hid hl
  have HA := Lib.hid hA
  clear hl hA
  go_enter Try.func19, Try.ntmps19
  go_wp2
  go_loopw [7] (fun i wr => ∃ (k : Nat), i = .int .i64 k ∧ k ≤ n ∧ Hid (∀ i (h : i < l.length), i < k → okAt l i h) ∧ Below w.heap.size w wr) (fun i _ => (n - intOf i).toNat)
  case atStart => exact ⟨0, rfl, by omega, (show ∀ i (h : i < l.length), i < 0 → okAt l i h from fun i h h0 => absurd h0 (by omega)), Below.refl _ _⟩
  case round =>
    obtain ⟨k, rfl, hk, HALL, hbr⟩ := hrel
    by_cases hlt : k < n
    · have hkl : k < l.length := by rw [HL.out]; exact hlt
      obtain ⟨ad, rfl, hab, hca⟩ := (HA.out.below hbr).seeC (by rw [HL.out]; omega)
      obtain ⟨c0, c1, c2, c3, c4, c5⟩ := hca k hkl
      have hprev : ∀ j (hj : j + 1 = k), wr.cell? (ad.add (j * 6)) = some (.int .i64 (l[j]'(by omega)).seq) := fun j hj => (hca j (by omega)).1
      obtain ⟨x, hx⟩ : ∃ x, x = l[k]'hkl := ⟨_, rfl⟩
      have HX := Lib.hid hx
      have HPV := Lib.hid hprev
      have HKL := Lib.hid hkl
      rw [← hx] at c0 c1 c2 c3 c4 c5
      have HNEXT := Lib.hid (show okAt l k hkl → Hid (∀ i (h : i < l.length), i < k + 1 → okAt l i h) from fun hok => (show ∀ i (h : i < l.length), i < k + 1 → okAt l i h from fun i h hi => by
        by_cases e : i = k
        · subst e; exact hok
        · exact HALL.out i h (by omega)))
      clear hx hca hprev
      obtain ⟨s, key, m, b, d, a⟩ := x
      simp only at c0 c1 c2 c3 c4 c5
      have hmay := fun w => may_any s key m b d a w
      obtain ⟨M, hM⟩ : ∃ M, M = mayC ⟨s, key, m, b, d, a⟩ := ⟨_, rfl⟩
      rw [← hM] at hmay
      have HM := Lib.hid hM
      have HMAY := Lib.hid hmay
      clear hM hmay
      go_upto_region 4 with fail
      obtain ⟨gz, hgz⟩ : ∃ gz, gz = wr.heap.size := ⟨_, rfl⟩
      obtain ⟨wz, hwz⟩ : ∃ wz, wz = wr.alloc (.cells #[.int .i64 s, .string key, .bool m, .string b, .bool d, .string a] 55) := ⟨_, rfl⟩
      rw [← hgz, ← hwz]
      have hb : Below wr.heap.size wr wz := by rw [hwz]; exact (Below.refl _ _).alloc (Nat.le_refl _) _
      have BZ := Lib.hid (show Box wz gz 55 #[.int .i64 s, .string key, .bool m, .string b, .bool d, .string a] from by rw [hwz]; exact Box.at_ wr _ _ hgz)
      have HBR2 := Lib.hid (hbr.trans (hb.mono hbr.size))
      have HPV2 := Lib.hid (show ∀ j (hj : j + 1 = k), wz.cell? (ad.add (j * 6)) = some (.int .i64 (l[j]'(by have := HKL.out; omega)).seq) from fun j hj => (hb.cell (lt_of_cell (HPV.out j hj))).trans (HPV.out j hj))
      clear hb hgz hwz c0 c1 c2 c3 c4 c5 hab hbr HPV
      cases M with
      | false =>
        obtain ⟨j, ps⟩ : Nat × Int := (0, 0)
        refine wp_region_phase 14 [12, 13, 14, 15, 16, 17, 18, 19, 20, 21, 22, 23, 24, 25, 26, 27, 28, 29] (by kernel_rfl) [] [] (fun _ _ => True) 0 rfl (by kernel_rfl) (SP (fun wx => Below wz.heap.size wz wx) (fun _ => True) (fun _ => True)) (fun wa wb => Below wa.heap.size wa wb) (Rtno gz n c k j ad s ps key b a m d) (by kernel_rfl) (SP.on below_grow (fun _ _ _ _ => trivial) (fun _ _ _ _ => trivial)) (fun _ t v wa wb h1 h2 => h2.on h1) (fun _ _ _ _ _ _ _ => trivial) (Below.refl _ _).drew trivial (phase0 ?_) ?_
        · refine Steps1.cons (fun _ ax wx hS _ hG => ?_) (Steps1.cons (fun _ ax wx hS _ hG => ?_) (Steps1.cons (fun _ ax wx hS _ hG => ?_) (Steps1.cons (fun _ ax wx hS _ hG => ?_) (Steps1.cons (fun _ ax wx hS _ hG => ?_) (Steps1.cons (fun _ ax wx hS _ hG => ?_) (Steps1.cons (fun _ ax wx hS _ hG => ?_) (Steps1.cons (fun _ ax wx hS _ hG => ?_) (Steps1.cons (fun _ ax wx hS _ hG => ?_) (Steps1.cons (fun _ ax wx hS _ hG => ?_) (Steps1.cons (fun _ ax wx hS _ hG => ?_) (Steps1.cons (fun _ ax wx hS _ hG => ?_) (Steps1.cons (fun _ ax wx hS _ hG => ?_) (Steps1.cons (fun _ ax wx hS _ hG => ?_) (Steps1.cons (fun _ ax wx hS _ hG => ?_) (Steps1.cons (fun _ ax wx hS _ hG => ?_) (Steps1.cons (fun _ ax wx hS _ hG => ?_) (Steps1.cons (fun _ ax wx hS _ hG => ?_) Steps1.nil)))))))))))))))))
          · have q4 := hG.old 4 (by kernel_rfl) (by kernel_rfl)
            obtain ⟨z0, z1, z2, z3, z4, z5⟩ := (⟨Box.cell (BZ.out.on hS) 0 rfl, Box.cell (BZ.out.on hS) 1 rfl, Box.cell (BZ.out.on hS) 2 rfl, Box.cell (BZ.out.on hS) 3 rfl, Box.cell (BZ.out.on hS) 4 rfl, Box.cell (BZ.out.on hS) 5 rfl⟩ : _ ∧ _ ∧ _ ∧ _ ∧ _ ∧ _)
            refine step_slot rfl rfl rfl (step_value (v := .agg #[.int .i64 s, .string key, .bool m, .string b, .bool d, .string a]) (w' := wx) rfl rfl ?_ (Below.refl _ _) (fun d hd => by cases hd; exact rfl))
            go_simp
          · obtain ⟨_, q12, rfl⟩ := hG.new 12 (by kernel_rfl) (by kernel_rfl)
            refine step_slot rfl rfl rfl (step_call (w1 := wx) (f := 32) (args := #[.agg #[.int .i64 s, .string key, .bool m, .string b, .bool d, .string a]]) rfl rfl ?_ ((HMAY.out wx).mono ?_))
            · skip
              go_simp
            · rintro e w' ⟨rfl, hq⟩
              exact ⟨_, rfl, hq, fun d hd => by cases hd; exact rfl⟩
          · obtain ⟨_, q13, rfl⟩ := hG.new 13 (by kernel_rfl) (by kernel_rfl)
            refine step_slot rfl rfl rfl (step_value (v := .bool true) (w' := wx) rfl rfl ?_ (Below.refl _ _) (fun d hd => by cases hd; exact rfl))
            go_simp
          · obtain ⟨_, q14, rfl⟩ := hG.new 14 (by kernel_rfl) (by kernel_rfl)
            refine step_slot rfl rfl rfl (step_value (v := .bool true) (w' := wx) rfl rfl ?_ (Below.refl _ _) (fun d hd => by cases hd; exact rfl))
            go_simp
          · obtain ⟨_, q15, rfl⟩ := hG.new 15 (by kernel_rfl) (by kernel_rfl)
            refine step_slot rfl rfl rfl (step_past rfl (by simp [Region.wanted, yielded, q15, undef]) (Below.refl _ _) (fun d hd => by cases hd; exact rfl))
          · obtain ⟨_, q15, rfl⟩ := hG.new 15 (by kernel_rfl) (by kernel_rfl)
            refine step_slot rfl rfl rfl (step_past rfl (by simp [Region.wanted, yielded, q15, undef]) (Below.refl _ _) (fun d hd => by cases hd; exact rfl))
          · obtain ⟨_, q15, rfl⟩ := hG.new 15 (by kernel_rfl) (by kernel_rfl)
            refine step_slot rfl rfl rfl (step_past rfl (by simp [Region.wanted, yielded, q15, undef]) (Below.refl _ _) (fun d hd => by cases hd; exact rfl))
          · obtain ⟨_, q18, rfl⟩ := hG.new 18 (by kernel_rfl) (by kernel_rfl)
            refine step_slot rfl rfl rfl (step_past rfl (by simp [Region.wanted, yielded, q18, undef]) (Below.refl _ _) (fun d hd => by cases hd; exact rfl))
          · obtain ⟨_, q18, rfl⟩ := hG.new 18 (by kernel_rfl) (by kernel_rfl)
            refine step_slot rfl rfl rfl (step_past rfl (by simp [Region.wanted, yielded, q18, undef]) (Below.refl _ _) (fun d hd => by cases hd; exact rfl))
          · obtain ⟨_, q18, rfl⟩ := hG.new 18 (by kernel_rfl) (by kernel_rfl)
            refine step_slot rfl rfl rfl (step_past rfl (by simp [Region.wanted, yielded, q18, undef]) (Below.refl _ _) (fun d hd => by cases hd; exact rfl))
          · obtain ⟨_, q18, rfl⟩ := hG.new 18 (by kernel_rfl) (by kernel_rfl)
            refine step_slot rfl rfl rfl (step_past rfl (by simp [Region.wanted, yielded, q18, undef]) (Below.refl _ _) (fun d hd => by cases hd; exact rfl))
          · obtain ⟨_, q18, rfl⟩ := hG.new 18 (by kernel_rfl) (by kernel_rfl)
            refine step_slot rfl rfl rfl (step_past rfl (by simp [Region.wanted, yielded, q18, undef]) (Below.refl _ _) (fun d hd => by cases hd; exact rfl))
          · obtain ⟨_, q18, rfl⟩ := hG.new 18 (by kernel_rfl) (by kernel_rfl)
            refine step_slot rfl rfl rfl (step_past rfl (by simp [Region.wanted, yielded, q18, undef]) (Below.refl _ _) (fun d hd => by cases hd; exact rfl))
          · obtain ⟨_, q18, rfl⟩ := hG.new 18 (by kernel_rfl) (by kernel_rfl)
            refine step_slot rfl rfl rfl (step_past rfl (by simp [Region.wanted, yielded, q18, undef]) (Below.refl _ _) (fun d hd => by cases hd; exact rfl))
          · obtain ⟨_, q18, rfl⟩ := hG.new 18 (by kernel_rfl) (by kernel_rfl)
            refine step_slot rfl rfl rfl (step_past rfl (by simp [Region.wanted, yielded, q18, undef]) (Below.refl _ _) (fun d hd => by cases hd; exact rfl))
          · obtain ⟨_, q18, rfl⟩ := hG.new 18 (by kernel_rfl) (by kernel_rfl)
            refine step_slot rfl rfl rfl (step_past rfl (by simp [Region.wanted, yielded, q18, undef]) (Below.refl _ _) (fun d hd => by cases hd; exact rfl))
          · obtain ⟨_, q15, rfl⟩ := hG.new 15 (by kernel_rfl) (by kernel_rfl)
            refine step_slot rfl rfl rfl (step_past rfl (by simp [Region.wanted, yielded, q15, undef]) (Below.refl _ _) (fun d hd => by cases hd; exact rfl))
          · obtain ⟨_, q15, rfl⟩ := hG.new 15 (by kernel_rfl) (by kernel_rfl)
            obtain ⟨_, q28, rfl⟩ := hG.new 28 (by kernel_rfl) (by kernel_rfl)
            refine step_slot rfl rfl rfl (step_value (v := .bool true) (w' := wx) rfl rfl ?_ (Below.refl _ _) (fun d hd => by cases hd; exact rfl))
            go_simp
        intro fv w8 hS8 _ hV8
        have e29 : fv 29 = .bool true := hV8 29 (by decide)
        simp only [puts, Act.put, List.setIfInBounds_toArray, List.set_cons_succ, List.set_cons_zero]
        clear hV8
        rw [e29]
        have HB8 := Lib.hid (HBR2.out.trans ((show Below _ _ _ from hS8).mono HBR2.out.size))
        clear hS8
        go_wp2
        go_ret
        exact ⟨by rw [trail_f (i := k) (h := HKL.out) (fun hk => by have := hk.1; rw [← HX.out, ← HM.out] at this; cases this)]; rfl, HB8.out⟩
      | true =>
        by_cases hk0 : k = 0
        · subst hk0
          obtain ⟨j, ps⟩ : Nat × Int := (0, 0)
          have HK0 := Lib.hid (Nat.le_refl 0)
          have hlt0 := hlt
          obtain ⟨k, hkk⟩ : ∃ k : Nat, k = 0 := ⟨0, rfl⟩
          refine wp_region_phase 14 [12, 13, 14, 15, 16, 17, 18, 19, 20, 21, 22, 23, 24, 25, 26, 27, 28, 29] (by kernel_rfl) [] [] (fun _ _ => True) 0 rfl (by kernel_rfl) (SP (fun wx => Below wz.heap.size wz wx) (fun _ => True) (fun _ => True)) (fun wa wb => Below wa.heap.size wa wb) (Rtfirst gz n c k j ad s ps key b a m d) (by kernel_rfl) (SP.on below_grow (fun _ _ _ _ => trivial) (fun _ _ _ _ => trivial)) (fun _ t v wa wb h1 h2 => h2.on h1) (fun _ _ _ _ _ _ _ => trivial) (Below.refl _ _).drew trivial (phase0 ?_) ?_
          · refine Steps1.cons (fun _ ax wx hS _ hG => ?_) (Steps1.cons (fun _ ax wx hS _ hG => ?_) (Steps1.cons (fun _ ax wx hS _ hG => ?_) (Steps1.cons (fun _ ax wx hS _ hG => ?_) (Steps1.cons (fun _ ax wx hS _ hG => ?_) (Steps1.cons (fun _ ax wx hS _ hG => ?_) (Steps1.cons (fun _ ax wx hS _ hG => ?_) (Steps1.cons (fun _ ax wx hS _ hG => ?_) (Steps1.cons (fun _ ax wx hS _ hG => ?_) (Steps1.cons (fun _ ax wx hS _ hG => ?_) (Steps1.cons (fun _ ax wx hS _ hG => ?_) (Steps1.cons (fun _ ax wx hS _ hG => ?_) (Steps1.cons (fun _ ax wx hS _ hG => ?_) (Steps1.cons (fun _ ax wx hS _ hG => ?_) (Steps1.cons (fun _ ax wx hS _ hG => ?_) (Steps1.cons (fun _ ax wx hS _ hG => ?_) (Steps1.cons (fun _ ax wx hS _ hG => ?_) (Steps1.cons (fun _ ax wx hS _ hG => ?_) Steps1.nil)))))))))))))))))
            · have q4 := hG.old 4 (by kernel_rfl) (by kernel_rfl)
              obtain ⟨z0, z1, z2, z3, z4, z5⟩ := (⟨Box.cell (BZ.out.on hS) 0 rfl, Box.cell (BZ.out.on hS) 1 rfl, Box.cell (BZ.out.on hS) 2 rfl, Box.cell (BZ.out.on hS) 3 rfl, Box.cell (BZ.out.on hS) 4 rfl, Box.cell (BZ.out.on hS) 5 rfl⟩ : _ ∧ _ ∧ _ ∧ _ ∧ _ ∧ _)
              refine step_slot rfl rfl rfl (step_value (v := .agg #[.int .i64 s, .string key, .bool m, .string b, .bool d, .string a]) (w' := wx) rfl rfl ?_ (Below.refl _ _) (fun d hd => by cases hd; exact rfl))
              go_simp
            · obtain ⟨_, q12, rfl⟩ := hG.new 12 (by kernel_rfl) (by kernel_rfl)
              refine step_slot rfl rfl rfl (step_call (w1 := wx) (f := 32) (args := #[.agg #[.int .i64 s, .string key, .bool m, .string b, .bool d, .string a]]) rfl rfl ?_ ((HMAY.out wx).mono ?_))
              · skip
                go_simp
              · rintro e w' ⟨rfl, hq⟩
                exact ⟨_, rfl, hq, fun d hd => by cases hd; exact rfl⟩
            · obtain ⟨_, q13, rfl⟩ := hG.new 13 (by kernel_rfl) (by kernel_rfl)
              refine step_slot rfl rfl rfl (step_value (v := .bool false) (w' := wx) rfl rfl ?_ (Below.refl _ _) (fun d hd => by cases hd; exact rfl))
              go_simp
            · obtain ⟨_, q14, rfl⟩ := hG.new 14 (by kernel_rfl) (by kernel_rfl)
              refine step_slot rfl rfl rfl (step_value (v := .bool false) (w' := wx) rfl rfl ?_ (Below.refl _ _) (fun d hd => by cases hd; exact rfl))
              go_simp
            · obtain ⟨_, q15, rfl⟩ := hG.new 15 (by kernel_rfl) (by kernel_rfl)
              have q3 := hG.old 3 (by kernel_rfl) (by kernel_rfl)
              refine step_slot rfl rfl rfl (step_value (v := (.int .i64 0)) (w' := wx) rfl (by simp [Region.wanted, yielded, q15, undef]) ?_ (Below.refl _ _) (fun d hd => by cases hd; exact rfl))
              go_simp
            · obtain ⟨_, q15, rfl⟩ := hG.new 15 (by kernel_rfl) (by kernel_rfl)
              obtain ⟨_, q16, rfl⟩ := hG.new 16 (by kernel_rfl) (by kernel_rfl)
              refine step_slot rfl rfl rfl (step_value (v := .bool false) (w' := wx) rfl (by simp [Region.wanted, yielded, q15, undef]) ?_ (Below.refl _ _) (fun d hd => by cases hd; exact rfl))
              have hk0 := HK0.out
              go_simp
            · obtain ⟨_, q15, rfl⟩ := hG.new 15 (by kernel_rfl) (by kernel_rfl)
              obtain ⟨_, q17, rfl⟩ := hG.new 17 (by kernel_rfl) (by kernel_rfl)
              refine step_slot rfl rfl rfl (step_value (v := .bool false) (w' := wx) rfl (by simp [Region.wanted, yielded, q15, undef]) ?_ (Below.refl _ _) (fun d hd => by cases hd; exact rfl))
              go_simp
            · obtain ⟨_, q18, rfl⟩ := hG.new 18 (by kernel_rfl) (by kernel_rfl)
              refine step_slot rfl rfl rfl (step_past rfl (by simp [Region.wanted, yielded, q18, undef]) (Below.refl _ _) (fun d hd => by cases hd; exact rfl))
            · obtain ⟨_, q18, rfl⟩ := hG.new 18 (by kernel_rfl) (by kernel_rfl)
              refine step_slot rfl rfl rfl (step_past rfl (by simp [Region.wanted, yielded, q18, undef]) (Below.refl _ _) (fun d hd => by cases hd; exact rfl))
            · obtain ⟨_, q18, rfl⟩ := hG.new 18 (by kernel_rfl) (by kernel_rfl)
              refine step_slot rfl rfl rfl (step_past rfl (by simp [Region.wanted, yielded, q18, undef]) (Below.refl _ _) (fun d hd => by cases hd; exact rfl))
            · obtain ⟨_, q18, rfl⟩ := hG.new 18 (by kernel_rfl) (by kernel_rfl)
              refine step_slot rfl rfl rfl (step_past rfl (by simp [Region.wanted, yielded, q18, undef]) (Below.refl _ _) (fun d hd => by cases hd; exact rfl))
            · obtain ⟨_, q18, rfl⟩ := hG.new 18 (by kernel_rfl) (by kernel_rfl)
              refine step_slot rfl rfl rfl (step_past rfl (by simp [Region.wanted, yielded, q18, undef]) (Below.refl _ _) (fun d hd => by cases hd; exact rfl))
            · obtain ⟨_, q18, rfl⟩ := hG.new 18 (by kernel_rfl) (by kernel_rfl)
              refine step_slot rfl rfl rfl (step_past rfl (by simp [Region.wanted, yielded, q18, undef]) (Below.refl _ _) (fun d hd => by cases hd; exact rfl))
            · obtain ⟨_, q18, rfl⟩ := hG.new 18 (by kernel_rfl) (by kernel_rfl)
              refine step_slot rfl rfl rfl (step_past rfl (by simp [Region.wanted, yielded, q18, undef]) (Below.refl _ _) (fun d hd => by cases hd; exact rfl))
            · obtain ⟨_, q18, rfl⟩ := hG.new 18 (by kernel_rfl) (by kernel_rfl)
              refine step_slot rfl rfl rfl (step_past rfl (by simp [Region.wanted, yielded, q18, undef]) (Below.refl _ _) (fun d hd => by cases hd; exact rfl))
            · obtain ⟨_, q18, rfl⟩ := hG.new 18 (by kernel_rfl) (by kernel_rfl)
              refine step_slot rfl rfl rfl (step_past rfl (by simp [Region.wanted, yielded, q18, undef]) (Below.refl _ _) (fun d hd => by cases hd; exact rfl))
            · obtain ⟨_, q15, rfl⟩ := hG.new 15 (by kernel_rfl) (by kernel_rfl)
              obtain ⟨_, q18, rfl⟩ := hG.new 18 (by kernel_rfl) (by kernel_rfl)
              obtain ⟨_, q27, rfl⟩ := hG.new 27 (by kernel_rfl) (by kernel_rfl)
              refine step_slot rfl rfl rfl (step_value (v := .bool false) (w' := wx) rfl (by simp [Region.wanted, yielded, q15, undef]) ?_ (Below.refl _ _) (fun d hd => by cases hd; exact rfl))
              go_simp
            · obtain ⟨_, q15, rfl⟩ := hG.new 15 (by kernel_rfl) (by kernel_rfl)
              obtain ⟨_, q28, rfl⟩ := hG.new 28 (by kernel_rfl) (by kernel_rfl)
              refine step_slot rfl rfl rfl (step_value (v := .bool false) (w' := wx) rfl rfl ?_ (Below.refl _ _) (fun d hd => by cases hd; exact rfl))
              go_simp
          intro fv w8 hS8 _ hV8
          have e29 : fv 29 = .bool false := hV8 29 (by decide)
          simp only [puts, Act.put, List.setIfInBounds_toArray, List.set_cons_succ, List.set_cons_zero]
          clear hV8
          rw [e29]
          have HB8 := Lib.hid (HBR2.out.trans ((show Below _ _ _ from hS8).mono HBR2.out.size))
          clear hS8
          go_wp2
          go_roundw
          case rel => exact ⟨0 + 1, by go_num, by omega, HNEXT.out ⟨by rw [← HX.out, ← HM.out], fun h0 => absurd h0 (by omega)⟩, HB8.out⟩
          case measure => simp [intOf]; omega
        · obtain ⟨j, hj⟩ : ∃ j, j + 1 = k := ⟨k - 1, by omega⟩
          have hjl : j < l.length := by have := HKL.out; omega
          obtain ⟨ps, hps⟩ : ∃ ps, ps = (l[j]'hjl).seq := ⟨_, rfl⟩
          have HPC := Lib.hid (show wz.cell? (ad.add (j * 6)) = some (.int .i64 ps) from by rw [hps]; exact HPV2.out j hj)
          have HOK := Lib.hid (show okAt l k HKL.out ↔ ps < s from by
            have e : k - 1 = j := by omega
            unfold okAt
            simp only [e, ← HX.out, ← hps, ← HM.out, true_and]
            exact ⟨fun h => h (by omega), fun h _ => h⟩)
          have HWK := Lib.hid (show IntKind.i64.wrap ((k : Int) - 1) = (j : Int) from by rw [IntKind.wrap_i64]; omega)
          have HJN := Lib.hid (show (j : Int) < (n : Int) from by omega)
          have HK0 := Lib.hid (show 0 < k from by omega)
          have hkn0 : ¬ (k : Int) = 0 := by omega
          clear hps hjl hj
          refine wp_region_phase 14 [12, 13, 14, 15, 16, 17, 18, 19, 20, 21, 22, 23, 24, 25, 26, 27, 28, 29] (by kernel_rfl) [] [] (fun _ _ => True) 0 rfl (by kernel_rfl) (SP (fun wx => Below wz.heap.size wz wx) (fun _ => True) (fun _ => True)) (fun wa wb => Below wa.heap.size wa wb) (Rtmore gz n c k j ad s ps key b a m d) (by kernel_rfl) (SP.on below_grow (fun _ _ _ _ => trivial) (fun _ _ _ _ => trivial)) (fun _ t v wa wb h1 h2 => h2.on h1) (fun _ _ _ _ _ _ _ => trivial) (Below.refl _ _).drew trivial (phase0 ?_) ?_
          · refine Steps1.cons (fun _ ax wx hS _ hG => ?_) (Steps1.cons (fun _ ax wx hS _ hG => ?_) (Steps1.cons (fun _ ax wx hS _ hG => ?_) (Steps1.cons (fun _ ax wx hS _ hG => ?_) (Steps1.cons (fun _ ax wx hS _ hG => ?_) (Steps1.cons (fun _ ax wx hS _ hG => ?_) (Steps1.cons (fun _ ax wx hS _ hG => ?_) (Steps1.cons (fun _ ax wx hS _ hG => ?_) (Steps1.cons (fun _ ax wx hS _ hG => ?_) (Steps1.cons (fun _ ax wx hS _ hG => ?_) (Steps1.cons (fun _ ax wx hS _ hG => ?_) (Steps1.cons (fun _ ax wx hS _ hG => ?_) (Steps1.cons (fun _ ax wx hS _ hG => ?_) (Steps1.cons (fun _ ax wx hS _ hG => ?_) (Steps1.cons (fun _ ax wx hS _ hG => ?_) (Steps1.cons (fun _ ax wx hS _ hG => ?_) (Steps1.cons (fun _ ax wx hS _ hG => ?_) (Steps1.cons (fun _ ax wx hS _ hG => ?_) Steps1.nil)))))))))))))))))
            · have q4 := hG.old 4 (by kernel_rfl) (by kernel_rfl)
              obtain ⟨z0, z1, z2, z3, z4, z5⟩ := (⟨Box.cell (BZ.out.on hS) 0 rfl, Box.cell (BZ.out.on hS) 1 rfl, Box.cell (BZ.out.on hS) 2 rfl, Box.cell (BZ.out.on hS) 3 rfl, Box.cell (BZ.out.on hS) 4 rfl, Box.cell (BZ.out.on hS) 5 rfl⟩ : _ ∧ _ ∧ _ ∧ _ ∧ _ ∧ _)
              refine step_slot rfl rfl rfl (step_value (v := .agg #[.int .i64 s, .string key, .bool m, .string b, .bool d, .string a]) (w' := wx) rfl rfl ?_ (Below.refl _ _) (fun d hd => by cases hd; exact rfl))
              go_simp
            · obtain ⟨_, q12, rfl⟩ := hG.new 12 (by kernel_rfl) (by kernel_rfl)
              refine step_slot rfl rfl rfl (step_call (w1 := wx) (f := 32) (args := #[.agg #[.int .i64 s, .string key, .bool m, .string b, .bool d, .string a]]) rfl rfl ?_ ((HMAY.out wx).mono ?_))
              · skip
                go_simp
              · rintro e w' ⟨rfl, hq⟩
                exact ⟨_, rfl, hq, fun d hd => by cases hd; exact rfl⟩
            · obtain ⟨_, q13, rfl⟩ := hG.new 13 (by kernel_rfl) (by kernel_rfl)
              refine step_slot rfl rfl rfl (step_value (v := .bool false) (w' := wx) rfl rfl ?_ (Below.refl _ _) (fun d hd => by cases hd; exact rfl))
              go_simp
            · obtain ⟨_, q14, rfl⟩ := hG.new 14 (by kernel_rfl) (by kernel_rfl)
              refine step_slot rfl rfl rfl (step_value (v := .bool false) (w' := wx) rfl rfl ?_ (Below.refl _ _) (fun d hd => by cases hd; exact rfl))
              go_simp
            · obtain ⟨_, q15, rfl⟩ := hG.new 15 (by kernel_rfl) (by kernel_rfl)
              have q3 := hG.old 3 (by kernel_rfl) (by kernel_rfl)
              refine step_slot rfl rfl rfl (step_value (v := (.int .i64 k)) (w' := wx) rfl (by simp [Region.wanted, yielded, q15, undef]) ?_ (Below.refl _ _) (fun d hd => by cases hd; exact rfl))
              go_simp
            · obtain ⟨_, q15, rfl⟩ := hG.new 15 (by kernel_rfl) (by kernel_rfl)
              obtain ⟨_, q16, rfl⟩ := hG.new 16 (by kernel_rfl) (by kernel_rfl)
              refine step_slot rfl rfl rfl (step_value (v := .bool true) (w' := wx) rfl (by simp [Region.wanted, yielded, q15, undef]) ?_ (Below.refl _ _) (fun d hd => by cases hd; exact rfl))
              have hk0 := HK0.out
              go_simp
            · obtain ⟨_, q15, rfl⟩ := hG.new 15 (by kernel_rfl) (by kernel_rfl)
              obtain ⟨_, q17, rfl⟩ := hG.new 17 (by kernel_rfl) (by kernel_rfl)
              refine step_slot rfl rfl rfl (step_value (v := .bool true) (w' := wx) rfl (by simp [Region.wanted, yielded, q15, undef]) ?_ (Below.refl _ _) (fun d hd => by cases hd; exact rfl))
              go_simp
            · obtain ⟨_, q18, rfl⟩ := hG.new 18 (by kernel_rfl) (by kernel_rfl)
              have q4 := hG.old 4 (by kernel_rfl) (by kernel_rfl)
              refine step_slot rfl rfl rfl (step_value (v := (.pointer (some ⟨gz, 0, none⟩))) (w' := wx) rfl (by simp [Region.wanted, yielded, q18, undef]) ?_ (Below.refl _ _) (fun d hd => by cases hd; exact rfl))
              go_simp
            · obtain ⟨_, q18, rfl⟩ := hG.new 18 (by kernel_rfl) (by kernel_rfl)
              obtain ⟨_, q19, rfl⟩ := hG.new 19 (by kernel_rfl) (by kernel_rfl)
              have z0 := Box.cell (BZ.out.on hS) 0 rfl
              refine step_slot rfl rfl rfl (step_value (v := (.int .i64 s)) (w' := wx) rfl (by simp [Region.wanted, yielded, q18, undef]) ?_ (Below.refl _ _) (fun d hd => by cases hd; exact rfl))
              go_simp
            · obtain ⟨_, q18, rfl⟩ := hG.new 18 (by kernel_rfl) (by kernel_rfl)
              have q0 := hG.old 0 (by kernel_rfl) (by kernel_rfl)
              refine step_slot rfl rfl rfl (step_value (v := (.slice (some ad) n c)) (w' := wx) rfl (by simp [Region.wanted, yielded, q18, undef]) ?_ (Below.refl _ _) (fun d hd => by cases hd; exact rfl))
              go_simp
            · obtain ⟨_, q18, rfl⟩ := hG.new 18 (by kernel_rfl) (by kernel_rfl)
              have q3 := hG.old 3 (by kernel_rfl) (by kernel_rfl)
              refine step_slot rfl rfl rfl (step_value (v := (.int .i64 k)) (w' := wx) rfl (by simp [Region.wanted, yielded, q18, undef]) ?_ (Below.refl _ _) (fun d hd => by cases hd; exact rfl))
              go_simp
            · obtain ⟨_, q18, rfl⟩ := hG.new 18 (by kernel_rfl) (by kernel_rfl)
              obtain ⟨_, q22, rfl⟩ := hG.new 22 (by kernel_rfl) (by kernel_rfl)
              refine step_slot rfl rfl rfl (step_value (v := (.int .i64 j)) (w' := wx) rfl (by simp [Region.wanted, yielded, q18, undef]) ?_ (Below.refl _ _) (fun d hd => by cases hd; exact rfl))
              have hwk := HWK.out
              go_simp
            · obtain ⟨_, q18, rfl⟩ := hG.new 18 (by kernel_rfl) (by kernel_rfl)
              obtain ⟨_, q21, rfl⟩ := hG.new 21 (by kernel_rfl) (by kernel_rfl)
              obtain ⟨_, q23, rfl⟩ := hG.new 23 (by kernel_rfl) (by kernel_rfl)
              refine step_slot rfl rfl rfl (step_value (v := (.pointer (some (ad.add (j * 6))))) (w' := wx) rfl (by simp [Region.wanted, yielded, q18, undef]) ?_ (Below.refl _ _) (fun d hd => by cases hd; exact rfl))
              have hjn := HJN.out
              go_simp
            · obtain ⟨_, q18, rfl⟩ := hG.new 18 (by kernel_rfl) (by kernel_rfl)
              obtain ⟨_, q24, rfl⟩ := hG.new 24 (by kernel_rfl) (by kernel_rfl)
              refine step_slot rfl rfl rfl (step_value (v := (.pointer (some (ad.add (j * 6))))) (w' := wx) rfl (by simp [Region.wanted, yielded, q18, undef]) ?_ (Below.refl _ _) (fun d hd => by cases hd; exact rfl))
              go_simp
            · obtain ⟨_, q18, rfl⟩ := hG.new 18 (by kernel_rfl) (by kernel_rfl)
              obtain ⟨_, q25, rfl⟩ := hG.new 25 (by kernel_rfl) (by kernel_rfl)
              have z0 := ((show Below _ _ _ from hS).cell (lt_of_cell HPC.out)).trans HPC.out
              refine step_slot rfl rfl rfl (step_value (v := (.int .i64 ps)) (w' := wx) rfl (by simp [Region.wanted, yielded, q18, undef]) ?_ (Below.refl _ _) (fun d hd => by cases hd; exact rfl))
              go_simp
            · obtain ⟨_, q18, rfl⟩ := hG.new 18 (by kernel_rfl) (by kernel_rfl)
              obtain ⟨_, q20, rfl⟩ := hG.new 20 (by kernel_rfl) (by kernel_rfl)
              obtain ⟨_, q26, rfl⟩ := hG.new 26 (by kernel_rfl) (by kernel_rfl)
              refine step_slot rfl rfl rfl (step_value (v := .bool (decide (s ≤ ps))) (w' := wx) rfl (by simp [Region.wanted, yielded, q18, undef]) ?_ (Below.refl _ _) (fun d hd => by cases hd; exact rfl))
              go_simp
            · obtain ⟨_, q15, rfl⟩ := hG.new 15 (by kernel_rfl) (by kernel_rfl)
              obtain ⟨_, q18, rfl⟩ := hG.new 18 (by kernel_rfl) (by kernel_rfl)
              obtain ⟨_, q27, rfl⟩ := hG.new 27 (by kernel_rfl) (by kernel_rfl)
              refine step_slot rfl rfl rfl (step_value (v := .bool (decide (s ≤ ps))) (w' := wx) rfl (by simp [Region.wanted, yielded, q15, undef]) ?_ (Below.refl _ _) (fun d hd => by cases hd; exact rfl))
              go_simp
            · obtain ⟨_, q15, rfl⟩ := hG.new 15 (by kernel_rfl) (by kernel_rfl)
              obtain ⟨_, q28, rfl⟩ := hG.new 28 (by kernel_rfl) (by kernel_rfl)
              refine step_slot rfl rfl rfl (step_value (v := .bool (decide (s ≤ ps))) (w' := wx) rfl rfl ?_ (Below.refl _ _) (fun d hd => by cases hd; exact rfl))
              go_simp
          intro fv w8 hS8 _ hV8
          have e29 : fv 29 = .bool (decide (s ≤ ps)) := hV8 29 (by decide)
          simp only [puts, Act.put, List.setIfInBounds_toArray, List.set_cons_succ, List.set_cons_zero]
          clear hV8
          rw [e29]
          cases hD : decide (s ≤ ps) with
          | true =>
            have HD := Lib.hid hD
            clear hD
            have HB8 := Lib.hid (HBR2.out.trans ((show Below _ _ _ from hS8).mono HBR2.out.size))
            clear hS8
            go_wp2
            go_ret
            exact ⟨by rw [trail_f (i := k) (h := HKL.out) (fun hk => by have h1 := HOK.out.1 hk; have h2 := HD.out; simp only [decide_eq_true_eq] at h2; omega)]; rfl, HB8.out⟩
          | false =>
            have HD := Lib.hid hD
            clear hD
            have HB8 := Lib.hid (HBR2.out.trans ((show Below _ _ _ from hS8).mono HBR2.out.size))
            clear hS8
            go_wp2
            go_roundw
            case rel => exact ⟨k + 1, by go_num, by omega, HNEXT.out (HOK.out.2 (by have h2 := HD.out; simp only [decide_eq_false_iff_not] at h2; omega)), HB8.out⟩
            case measure => simp [intOf]; omega
    · have hkn : k = n := by omega
      have HE := Lib.hid (trail_all fun i h => HALL.out i h (by rw [HL.out] at h; omega))
      clear hkn
      go_wp2
      go_ret
      rw [HE.out]
      exact ⟨rfl, hbr⟩
theorem tright_v {v : Value} {l : List Ch} {w : World} (h : CV w v l) (hn : l.length ≤ maxLen) :
    Calls Try.prog 19 #[v] w fun e w' => e = .returned (.bool (trailB l)) ∧ Below w.heap.size w w' := by
  obtain ⟨A, c, rfl, h1, _⟩ := h
  exact tright_any A c l w h1 hn

end Go.Proofs.Ytgpjbajfkagdbaa
