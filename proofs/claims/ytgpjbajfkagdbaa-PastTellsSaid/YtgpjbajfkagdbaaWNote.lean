/- The walks of Right, Number, added, Done, addedTo and Both. -/
import Derived.Test.YtgpjbajfkagdbaaNts
import Derived.BigQuiet
import Derived.Deep.QuietTactic
set_option linter.unusedVariables false
set_option linter.unusedSimpArgs false
namespace Go.Proofs.Ytgpjbajfkagdbaa
open Go.RowKit

theorem str_some {x : ByteArray} (h : x ≠ noB) : x.toList.isEmpty = false := by
  cases hx : x.toList with
  | nil =>
    rw [ByteArray.toList_eq] at hx
    exact absurd (ByteArray.ext (Array.toList_inj.1 hx)) h
  | cons _ _ => rfl
theorem u64_add (x y : UInt64) : IntKind.u64.wrap ((x.toNat : Int) + (y.toNat : Int)) = ((x + y).toNat : Int) := by
  rw [UInt64.toNat_add]
  simp [IntKind.wrap, IntKind.bits, IntKind.signed]

set_option maxRecDepth 100000 in
set_option maxHeartbeats 1000000 in
theorem number_any (s : ByteArray) (w : World) :
    Calls Try.prog 81 #[.string s] w fun e w' => e = .returned (.int .u64 ((numB s).toNat : Int)) ∧ Below w.heap.size w w' := by
  by_cases h : s.size < 8
  · have hz : (0 : Int) = ((numB s).toNat : Int) := by unfold numB; rw [if_neg (by omega)]; rfl
    rw [← hz]
    clear hz
    go_enter Try.func81, Try.ntmps81
    go_wp2_with fail
    refine (take_short s 8 _ (by decide) (by decide) (by omega)).mono ?_
    rintro e w1 ⟨rfl, hb1⟩
    go_wp2
    go_ret
    exact ⟨rfl, hb1⟩
  · have ht := fun w => take_ok s 8 w (by decide) (by decide) (by omega)
    obtain ⟨r, hr⟩ : ∃ r, r = s.extract 8 s.size := ⟨_, rfl⟩
    obtain ⟨x, hx⟩ : ∃ x, x = val (s.data.toList.take 8) := ⟨_, rfl⟩
    rw [← hr, ← hx] at ht
    have HX := Lib.hid hx
    have hrs : r.size = s.size - 8 := by rw [hr]; simp
    clear hr hx
    by_cases h8 : s.size = 8
    · have hr0 : r = noB := by
        apply ByteArray.ext
        apply Array.eq_empty_of_size_eq_zero
        show r.size = 0
        omega
      subst hr0
      have hl : s.data.toList.length = 8 := by simpa using h8
      have hz : (x : Int) = ((numB s).toNat : Int) := by
        rw [HX.out, List.take_of_length_le (by omega)]
        unfold numB
        rw [if_pos h8]
        have h1 := val_lt s.data.toList
        rw [hl] at h1
        rw [UInt64.toNat_ofNat_of_lt' (by simpa using h1)]
      rw [← hz]
      clear hz hrs h h8 hl
      go_enter Try.func81, Try.ntmps81
      go_wp2_with fail
      refine (ht _).mono ?_
      clear ht
      rintro e w1 ⟨rfl, hb1⟩
      go_wp2
      go_ret
      exact ⟨rfl, hb1⟩
    · have hz : (0 : Int) = ((numB s).toNat : Int) := by unfold numB; rw [if_neg h8]; rfl
      rw [← hz]
      have hne : r ≠ noB := by
        intro e
        rw [e] at hrs
        have : noB.size = 0 := rfl
        omega
      have hs := str_some hne
      clear hz hne hrs h h8
      go_enter Try.func81, Try.ntmps81
      go_wp2_with fail
      refine (ht _).mono ?_
      clear ht
      rintro e w1 ⟨rfl, hb1⟩
      go_wp2
      go_ret
      exact ⟨rfl, hb1⟩

set_option maxRecDepth 100000 in
set_option maxHeartbeats 1000000 in
theorem added_any (s : ByteArray) (n : UInt64) (w : World) :
    Calls Try.prog 78 #[.string s, .int .u64 (n.toNat : Int)] w fun e w' => e = .returned (.string (be8 (numB s + n))) ∧ Below w.heap.size w w' := by
  have hu := u64_add (numB s) n
  have hn : ∀ w, Calls Try.prog 80 #[.int .u64 ((numB s + n).toNat : Int), .int .i64 8] w fun e w' => e = .returned (.tuple #[.string (be8 (numB s + n)), .int .i64 0]) ∧ Below w.heap.size w w' :=
    fun w => num_ok (numB s + n).toNat 8 w (by decide) (by decide) (numB s + n).toNat_lt (numB s + n).toNat_lt
  have hx := fun w => number_any s w
  generalize numB s + n = t at *
  generalize numB s = x at *
  have HU := Lib.hid hu
  clear hu
  go_enter Try.func78, Try.ntmps78
  go_wp2_with fail
  refine (hx _).mono ?_
  clear hx
  rintro e w1 ⟨rfl, hb1⟩
  go_wp2_with fail
  rw [HU.out]
  refine (hn _).mono ?_
  clear hn
  rintro e w2 ⟨rfl, hb2⟩
  go_wp2
  go_ret
  exact ⟨rfl, hb1.trans (hb2.mono hb1.size)⟩

set_option maxRecDepth 100000 in
set_option maxHeartbeats 2000000 in
theorem done_any (v : ByteArray) (has : Bool) (A : Option Addr) (c : Nat) (l : List Nt) (w : World) (hA : Nts w w.heap.size A l) (hn : l.length ≤ maxLen) :
    Calls Try.prog 71 #[.string v, .bool has, .slice A l.length c] w fun e w' => e = .returned (.tuple #[.string (doneL v has l).1, .bool (doneL v has l).2]) ∧ Below w.heap.size w w' := by
  unfold maxLen at hn
  obtain ⟨D, hD⟩ : ∃ D : Nat → Has, ∀ k, D k = doneL v has (l.take k) := ⟨_, fun _ => rfl⟩
  have e0 : D 0 = (if has then v else noB, has) := by rw [hD]; rfl
  have eS : ∀ (k : Nat) (x : Nt), l[k]? = some x → D (k + 1) = step (D k) x := fun k x hx => by
    obtain ⟨h, rfl⟩ := List.getElem?_eq_some_iff.1 hx
    rw [hD, hD, done_take v has l k h]
  have eN : doneL v has l = D l.length := by rw [hD, List.take_length]
  rw [eN]
  have HS := Lib.hid eS
  clear hD eS eN
  generalize hl : l.length = n at *
  have HL := Lib.hid hl
  have HA := Lib.hid hA
  clear hl hA
  have main : ∀ (has : Bool) (v u : ByteArray), D 0 = (u, has) → (has = true → u = v) → (has = false → u = noB) →
      Calls Try.prog 71 #[.string v, .bool has, .slice A n c] w fun e w' => e = .returned (.tuple #[.string (D n).1, .bool (D n).2]) ∧ Below w.heap.size w w' := by
    intro has v u h0 hy hno
    have H0 := Lib.hid h0
    clear h0 e0
    have tail : ∀ P : Prop, P → P := fun _ h => h
    cases has with
    | true =>
      obtain rfl := hy rfl
      clear hno hy
      go_enter Try.func71, Try.ntmps71
      go_wp2
      go_loopw [0, 1, 14] (fun s b i wr => ∃ (k : Nat), s = .string (D k).1 ∧ b = .bool (D k).2 ∧ i = .int .i64 k ∧ k ≤ n ∧ Below w.heap.size w wr) (fun _ _ i _ => (n - intOf i).toNat)
      case atStart => exact ⟨0, by rw [H0.out], by rw [H0.out], rfl, by omega, Below.refl _ _⟩
      case round =>
        obtain ⟨k, rfl, rfl, rfl, hk, hbr⟩ := hrel
        by_cases hlt : k < n
        · obtain ⟨ad, rfl, hab, hca⟩ := (HA.out.below hbr).seeN (by rw [HL.out]; omega)
          obtain ⟨c1, c2, c3, c4⟩ := hca k (by rw [HL.out]; omega)
          obtain ⟨x, hx⟩ : ∃ x, x = l[k]'(by rw [HL.out]; omega) := ⟨_, rfl⟩
          have HT := Lib.hid (HS.out k x (by rw [hx]; exact List.getElem?_eq_getElem _))
          rw [← hx] at c1 c2 c3 c4
          clear hx hca
          obtain ⟨xk, xkey, xval, xn⟩ := x
          simp only at c1 c2 c3 c4
          obtain ⟨s, hs⟩ : ∃ s, s = D k := ⟨_, rfl⟩
          rw [← hs] at HT ⊢
          clear hs
          obtain ⟨s1, s2⟩ := s
          have hlt3 : (ad.add (k * 4)).block < w.heap.size := by rw [block_of_add]; exact hab
          by_cases h1 : xk = 1
          · subst h1
            rw [step1 _ _ rfl] at HT
            go_wp2
            go_roundw
            case rel => exact ⟨k + 1, by rw [HT.out], by rw [HT.out], by go_num, by omega, hbr.alloc hbr.size _⟩
            case measure => simp [intOf]; omega
          · by_cases h2 : xk = 2
            · subst h2
              rw [step2 _ _ rfl] at HT
              clear h1
              go_wp2
              go_roundw
              case rel => exact ⟨k + 1, by rw [HT.out], by rw [HT.out], by go_num, by omega, hbr.alloc hbr.size _⟩
              case measure => simp [intOf]; omega
            · by_cases h3 : xk = 3
              · subst h3
                rw [step3 _ _ rfl] at HT
                clear h1 h2
                go_wp2_with fail
                refine (added_any _ xn _).mono ?_
                rintro e w1 ⟨rfl, hb1⟩
                have hbr1 : Below w.heap.size w w1 := (hbr.alloc hbr.size _).trans (hb1.mono (by have := hbr.size; simp; omega))
                clear hb1 c1 c2 c3 c4
                generalize be8 (numB s1 + xn) = t at *
                go_wp2
                go_roundw
                case rel => exact ⟨k + 1, by rw [HT.out], by rw [HT.out], by go_num, by omega, hbr1⟩
                case measure => simp [intOf]; omega
              · rw [step0 _ _ h1 h2 h3] at HT
                go_wp2
                go_roundw
                case rel => exact ⟨k + 1, by rw [HT.out], by rw [HT.out], by go_num, by omega, hbr.alloc hbr.size _⟩
                case measure => simp [intOf]; omega
        · have hkn : k = n := by omega
          subst hkn
          go_wp2
          go_ret2
          exact ⟨rfl, hbr⟩
    | false =>
      obtain rfl := hno rfl
      clear hno hy
      go_enter Try.func71, Try.ntmps71
      go_wp2
      go_loopw [0, 1, 14] (fun s b i wr => ∃ (k : Nat), s = .string (D k).1 ∧ b = .bool (D k).2 ∧ i = .int .i64 k ∧ k ≤ n ∧ Below w.heap.size w wr) (fun _ _ i _ => (n - intOf i).toNat)
      case atStart => exact ⟨0, by rw [H0.out], by rw [H0.out], rfl, by omega, Below.refl _ _⟩
      case round =>
        obtain ⟨k, rfl, rfl, rfl, hk, hbr⟩ := hrel
        by_cases hlt : k < n
        · obtain ⟨ad, rfl, hab, hca⟩ := (HA.out.below hbr).seeN (by rw [HL.out]; omega)
          obtain ⟨c1, c2, c3, c4⟩ := hca k (by rw [HL.out]; omega)
          obtain ⟨x, hx⟩ : ∃ x, x = l[k]'(by rw [HL.out]; omega) := ⟨_, rfl⟩
          have HT := Lib.hid (HS.out k x (by rw [hx]; exact List.getElem?_eq_getElem _))
          rw [← hx] at c1 c2 c3 c4
          clear hx hca
          obtain ⟨xk, xkey, xval, xn⟩ := x
          simp only at c1 c2 c3 c4
          obtain ⟨s, hs⟩ : ∃ s, s = D k := ⟨_, rfl⟩
          rw [← hs] at HT ⊢
          clear hs
          obtain ⟨s1, s2⟩ := s
          have hlt3 : (ad.add (k * 4)).block < w.heap.size := by rw [block_of_add]; exact hab
          by_cases h1 : xk = 1
          · subst h1
            rw [step1 _ _ rfl] at HT
            go_wp2
            go_roundw
            case rel => exact ⟨k + 1, by rw [HT.out], by rw [HT.out], by go_num, by omega, hbr.alloc hbr.size _⟩
            case measure => simp [intOf]; omega
          · by_cases h2 : xk = 2
            · subst h2
              rw [step2 _ _ rfl] at HT
              clear h1
              go_wp2
              go_roundw
              case rel => exact ⟨k + 1, by rw [HT.out], by rw [HT.out], by go_num, by omega, hbr.alloc hbr.size _⟩
              case measure => simp [intOf]; omega
            · by_cases h3 : xk = 3
              · subst h3
                rw [step3 _ _ rfl] at HT
                clear h1 h2
                go_wp2_with fail
                refine (added_any _ xn _).mono ?_
                rintro e w1 ⟨rfl, hb1⟩
                have hbr1 : Below w.heap.size w w1 := (hbr.alloc hbr.size _).trans (hb1.mono (by have := hbr.size; simp; omega))
                clear hb1 c1 c2 c3 c4
                generalize be8 (numB s1 + xn) = t at *
                go_wp2
                go_roundw
                case rel => exact ⟨k + 1, by rw [HT.out], by rw [HT.out], by go_num, by omega, hbr1⟩
                case measure => simp [intOf]; omega
              · rw [step0 _ _ h1 h2 h3] at HT
                go_wp2
                go_roundw
                case rel => exact ⟨k + 1, by rw [HT.out], by rw [HT.out], by go_num, by omega, hbr.alloc hbr.size _⟩
                case measure => simp [intOf]; omega
        · have hkn : k = n := by omega
          subst hkn
          go_wp2
          go_ret2
          exact ⟨rfl, hbr⟩
  refine main has v _ e0 (fun h => by rw [h]; rfl) (fun h => by rw [h]; rfl)

end Go.Proofs.Ytgpjbajfkagdbaa
