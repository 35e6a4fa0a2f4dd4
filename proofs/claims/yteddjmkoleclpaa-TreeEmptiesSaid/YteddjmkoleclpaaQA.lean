/- The walk of pend.allNotes. -/
import Derived.Test.YteddjmkoleclpaaPrs
import Derived.Test.YteddjmkoleclpaaWRightN
import Derived.Test.YteddjmkoleclpaaPP
import Derived.Test.YteddjmkoleclpaaBB
import Derived.Test.YteddjmkoleclpaaNts
import Derived.Lib.AppendZerosOnto
import Derived.Lib.SliceRun
import Derived.Lib.Walk
import Derived.OwnWalk
set_option linter.unusedVariables false
set_option linter.unusedSimpArgs false
namespace Go.Proofs.Yteddjmkoleclpaa
open Go.RowKit

set_option maxRecDepth 100000 in
set_option maxHeartbeats 2000000 in
theorem pallnotes_any (A : Option Addr) (c : Nat) (l : List Nt) (w : World) (hA : Nts w w.heap.size A l) (hn : l.length ≤ maxLen) :
    Calls Try.prog 35 #[.slice A l.length c] w fun e w' => e = .returned (.bool (l.all rightN)) ∧ Below w.heap.size w w' := by
  unfold maxLen at hn
  obtain ⟨R, hR⟩ : ∃ R, R = l.all rightN := ⟨_, rfl⟩
  rw [← hR]
  have HY := Lib.hid (show (∀ i (h : i < l.length), rightN l[i] = true) → R = true from fun h => by
    rw [hR, List.all_eq_true]
    intro x hx
    obtain ⟨i, hi, rfl⟩ := List.getElem_of_mem hx
    exact h i hi)
  have HNo := Lib.hid (show ∀ i (h : i < l.length), rightN l[i] = false → R = false from fun i h h1 => by
    rw [hR, List.all_eq_false]
    exact ⟨l[i], List.getElem_mem _, by rw [h1]; simp⟩)
  clear hR
  obtain ⟨n, hl⟩ : ∃ n, l.length = n := ⟨_, rfl⟩
  rw [hl] at hn ⊢
  have HL := Lib.hid hl
  have HA := Lib.hid hA
  clear hl hA
  go_enter Try.func35, Try.ntmps35
  go_wp2
  go_loopw [7] (fun i wr => ∃ (k : Nat), i = .int .i64 k ∧ k ≤ n ∧ Hid (∀ i (h : i < l.length), i < k → rightN l[i] = true) ∧ Below w.heap.size w wr) (fun i _ => (n - intOf i).toNat)
  case atStart => exact ⟨0, rfl, by omega, fun i h h0 => by omega, Below.refl _ _⟩
  case round =>
    obtain ⟨k, rfl, hk, HG, hbr⟩ := hrel
    by_cases hlt : k < n
    · obtain ⟨ad, rfl, hab, hca⟩ := (HA.out.below hbr).seeN (by rw [HL.out]; omega)
      have hkl : k < l.length := by rw [HL.out]; exact hlt
      obtain ⟨c1, c2, c3, c4⟩ := hca k hkl
      obtain ⟨x, hx⟩ : ∃ x, x = l[k]'hkl := ⟨_, rfl⟩
      rw [← hx] at c1 c2 c3 c4
      have HX := Lib.hid hx
      clear hx hca
      obtain ⟨xk, xkey, xval, xn⟩ := x
      simp only at c1 c2 c3 c4
      have hlt3 : (ad.add (k * 4)).block < w.heap.size := by rw [block_of_add]; exact hab
      have hbs := hbr.size
      go_wp2_with fail
      refine (right_any xk xkey xval xn _).mono ?_
      rintro e w1 ⟨rfl, hb1⟩
      have hbr1 : Below w.heap.size w w1 := (hbr.alloc hbs _).trans (hb1.mono (by simp; omega))
      clear hb1 c1 c2 c3 c4
      cases hf : rightN ⟨xk, xkey, xval, xn⟩ with
      | false =>
        have HE := Lib.hid (HNo.out k hkl (by rw [← HX.out]; exact hf))
        clear hf
        go_wp2
        go_ret
        rw [HE.out]
        exact ⟨rfl, hbr1⟩
      | true =>
        have HG2 := Lib.hid (show ∀ i (h : i < l.length), i < k + 1 → rightN l[i] = true from fun i h h1 => by
          by_cases hi : i < k
          · exact HG.out i h hi
          · have : i = k := by omega
            subst this
            rw [← HX.out]; exact hf)
        clear hf HG
        go_wp2
        go_roundw
        case rel => exact ⟨k + 1, by go_num, by omega, HG2, hbr1⟩
        case measure => simp [intOf]; omega
    · have HE := Lib.hid (HY.out fun i h => HG.out i h (by rw [HL.out] at h; omega))
      go_wp2
      go_ret
      rw [HE.out]
      exact ⟨rfl, hbr⟩

end Go.Proofs.Yteddjmkoleclpaa

namespace Go.Proofs.Yteddjmkoleclpaa
open Go.RowKit

set_option maxHeartbeats 1000000 in
set_option maxRecDepth 100000 in
theorem prise_any (A : Option Addr) (c : Nat) (l : List ByteArray) (w : World) (hA : Strs w w.heap.size A l) (hn : l.length ≤ 1000000) :
    Calls Try.prog 84 #[.slice A l.length c] w fun e w' => e = .returned (.bool (risesS l)) ∧ Below w.heap.size w w' := by
  obtain ⟨R, hR⟩ : ∃ R, R = risesS l := ⟨_, rfl⟩
  rw [← hR]
  have HY := Lib.hid (show (∀ i (h : i < l.length), 0 < i → l[i - 1] < l[i]) → R = true from fun h => by rw [hR]; exact (risesS_iff l).2 h)
  have HNo := Lib.hid (show ∀ i (h : i < l.length), 0 < i → ¬ l[i - 1] < l[i] → R = false from fun i h h0 hn => by rw [hR]; exact risesS_no i h h0 hn)
  clear hR
  obtain ⟨n, hl⟩ : ∃ n, l.length = n := ⟨_, rfl⟩
  rw [hl] at hn ⊢
  have HL := Lib.hid hl
  have HA := Lib.hid hA
  clear hl hA
  go_enter Try.func84, Try.ntmps84
  go_wp2
  go_loopw [7] (fun i wr => ∃ (k : Nat), i = .int .i64 k ∧ k ≤ n ∧ Hid (∀ i (h : i < l.length), 0 < i → i < k → l[i - 1] < l[i]) ∧ Below w.heap.size w wr) (fun i _ => (n - intOf i).toNat)
  case atStart => exact ⟨0, rfl, by omega, fun i h h0 h1 => by omega, Below.refl _ _⟩
  case round =>
    obtain ⟨k, rfl, hk, HG, hbr⟩ := hrel
    by_cases hlt : k < n
    · obtain ⟨ad, rfl, hab, hca⟩ := (HA.out.below hbr) (by rw [HL.out]; omega)
      have hkl : k < l.length := by rw [HL.out]; exact hlt
      have c2 := hca k hkl
      obtain ⟨xe, hxe⟩ : ∃ x, x = l[k]'hkl := ⟨_, rfl⟩
      rw [← hxe] at c2
      have HX := Lib.hid hxe
      clear hxe
      by_cases hk0 : k = 0
      · have HG2 := Lib.hid (show ∀ i (h : i < l.length), 0 < i → i < k + 1 → l[i - 1] < l[i] from fun i h h0 h1 => by omega)
        have hd : decide ((0 : Int) < (k : Int)) = false := by simp; omega
        have hd' : decide (0 < k) = false := by simp; omega
        clear HG hca hk0
        go_wp2
        first | go_quiet (fail) | skip
        first | go_wp2 | skip
        go_roundw
        case rel => exact ⟨k + 1, by go_num, by omega, HG2.out, by first | exact hbr | exact below_drewN hbr _⟩
        case measure => simp [intOf]; omega
      · have hd : decide ((0 : Int) < (k : Int)) = true := by simp; omega
        have hd' : decide (0 < k) = true := by simp; omega
        obtain ⟨kp, hkp⟩ : ∃ kp, kp = k - 1 := ⟨_, rfl⟩
        have hkpl : kp < l.length := by omega
        have hk1 : k - 1 < l.length := by omega
        have wk : IntKind.i64.wrap ((k : Int) - 1) = (kp : Int) := by rw [IntKind.wrap_i64]; omega
        have hkn : kp < n := by omega
        have d2 := hca kp hkpl
        obtain ⟨pe, hpe⟩ : ∃ x, x = l[kp]'hkpl := ⟨_, rfl⟩
        rw [← hpe] at d2
        have HP := Lib.hid (show l[k - 1]'hk1 = pe from by rw [hpe]; congr 1; exact hkp.symm)
        clear hpe hca
        by_cases hkk : pe < xe
        · have hles : Op.bytesLess pe.toList xe.toList = true := lt_iff.1 hkk
          have HG2 := Lib.hid (show ∀ i (h : i < l.length), 0 < i → i < k + 1 → l[i - 1] < l[i] from fun i h h0 h1 => by
            by_cases hi : i < k
            · exact HG.out i h h0 hi
            · have : i = k := by omega
              subst this
              rw [HP.out, ← HX.out]; exact hkk)
          clear HG hkk hkp hk0
          go_wp2
          first | go_quiet (fail) | skip
          first | go_wp2 | skip
          go_roundw
          case rel => exact ⟨k + 1, by go_num, by omega, HG2.out, by first | exact hbr | exact below_drewN hbr _⟩
          case measure => simp [intOf]; omega
        · have hles : Op.bytesLess pe.toList xe.toList = false := by
            have h1 : ltS pe xe = false := by rw [ltS_eq]; exact decide_eq_false hkk
            exact h1
          have HE := Lib.hid (HNo.out k hkl (by omega) (by rw [HP.out, ← HX.out]; exact hkk))
          clear HG hkk hkp hk0
          go_wp2
          first | go_quiet (fail) | skip
          first | go_wp2 | skip
          go_ret
          rw [HE.out]
          exact ⟨rfl, by first | exact hbr | exact below_drewN hbr _⟩
    · have HE := Lib.hid (HY.out fun i h h0 => HG.out i h h0 (by rw [HL.out] at h; omega))
      go_wp2
      go_ret
      rw [HE.out]
      exact ⟨rfl, hbr⟩

end Go.Proofs.Yteddjmkoleclpaa

namespace Go.Proofs.Yteddjmkoleclpaa
open Go.RowKit

theorem zero_size (cs : Array Value) (k : Nat) : (Builtin.zeroCells cs k).size = k * cs.size := by simp [Builtin.zeroCells]
set_option maxHeartbeats 2000000 in
set_option maxRecDepth 100000 in
theorem grow_nil (n : Nat) (w : World) (hn : n ≤ 1000000) :
    Calls Try.prog 65 #[.slice none 0 0, .int .i64 n] w fun e w' => ∃ v', e = .returned v' ∧ w'.ownsRow w.heap.size 52 4 v' 0 [] ∧ Below w.heap.size w w' := by
  by_cases h0 : n = 0
  · subst h0
    go_enter Try.func65, Try.ntmps65
    go_wp2
    go_ret
    exact ⟨_, rfl, World.ownsRow_nil _ _ _ _, Below.refl _ _⟩
  · obtain ⟨i0, hi0, hz0, hz1, hz2⟩ := info_parts note_info
    have hold : (Builtin.firstCells i0.size 0 (.slice none 0 0)).run Try.prog w.drew = .ok (([] : List Value).toArray) w.drew := run_firstCells_none w.drew i0.size 0 0 0
    obtain ⟨G, hG⟩ : ∃ G, G = grownCap w n 0 52 := ⟨_, rfl⟩
    have hGn : n ≤ G := by rw [hG]; exact grownCap_ge w _ _ _
    have hGm : G ≤ maxLen := by rw [hG]; exact grownCap_le_maxLen w n 0 _ (by unfold maxLen; omega)
    have hrz : ∃ C : Array Value, C.size = G * 4 ∧ ∀ ty, (Builtin.append_ #[27, 3] ty #[.slice none 0 0, .int .i64 (n : Int)]).run Try.prog w =
        .ok (.slice (some ⟨w.heap.size, 0, none⟩) n G) (w.drew.alloc (.cells C 52)) := by
      have h := fun ty => Lib.run_append_grow_zeros w 27 3 ty 52 i0 (.agg #[.int .i64 0, .string ⟨#[]⟩, .string ⟨#[]⟩, .int .u64 0]) .i64 .i64 Try.underlying27 Try.underlying3 hi0 hz0 none 0 0 [] hold n (by omega) (by omega) (by omega) (by omega) (by rw [hz2]; omega)
        (by have h2 := growslice_fits (need := 0 + n) (old := 0) (bytes := i0.bytes) (by omega) (by rw [hz2]; omega)
            exact h2)
      simp only [Nat.zero_add] at h
      rw [← hG] at h
      refine ⟨_, ?_, h⟩
      simp [zero_size]
      show n * 4 + (G - n) * 4 = G * 4
      omega
    obtain ⟨C, hC, hrz⟩ := hrz
    have hGI : (G : Int) ≤ 9223372036854775807 := by unfold maxLen at hGm; omega
    have HC := Lib.hid hC
    have HGM := Lib.hid hGm
    clear hold hG hC hi0 hz0 hz1 hz2 hGm
    go_enter Try.func65, Try.ntmps65
    go_wp2_with (at_builtin; refine Lib.wpList_append_run _ rfl _ _ _ _ rfl _ _ rfl rfl _ _ (hrz _) ?_)
    go_ret
    exact ⟨_, rfl, World.ownsRow_made w.drew C G (Nat.le_refl _) HGM.out HC.out, (Below.refl _ _).drew.alloc (Nat.le_refl _) _⟩

set_option maxHeartbeats 2000000 in
set_option maxRecDepth 100000 in
theorem concat_two (A B : Option Addr) (c d g : Nat) (T : TypeId) (l m : List Nt) (w : World) (hA : Nts w w.heap.size A l) (hB : Nts w w.heap.size B m) (zA : A = none → c = 0) (zB : B = none → d = 0)
    (hbx : Box w g T #[.slice A l.length c, .slice B m.length d]) (hn : l.length + m.length ≤ 1000000) :
    Calls Try.prog 37 #[.slice (some ⟨g, 0, none⟩) 2 2] w fun e w' => ∃ v', e = .returned v' ∧ w'.ownsRow w.heap.size 52 4 v' (l.length + m.length) ((l ++ m).flatMap Nt.cells) ∧ Below w.heap.size w w' := by
  obtain ⟨n, hl⟩ : ∃ n, l.length = n := ⟨_, rfl⟩
  obtain ⟨q, hm⟩ : ∃ q, m.length = q := ⟨_, rfl⟩
  rw [hl, hm] at hbx hn ⊢
  have HL := Lib.hid hl
  have HM := Lib.hid hm
  have HA := Lib.hid hA
  have HB := Lib.hid hB
  have ZA := Lib.hid zA
  have ZB := Lib.hid zB
  have hgl := Box.lt hbx
  have HX := Lib.hid hbx
  obtain ⟨s, hs⟩ : ∃ s, s = n + q := ⟨_, rfl⟩
  have hg := fun W => grow_nil s W (by omega)
  have HG := Lib.hid hg
  have wnq : IntKind.i64.wrap ((n : Int) + (q : Int)) = (s : Int) := by rw [IntKind.wrap_i64]; omega
  have hsn : s ≤ 1000000 := by omega
  have wn : IntKind.i64.wrap (n : Int) = (n : Int) := by rw [IntKind.wrap_i64]; omega
  have HS := Lib.hid hs
  have hn0 : decide ((n : Int) < 0) = false := by simp
  have hs0 : decide ((s : Int) < 0) = false := by simp
  have k0 : w.cell? ⟨g, 0, none⟩ = some (.slice A n c) := Box.cell hbx 0 rfl
  have k1 : w.cell? ⟨g, 1, none⟩ = some (.slice B q d) := Box.cell hbx 1 rfl
  clear hl hm hA hB zA zB hbx hg hs hn
  go_enter Try.func37, Try.ntmps37
  go_wp2
  go_loopw [3, 11] (fun sv iv wr => wr = w ∧ ((iv = .int .i64 0 ∧ sv = .int .i64 0) ∨ (iv = .int .i64 1 ∧ sv = .int .i64 n) ∨ (iv = .int .i64 2 ∧ sv = .int .i64 s))) (fun _ iv _ => (2 - intOf iv).toNat)
  case atStart => exact ⟨rfl, .inl ⟨rfl, rfl⟩⟩
  case round =>
    obtain ⟨hwe, hcase⟩ := hrel
    replace hwe := hwe.symm
    subst hwe
    rcases hcase with ⟨rfl, rfl⟩ | ⟨rfl, rfl⟩ | ⟨rfl, rfl⟩
    · go_wp2
      go_roundw
      case rel => exact ⟨by first | trivial | rfl, .inr (.inl ⟨rfl, rfl⟩)⟩
      case measure => simp [intOf]
    · go_wp2
      go_roundw
      case rel => exact ⟨by first | trivial | rfl, .inr (.inr ⟨rfl, rfl⟩)⟩
      case measure => simp [intOf]
    · clear k0 k1
      go_wp2_with fail
      refine (HG.out _).mono ?_
      rintro e w1 ⟨v1, rfl, hown, hb1⟩
      have HO1 := Lib.hid hown
      have HB1 := Lib.hid hb1
      have k0 : w1.cell? ⟨g, 0, none⟩ = some (.slice A n c) := Box.cell (HX.out.on hb1) 0 rfl
      have k1 : w1.cell? ⟨g, 1, none⟩ = some (.slice B q d) := Box.cell (HX.out.on hb1) 1 rfl
      clear hown hb1
      go_wp2
      go_loopw [6, 27] (fun av iv wq => (iv = .int .i64 0 ∧ Hid (av = v1 ∧ wq = w1)) ∨ (iv = .int .i64 1 ∧ Hid (Below w.heap.size w wq ∧ wq.ownsRow w.heap.size 52 4 av n (l.flatMap Nt.cells))) ∨ (iv = .int .i64 2 ∧ Hid (Below w.heap.size w wq ∧ wq.ownsRow w.heap.size 52 4 av s ((l ++ m).flatMap Nt.cells)))) (fun _ iv _ => (2 - intOf iv).toNat)
      case atStart => exact .inl ⟨rfl, rfl, rfl⟩
      case round =>
        rcases hrel with ⟨rfl, H⟩ | ⟨rfl, H⟩ | ⟨rfl, H⟩
        · obtain ⟨e1, e2⟩ := H.out
          subst e1
          replace e2 := e2.symm
          subst e2
          have hown := HO1.out
          go_wp2_with (at_builtin; refine append_nts _ rfl _ _ rfl w.heap.size _ 0 [] rfl hown w.heap.size A n c l rfl HL.out (HA.out.below HB1.out) ZA.out ?a2 HB1.out.size ?_)
          case a2 => have := HS.out; omega
          intro v' w' hown' hg'
          have HF := Lib.hid (show Below w.heap.size w w' ∧ w'.ownsRow w.heap.size 52 4 v' n (l.flatMap Nt.cells) from ⟨HB1.out.grown hg' HB1.out.size (fun k hk => (hown.lt k hk).1), by simpa using hown'⟩)
          clear hown hown' hg'
          go_wp2
          go_roundw
          case rel => exact .inr (.inl ⟨rfl, HF⟩)
          case measure => simp [intOf]
        · obtain ⟨hbq, hown⟩ := H.out
          have HBQ := Lib.hid hbq
          have k1 : wr.cell? ⟨g, 1, none⟩ = some (.slice B q d) := Box.cell (HX.out.on hbq) 1 rfl
          clear hbq H
          go_wp2_with (at_builtin; refine append_nts _ rfl _ _ rfl w.heap.size _ n (l.flatMap Nt.cells) rfl hown w.heap.size B q d m rfl HM.out (HB.out.below HBQ.out) ZB.out ?a2 HBQ.out.size ?_)
          case a2 => have := HS.out; omega
          intro v' w' hown' hg'
          have HF := Lib.hid (show Below w.heap.size w w' ∧ w'.ownsRow w.heap.size 52 4 v' s ((l ++ m).flatMap Nt.cells) from ⟨HBQ.out.grown hg' HBQ.out.size (fun k hk => (hown.lt k hk).1), by rw [HS.out, List.flatMap_append]; exact hown'⟩)
          clear hown hown' hg' k1
          go_wp2
          go_roundw
          case rel => exact .inr (.inr ⟨rfl, HF⟩)
          case measure => simp [intOf]
        · go_wp2
          go_ret
          exact ⟨_, rfl, by rw [← HS.out]; exact H.out.2, H.out.1⟩

end Go.Proofs.Yteddjmkoleclpaa
