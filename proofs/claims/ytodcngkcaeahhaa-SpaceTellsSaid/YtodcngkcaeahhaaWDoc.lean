/- The walk of the document's Right. -/
import Derived.Test.YtodcngkcaeahhaaWBefore
namespace Go.Proofs.Ytodcngkcaeahhaa
open Go.RowKit

theorem take_ok {f t : Int} {l : List Ex} (h : Ok f t l) (k : Nat) : Ok f t (l.take k) :=
  ⟨h.1, fun x hx => h.2.1 x (List.mem_of_mem_take hx), h.2.2.sublist (List.take_sublist k l)⟩
theorem not_in {f t : Int} {l : List Ex} {k : Nat} (hk : k < l.length) (h : ¬ InE f t l[k]) : ¬ Ok f t l := fun ho => h (ho.2.1 _ (List.getElem_mem hk))
theorem not_dis {f t : Int} {l : List Ex} {j k : Nat} (hk : k < l.length) (hj : j < k) (h : ¬ Dis l[k] (l[j]'(by omega))) : ¬ Ok f t l := fun ho => h ((List.pairwise_iff_getElem.1 ho.2.2 j k (by omega) hk hj).symm)

set_option maxHeartbeats 2000000 in
set_option maxRecDepth 100000 in
theorem dright_any (f t : Int) (A : Option Addr) (c : Nat) (l : List Ex) (w : World) (hA : Exs w w.heap.size A l) (hn : l.length ≤ 100000) :
    Calls Try.prog 17 #[.int .i64 f, .int .i64 t, .slice A l.length c] w fun e w' => e = .returned (.bool (decide (Ok f t l))) ∧ Below w.heap.size w w' := by
  generalize hl : l.length = n at *
  have HL := Lib.hid hl
  have HA := Lib.hid hA
  clear hl hA
  by_cases h1 : f < 0
  · have HE := Lib.hid (decide_eq_false (show ¬ Ok f t l from fun h => by have := h.1.1; omega))
    go_enter Try.func17, Try.ntmps17
    go_wp2
    go_ret
    rw [HE.out]
    exact ⟨rfl, Below.refl _ _⟩
  by_cases h2 : f > t
  · have HE := Lib.hid (decide_eq_false (show ¬ Ok f t l from fun h => by have := h.1.2.1; omega))
    go_enter Try.func17, Try.ntmps17
    go_wp2
    go_ret
    rw [HE.out]
    exact ⟨rfl, Below.refl _ _⟩
  by_cases h3 : t > 2147483647
  · have HE := Lib.hid (decide_eq_false (show ¬ Ok f t l from fun h => by have := h.1.2.2; omega))
    go_enter Try.func17, Try.ntmps17
    go_wp2
    go_ret
    rw [HE.out]
    exact ⟨rfl, Below.refl _ _⟩
  have HAR := Lib.hid (show Area f t from ⟨by omega, by omega, by omega⟩)
  go_enter Try.func17, Try.ntmps17
  go_wp2
  go_loopw [7] (fun i wr => ∃ (k : Nat), i = .int .i64 k ∧ k ≤ n ∧ Ok f t (l.take k) ∧ Below w.heap.size w wr) (fun i _ => (n - intOf i).toNat)
  case atStart => exact ⟨0, rfl, by omega, ⟨HAR.out, by simp, by simp⟩, Below.refl _ _⟩
  case round =>
    obtain ⟨k, rfl, hk, hok, hbr⟩ := hrel
    have HOK := Lib.hid hok
    clear hok
    by_cases hlt : k < n
    · obtain ⟨ad, rfl, hab, hca⟩ := (HA.out.below hbr).seeE (by rw [HL.out]; omega)
      obtain ⟨x1, x2⟩ := hca k (by rw [HL.out]; omega)
      have HT := Lib.hid (List.take_succ_eq_append_getElem (l := l) (i := k) (by rw [HL.out]; omega))
      have HNI := Lib.hid (show ¬ InE f t (l[k]'(by rw [HL.out]; omega)) → ¬ Ok f t l from fun h1 => not_in (by rw [HL.out]; omega) h1)
      have HND := Lib.hid (show ∀ (j : Nat) (hj : j < k), ¬ Dis (l[k]'(by rw [HL.out]; omega)) (l[j]'(by rw [HL.out]; omega)) → ¬ Ok f t l from fun j hj h1 => not_dis (by rw [HL.out]; omega) hj h1)
      obtain ⟨x, hx⟩ : ∃ x, x = l[k]'(by rw [HL.out]; omega) := ⟨_, rfl⟩
      rw [← hx] at x1 x2 HT HNI HND
      have HX := Lib.hid hx
      clear hx hca
      obtain ⟨xa, xn⟩ := x
      simp only at x1 x2
      have hlt3 : (ad.add (k * 2)).block < w.heap.size := by rw [block_of_add]; exact hab
      have hlw := hbr.size
      by_cases c1 : xn < 1
      · have HE := Lib.hid (decide_eq_false (HNI.out fun h => by have := h.2.1; simp only at this; omega))
        go_wp2
        go_quiet (fail)
        go_wp2
        go_ret
        rw [HE.out]
        exact ⟨rfl, below_drewN hbr _⟩
      have e1 : decide (xn < 1) = false := decide_eq_false c1
      by_cases c2 : xa < f
      · have HE := Lib.hid (decide_eq_false (HNI.out fun h => by have := h.1; simp only at this; omega))
        go_wp2
        go_quiet (fail)
        go_wp2
        go_ret
        rw [HE.out]
        exact ⟨rfl, below_drewN hbr _⟩
      have e2 : decide (xa < f) = false := decide_eq_false c2
      by_cases c3 : xa > t
      · have HE := Lib.hid (decide_eq_false (HNI.out fun h => by have := h.2; simp only at this; omega))
        go_wp2
        go_quiet (fail)
        go_wp2
        go_ret
        rw [HE.out]
        exact ⟨rfl, below_drewN hbr _⟩
      have e3 : decide (t < xa) = false := decide_eq_false c3
      have hwr : IntKind.i64.wrap (t - xa) = t - xa := IntWalk.i64_in _ (by omega)
      by_cases c4 : xn > t - xa
      · have HE := Lib.hid (decide_eq_false (HNI.out fun h => by have := h.2; simp only at this; omega))
        go_wp2
        go_quiet (fail)
        go_wp2
        go_ret
        rw [HE.out]
        exact ⟨rfl, below_drewN hbr _⟩
      have e4 : decide (t - xa < xn) = false := decide_eq_false c4
      have HIN := Lib.hid (show InE f t ⟨xa, xn⟩ from ⟨by simp only; omega, by simp only; omega, by simp only; omega⟩)
      go_wp2
      go_quiet (fail)
      go_wp2
      go_loopw [8] (fun i wx => ∃ (j : Nat), i = .int .i64 j ∧ j ≤ k ∧ (∀ y ∈ l.take j, Dis ⟨xa, xn⟩ y) ∧ Below w.heap.size w wx) (fun i _ => (k - intOf i).toNat)
      case atStart => exact ⟨0, rfl, by omega, by simp, below_drewN hbr _⟩
      case round =>
        obtain ⟨j, rfl, hj, hds, hbx⟩ := hrel
        have HDS := Lib.hid hds
        clear hds
        by_cases hlj : j < k
        · obtain ⟨ad', hadd, _, hca⟩ := (HA.out.below hbx).seeE (by rw [HL.out]; omega)
          injection hadd with hadd
          subst hadd
          obtain ⟨z1, z2⟩ := hca k (by rw [HL.out]; omega)
          obtain ⟨y1, y2⟩ := hca j (by rw [HL.out]; omega)
          have hin := HOK.out.2.1 (l[j]'(by rw [HL.out]; omega)) (by rw [List.mem_take_iff_getElem]; exact ⟨j, by rw [HL.out]; omega, rfl⟩)
          have HTJ := Lib.hid (List.take_succ_eq_append_getElem (l := l) (i := j) (by rw [HL.out]; omega))
          have HNJ := Lib.hid (HND.out j hlj)
          rw [← HX.out] at z1 z2
          obtain ⟨y, hy⟩ : ∃ y, y = l[j]'(by rw [HL.out]; omega) := ⟨_, rfl⟩
          rw [← hy] at y1 y2 hin HTJ HNJ
          clear hy hca
          obtain ⟨ya, yn⟩ := y
          obtain ⟨i1, i2, i3⟩ := hin
          simp only at y1 y2 z1 z2 i1 i2 i3
          have hlt4 : (ad.add (j * 2)).block < w.heap.size := by rw [block_of_add]; exact hab
          have hwy : IntKind.i64.wrap (ya + yn) = ya + yn := IntWalk.i64_in _ (by omega)
          have hwx : IntKind.i64.wrap (xa + xn) = xa + xn := IntWalk.i64_in _ (by omega)
          by_cases d1 : xa < ya + yn
          · by_cases d2 : ya < xa + xn
            · have HE := Lib.hid (decide_eq_false (HNJ.out fun h => by unfold Dis at h; simp only at h; omega))
              go_wp2
              go_quiet (fail)
              go_wp2
              go_ret
              rw [HE.out]
              exact ⟨rfl, below_drewN hbx _⟩
            · have e5 : decide (ya < xa + xn) = false := decide_eq_false d2
              have HD := Lib.hid (show ∀ y ∈ l.take (j + 1), Dis ⟨xa, xn⟩ y from fun y hy => by
                rw [HTJ.out] at hy
                rcases List.mem_append.1 hy with hy | hy
                · exact HDS.out y hy
                · simp at hy; subst hy; exact .inl (by simp only; omega))
              go_wp2
              go_quiet (fail)
              go_wp2
              go_roundw
              case rel => exact ⟨j + 1, by go_num, by omega, HD.out, below_drewN hbx _⟩
              case measure => simp [intOf]; omega
          · have e5 : decide (xa < ya + yn) = false := decide_eq_false d1
            have HD := Lib.hid (show ∀ y ∈ l.take (j + 1), Dis ⟨xa, xn⟩ y from fun y hy => by
              rw [HTJ.out] at hy
              rcases List.mem_append.1 hy with hy | hy
              · exact HDS.out y hy
              · simp at hy; subst hy; exact .inr (by simp only; omega))
            go_wp2
            go_quiet (fail)
            go_wp2
            go_roundw
            case rel => exact ⟨j + 1, by go_num, by omega, HD.out, below_drewN hbx _⟩
            case measure => simp [intOf]; omega
        · have HO2 := Lib.hid (show Ok f t (l.take (k + 1)) by
            rw [HT.out]
            exact ok_snoc HOK.out HIN.out (fun y hy => HDS.out y (by rwa [show j = k by omega])))
          go_wp2
          go_roundw
          case rel => exact ⟨k + 1, by go_num, by omega, HO2.out, hbx⟩
          case measure => simp [intOf]; omega
    · have HE := Lib.hid (decide_eq_true (show Ok f t l from by have h := HOK.out; rwa [List.take_of_length_le (by rw [HL.out]; omega)] at h))
      go_wp2
      go_ret
      rw [HE.out]
      exact ⟨rfl, hbr⟩

end Go.Proofs.Ytodcngkcaeahhaa
