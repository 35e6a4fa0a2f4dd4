/- The walks of isArea, within, mayUse and gaps. -/
import Derived.Test.YtodcngkcaeahhaaExs
import Derived.WalkKit
import Derived.Maps.AppendAt
import Derived.Deep.AppendLies
import Derived.OwnWalk
namespace Go.Proofs.Ytodcngkcaeahhaa
open Go.RowKit

set_option maxHeartbeats 400000 in
theorem area_any (f t : Int) (w : World) :
    Calls Try.prog 29 #[.int .i64 f, .int .i64 t] w fun e w' => e = .returned (.bool (decide (Area f t))) ∧ w' = w := by
  by_cases h1 : 0 ≤ f
  · by_cases h2 : f ≤ t
    · by_cases h3 : t ≤ 2147483647
      · rw [decide_eq_true (show Area f t from ⟨h1, h2, h3⟩)]
        go_enter Try.func29, Try.ntmps29
        go_wp2
        go_ret
        exact ⟨rfl, rfl⟩
      · rw [decide_eq_false (show ¬ Area f t from fun h => h3 h.2.2)]
        go_enter Try.func29, Try.ntmps29
        go_wp2
        go_ret
        exact ⟨rfl, rfl⟩
    · rw [decide_eq_false (show ¬ Area f t from fun h => h2 h.2.1)]
      go_enter Try.func29, Try.ntmps29
      go_wp2
      go_ret
      exact ⟨rfl, rfl⟩
  · rw [decide_eq_false (show ¬ Area f t from fun h => h1 h.1)]
    go_enter Try.func29, Try.ntmps29
    go_wp2
    go_ret
    exact ⟨rfl, rfl⟩

set_option maxHeartbeats 400000 in
theorem within_any (a n q t : Int) (w : World) (hq : 0 ≤ q) (ht : t ≤ 2147483647) :
    Calls Try.prog 30 #[.agg #[.int .i64 a, .int .i64 n], .int .i64 q, .int .i64 t] w fun e w' => e = .returned (.bool (decide (InE q t ⟨a, n⟩))) ∧ Below w.heap.size w w' := by
  by_cases h1 : q ≤ a
  · by_cases h2 : a ≤ t
    · by_cases h3 : 0 < n
      · by_cases h4 : n ≤ t - a
        · rw [decide_eq_true (show InE q t ⟨a, n⟩ from ⟨h1, h3, by simp only; omega⟩)]
          go_enter Try.func30, Try.ntmps30
          go_wp2
          go_ret
          exact ⟨rfl, (Below.refl _ _).alloc (Nat.le_refl _) _⟩
        · rw [decide_eq_false (show ¬ InE q t ⟨a, n⟩ from fun h => h4 (by have := h.2.2; simp only at this; omega))]
          go_enter Try.func30, Try.ntmps30
          go_wp2
          go_ret
          exact ⟨rfl, (Below.refl _ _).alloc (Nat.le_refl _) _⟩
      · rw [decide_eq_false (show ¬ InE q t ⟨a, n⟩ from fun h => h3 h.2.1)]
        go_enter Try.func30, Try.ntmps30
        go_wp2
        go_ret
        exact ⟨rfl, (Below.refl _ _).alloc (Nat.le_refl _) _⟩
    · rw [decide_eq_false (show ¬ InE q t ⟨a, n⟩ from fun h => h2 (by have := h.2; simp only at this; omega))]
      go_enter Try.func30, Try.ntmps30
      go_wp2
      go_ret
      exact ⟨rfl, (Below.refl _ _).alloc (Nat.le_refl _) _⟩
  · rw [decide_eq_false (show ¬ InE q t ⟨a, n⟩ from fun h => h1 h.1)]
    go_enter Try.func30, Try.ntmps30
    go_wp2
    go_ret
    exact ⟨rfl, (Below.refl _ _).alloc (Nat.le_refl _) _⟩

theorem drop_at {l : List Ex} {k : Nat} (h : k < l.length) : l.drop k = l[k] :: l.drop (k + 1) := List.drop_eq_getElem_cons h

/-- An extent in a block of its own. -/
def EBlk (w : World) (g : Nat) (x : Ex) : Prop := Box w g 27 #[.int .i64 x.a, .int .i64 x.n]
theorem EBlk.cells {w : World} {g : Nat} {x : Ex} (h : EBlk w g x) : w.cell? ⟨g, 0, none⟩ = some (.int .i64 x.a) ∧ w.cell? ⟨g, 1, none⟩ = some (.int .i64 x.n) := ⟨Box.cell h 0 rfl, Box.cell h 1 rfl⟩

set_option maxHeartbeats 1000000 in
theorem may_any (f t : Int) (A : Option Addr) (c : Nat) (s : List Ex) (w : World) (hA : Exs w w.heap.size A s) (hn : s.length ≤ 1000000) :
    Calls Try.prog 22 #[.int .i64 f, .int .i64 t, .slice A s.length c] w fun e w' => e = .returned (.bool (decide (Area f t) && mayL t f s)) ∧ Below w.heap.size w w' := by
  generalize hl : s.length = n at *
  have HL := Lib.hid hl
  have HA := Lib.hid hA
  have hia := area_any f t w
  clear hl hA
  by_cases har : Area f t
  · rw [decide_eq_true har] at hia ⊢
    have HAR := Lib.hid har
    obtain ⟨ha1, ha2, ha3⟩ := har
    go_enter Try.func22, Try.ntmps22
    go_wp2_with fail
    refine hia.mono ?_
    clear hia
    rintro e w1 ⟨rfl, rfl⟩
    go_wp2
    go_loopw [7, 17] (fun nx i wr => ∃ (k : Nat) (q : Int), nx = .int .i64 q ∧ i = .int .i64 k ∧ k ≤ n ∧ mayL t f s = mayL t q (s.drop k) ∧ 0 ≤ q ∧ q ≤ t ∧ Below w1.heap.size w1 wr) (fun _ i _ => (n - intOf i).toNat)
    case atStart => exact ⟨0, f, rfl, rfl, by omega, rfl, ha1, ha2, Below.refl _ _⟩
    case round =>
      obtain ⟨k, q, rfl, rfl, hk, hm, hq0, hqt, hbr⟩ := hrel
      have HM := Lib.hid hm
      clear hm
      by_cases hlt : k < n
      · obtain ⟨ad, rfl, hab, hca⟩ := (HA.out.below hbr).seeE (by rw [HL.out]; omega)
        obtain ⟨x1, x2⟩ := hca k (by rw [HL.out]; omega)
        have HT := Lib.hid (drop_at (l := s) (k := k) (by rw [HL.out]; omega))
        obtain ⟨x, hx⟩ : ∃ x, x = s[k]'(by rw [HL.out]; omega) := ⟨_, rfl⟩
        rw [← hx] at x1 x2 HT
        clear hx hca
        obtain ⟨xa, xn⟩ := x
        simp only at x1 x2
        have hlt3 : (ad.add (k * 2)).block < w1.heap.size := by rw [block_of_add]; exact hab
        go_wp2_with fail
        refine (within_any xa xn q t _ hq0 ha3).mono ?_
        rintro e w2 ⟨rfl, hb2⟩
        have hbr2 : Below w1.heap.size w1 w2 := (hbr.alloc hbr.size _).trans (hb2.mono (by have := hbr.size; simp; omega))
        have hp : EBlk w2 wr.heap.size ⟨xa, xn⟩ := Box.on (Box.fresh wr _ _) hb2
        obtain ⟨p1, p2⟩ := EBlk.cells hp
        have hlp := Box.lt hp
        simp only at p1 p2
        clear hb2 x1 x2 hp
        by_cases hin : InE q t ⟨xa, xn⟩
        · rw [decide_eq_true hin]
          have HE := Lib.hid (show mayL t f s = mayL t (xa + xn) (s.drop (k + 1)) by rw [HM.out, HT.out, mayL, decide_eq_true hin, Bool.true_and])
          obtain ⟨i1, i2, i3⟩ := hin
          simp only at i1 i2 i3
          go_wp2
          go_roundw
          case rel => exact ⟨k + 1, xa + xn, by go_num, by go_num, by omega, HE.out, by omega, by omega, hbr2⟩
          case measure => simp [intOf]; omega
        · rw [decide_eq_false hin]
          have HE := Lib.hid (show mayL t f s = false by rw [HM.out, HT.out, mayL, decide_eq_false hin, Bool.false_and])
          clear hin
          go_wp2
          go_ret
          rw [HE.out]
          exact ⟨rfl, hbr2⟩
      · have HE := Lib.hid (show mayL t f s = true by rw [HM.out, List.drop_of_length_le (by rw [HL.out]; omega), mayL])
        go_wp2
        go_ret
        rw [HE.out]
        exact ⟨rfl, hbr⟩
  · rw [decide_eq_false har] at hia ⊢
    clear har
    go_enter Try.func22, Try.ntmps22
    go_wp2_with fail
    refine hia.mono ?_
    clear hia
    rintro e w1 ⟨rfl, rfl⟩
    go_wp2
    go_ret
    exact ⟨rfl, Below.refl _ _⟩

/-- What a call that hands back extents comes to. -/
def ExsPost (l : List Ex) (w : World) (e : Ending) (w' : World) : Prop :=
  ∃ (A : Option Addr) (c : Nat), e = .returned (.slice A l.length c) ∧ Exs w' w'.heap.size A l ∧ Below w.heap.size w w' ∧ (A = none → c = 0)
theorem own_nil {w : World} {base n k c m : Nat} {e : TypeId} {A : Option Addr} {xs : List Value} (h : w.ownsRow base e k (.slice A n c) m xs) : A = none → c = 0 := by
  rintro rfl
  rcases h.2 with ⟨hv, _⟩ | ⟨g, cap, cur, hv, _⟩
  · simpa using (Value.slice.inj hv).2.2
  · have := (Value.slice.inj hv).1
    cases this

set_option maxHeartbeats 2000000 in
theorem gaps_any (f t : Int) (A : Option Addr) (c : Nat) (s : List Ex) (w : World) (hA : Exs w w.heap.size A s) (hn : s.length ≤ 100000) (har : Area f t) (hmay : mayL t f s = true) :
    Calls Try.prog 23 #[.int .i64 f, .int .i64 t, .slice A s.length c] w (ExsPost (gapsL t f s) w) := by
  obtain ⟨i0, hi0, hz0, hz1, hz2⟩ := info_parts ex_info
  generalize hl : s.length = n at *
  have HL := Lib.hid hl
  have HA := Lib.hid hA
  have HMAY := Lib.hid hmay
  obtain ⟨ha1, ha2, ha3⟩ := har
  clear hl hA hmay
  go_enter Try.func23, Try.ntmps23
  go_wp2
  go_loopw [7, 8, 14] (fun v nx i wr => ∃ (k : Nat) (q : Int) (o : List Ex), nx = .int .i64 q ∧ i = .int .i64 k ∧ k ≤ n ∧ wr.ownsRow w.heap.size 27 2 v o.length (o.flatMap Ex.cells) ∧ o.length ≤ k ∧ gapsL t f s = o ++ gapsL t q (s.drop k) ∧ mayL t q (s.drop k) = true ∧ 0 ≤ q ∧ q ≤ t ∧ Below w.heap.size w wr) (fun _ _ i _ => (n - intOf i).toNat)
  case atStart => exact ⟨0, f, [], rfl, rfl, by omega, World.ownsRow_nil _ _ _ _, by simp, rfl, HMAY.out, ha1, ha2, Below.refl _ _⟩
  case round =>
    obtain ⟨k, q, o, rfl, rfl, hk, hown, hol, hg, hm, hq0, hqt, hbr⟩ := hrel
    obtain ⟨A2, c2, rfl⟩ := own_shape hown
    have HG := Lib.hid hg
    have HM := Lib.hid hm
    clear hg hm
    by_cases hlt : k < n
    · obtain ⟨ad, rfl, hab, hca⟩ := (HA.out.below hbr).seeE (by rw [HL.out]; omega)
      obtain ⟨x1, x2⟩ := hca k (by rw [HL.out]; omega)
      have HT := Lib.hid (drop_at (l := s) (k := k) (by rw [HL.out]; omega))
      obtain ⟨x, hx⟩ : ∃ x, x = s[k]'(by rw [HL.out]; omega) := ⟨_, rfl⟩
      rw [← hx] at x1 x2 HT
      clear hx hca
      obtain ⟨xa, xn⟩ := x
      simp only at x1 x2
      have hlt3 : (ad.add (k * 2)).block < w.heap.size := by rw [block_of_add]; exact hab
      have hmm := HM.out
      rw [HT.out, mayL, Bool.and_eq_true, decide_eq_true_eq] at hmm
      have HM1 := Lib.hid hmm.2
      obtain ⟨i1, i2, i3⟩ := hmm.1
      simp only at i1 i2 i3 HM1
      clear hmm
      have hlw := hbr.size
      have HLT := Lib.hid (fun k hk => (hown.lt k hk).2)
      have hown1 := hown.alloc (.cells #[.int .i64 xa, .int .i64 xn] 27)
      have hbr1 : Below w.heap.size w (wr.alloc (.cells #[.int .i64 xa, .int .i64 xn] 27)) := hbr.alloc hbr.size _
      generalize hol' : o.length = ol at *
      have HOL := Lib.hid hol'
      clear hol' hown
      by_cases hqx : q < xa
      · have HG1 := Lib.hid (show gapsL t f s = (o ++ [⟨q, xa - q⟩]) ++ gapsL t (xa + xn) (s.drop (k + 1)) by rw [HG.out, HT.out, gapsL, if_pos hqx, List.append_assoc])
        have HW := Lib.hid hbr1
        have HOW := Lib.hid hown1
        clear hown1 hbr1
        go_wp2_with (at_builtin; refine wpList_append_own _ rfl _ _ 22 rfl w.heap.size 27 i0 (.agg #[.int .i64 0, .int .i64 0]) 2 16 Try.underlying22 hi0 hz0 hz1 hz2 rfl (by decide) _ _ _ rfl (HOW.out.alloc _) ⟨wr.heap.size + 1, 0, none⟩ 1 1 [.int .i64 q, .int .i64 (xa - q)] rfl rfl ?c1 ?c2 ?c3 ?c4 ?c5 ?_)
        case c1 =>
          intro j u hj
          match j, hj with
          | 0, hj => simp at hj; subst hj; simp [Addr.add]
          | 1, hj => simp at hj; subst hj; simp [Addr.add]
        case c2 => intro u hu; simp at hu; rcases hu with rfl | rfl <;> rfl
        case c3 => unfold maxLen; omega
        case c4 => omega
        case c5 => have := hbr.size; simp; omega
        intro v' w2 hown2 hg2 _
        have hbr2 : Below w.heap.size w w2 := (HW.out.alloc HW.out.size _).grown hg2 (by simp; omega) (fun k hk => by have := (HOW.out.lt k hk).1; omega)
        have hp : EBlk w2 wr.heap.size ⟨xa, xn⟩ := Box.grown (Box.push (Box.fresh wr _ _) _) hg2 (fun e => by
          have h1 := HLT.out _ e.symm
          omega)
        obtain ⟨p1, p2⟩ := EBlk.cells hp
        have hlp := Box.lt hp
        simp only at p1 p2
        have HO2 := Lib.hid hown2
        clear hown2 hg2 hp
        go_wp2
        go_roundw
        case rel => exact ⟨k + 1, xa + xn, o ++ [⟨q, xa - q⟩], by go_num, by go_num, by omega, by simpa [Ex.cells, HOL.out] using HO2.out, by simp [HOL.out]; omega, HG1.out, HM1.out, by omega, by omega, hbr2⟩
        case measure => simp [intOf]; omega
      · have HG1 := Lib.hid (show gapsL t f s = o ++ gapsL t (xa + xn) (s.drop (k + 1)) by rw [HG.out, HT.out, gapsL, if_neg hqx, List.nil_append])
        have HOW := Lib.hid hown1
        clear hown1
        go_wp2
        go_roundw
        case rel => exact ⟨k + 1, xa + xn, o, by go_num, by go_num, by omega, by rw [HOL.out]; exact HOW.out, by rw [HOL.out]; omega, HG1.out, HM1.out, by omega, by omega, hbr1⟩
        case measure => simp [intOf]; omega
    · have HG1 := Lib.hid (show gapsL t f s = o ++ (if q < t then [⟨q, t - q⟩] else []) by rw [HG.out, List.drop_of_length_le (by rw [HL.out]; omega), gapsL])
      have HOW := Lib.hid hown
      generalize hol' : o.length = ol at *
      have HOL := Lib.hid hol'
      clear hol' hown
      by_cases hqt2 : q < t
      · rw [if_pos hqt2] at HG1
        go_wp2_with (at_builtin; refine wpList_append_own _ rfl _ _ 22 rfl w.heap.size 27 i0 (.agg #[.int .i64 0, .int .i64 0]) 2 16 Try.underlying22 hi0 hz0 hz1 hz2 rfl (by decide) _ _ _ rfl (HOW.out.alloc _) ⟨wr.heap.size, 0, none⟩ 1 1 [.int .i64 q, .int .i64 (t - q)] rfl rfl ?c1 ?c2 ?c3 ?c4 ?c5 ?_)
        case c1 =>
          intro j u hj
          match j, hj with
          | 0, hj => simp at hj; subst hj; simp [Addr.add]
          | 1, hj => simp at hj; subst hj; simp [Addr.add]
        case c2 => intro u hu; simp at hu; rcases hu with rfl | rfl <;> rfl
        case c3 => unfold maxLen; omega
        case c4 => omega
        case c5 => have := hbr.size; simp; omega
        intro v' w2 hown2 hg2 _
        have hbr2 : Below w.heap.size w w2 := (hbr.alloc hbr.size _).grown hg2 (by have := hbr.size; simp; omega) (fun k hk => by have := (HOW.out.lt k hk).1; omega)
        have hown3 : w2.ownsRow w.heap.size 27 2 v' (o ++ [⟨q, t - q⟩] : List Ex).length ((o ++ [⟨q, t - q⟩] : List Ex).flatMap Ex.cells) := by simpa [Ex.cells, HOL.out] using hown2
        obtain ⟨A3, c3, rfl⟩ := own_shape hown3
        have HO3 := Lib.hid (Lies.own Ex.cells2 hown3)
        have HZ3 := Lib.hid (own_nil hown3)
        have HLE := Lib.hid (show (o ++ [⟨q, t - q⟩] : List Ex).length = (gapsL t f s).length by rw [HG1.out])
        clear hown2 hg2 hown3
        generalize (o ++ [⟨q, t - q⟩] : List Ex).length = len at *
        go_wp2
        go_ret
        exact ⟨A3, c3, by rw [HLE.out]; rfl, by rw [HG1.out]; exact HO3.out, hbr2, HZ3.out⟩
      · rw [if_neg hqt2, List.append_nil] at HG1
        go_wp2
        go_ret
        exact ⟨A2, c2, by rw [HG1.out, HOL.out]; rfl, by rw [HG1.out]; exact Lies.own Ex.cells2 (by rw [HOL.out]; exact HOW.out), hbr, own_nil HOW.out⟩

end Go.Proofs.Ytodcngkcaeahhaa
