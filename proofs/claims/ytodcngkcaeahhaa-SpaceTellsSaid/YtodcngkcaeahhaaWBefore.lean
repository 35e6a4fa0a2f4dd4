/- The walks of before and of the document's Same. -/
import Derived.Test.YtodcngkcaeahhaaWRefs
namespace Go.Proofs.Ytodcngkcaeahhaa
open Go.RowKit

set_option maxHeartbeats 1000000 in
theorem before_any (A : Option Addr) (c : Nat) (l : List Ex) (p : Int) (w : World) (hA : Exs w w.heap.size A l) (hn : l.length ≤ 100000) :
    Calls Try.prog 20 #[.slice A l.length c, .int .i64 p] w (ExsPost (l.filter fun x => decide (x.a < p)) w) := by
  obtain ⟨i0, hi0, hz0, hz1, hz2⟩ := info_parts ex_info
  generalize hl : l.length = n at *
  have HL := Lib.hid hl
  have HA := Lib.hid hA
  clear hl hA
  go_enter Try.func20, Try.ntmps20
  go_wp2
  go_loopw [5, 10] (fun v i wr => ∃ (k : Nat) (o : List Ex), i = .int .i64 k ∧ k ≤ n ∧ o = (l.take k).filter (fun x => decide (x.a < p)) ∧ wr.ownsRow w.heap.size 27 2 v o.length (o.flatMap Ex.cells) ∧ o.length ≤ k ∧ Below w.heap.size w wr) (fun _ i _ => (n - intOf i).toNat)
  case atStart => exact ⟨0, [], rfl, by omega, rfl, World.ownsRow_nil _ _ _ _, by simp, Below.refl _ _⟩
  case round =>
    obtain ⟨k, o, rfl, hk, ho, hown, hol, hbr⟩ := hrel
    obtain ⟨A2, c2, rfl⟩ := own_shape hown
    have HO := Lib.hid ho
    clear ho
    by_cases hlt : k < n
    · obtain ⟨ad, rfl, hab, hca⟩ := (HA.out.below hbr).seeE (by rw [HL.out]; omega)
      obtain ⟨x1, x2⟩ := hca k (by rw [HL.out]; omega)
      have HT := Lib.hid (List.take_succ_eq_append_getElem (l := l) (i := k) (by rw [HL.out]; omega))
      obtain ⟨x, hx⟩ : ∃ x, x = l[k]'(by rw [HL.out]; omega) := ⟨_, rfl⟩
      rw [← hx] at x1 x2 HT
      clear hx hca
      obtain ⟨xa, xn⟩ := x
      simp only at x1 x2
      have hlt3 : (ad.add (k * 2)).block < w.heap.size := by rw [block_of_add]; exact hab
      have hlw := hbr.size
      have HOW := Lib.hid (hown.alloc (.cells #[.int .i64 xa, .int .i64 xn] 27))
      have hbr1 : Below w.heap.size w (wr.alloc (.cells #[.int .i64 xa, .int .i64 xn] 27)) := hbr.alloc hbr.size _
      have HW := Lib.hid hbr1
      generalize hol' : o.length = ol at *
      have HOL := Lib.hid hol'
      clear hol' hown
      by_cases hqx : xa < p
      · have HE := Lib.hid (show o ++ [⟨xa, xn⟩] = (l.take (k + 1)).filter (fun x => decide (x.a < p)) by rw [HT.out, List.filter_append, ← HO.out, List.filter_cons, decide_eq_true hqx]; rfl)
        clear hbr1
        go_wp2_with (at_builtin; refine wpList_append_own _ rfl _ _ 22 rfl w.heap.size 27 i0 (.agg #[.int .i64 0, .int .i64 0]) 2 16 Try.underlying22 hi0 hz0 hz1 hz2 rfl (by decide) _ _ _ rfl (HOW.out.alloc _) ⟨wr.heap.size + 1, 0, none⟩ 1 1 [.int .i64 xa, .int .i64 xn] rfl rfl ?c1 ?c2 ?c3 ?c4 ?c5 ?_)
        case c1 =>
          intro j u hj
          match j, hj with
          | 0, hj => simp at hj; subst hj; simp [Addr.add]
          | 1, hj => simp at hj; subst hj; simp [Addr.add]
        case c2 => intro u hu; simp at hu; rcases hu with rfl | rfl <;> rfl
        case c3 => unfold maxLen; omega
        case c4 => omega
        case c5 => simp; omega
        intro v' w2 hown2 hg2 _
        have hbr2 : Below w.heap.size w w2 := (HW.out.alloc HW.out.size _).grown hg2 (by simp; omega) (fun k hk => by have := (HOW.out.lt k hk).1; omega)
        have HO2 := Lib.hid hown2
        clear hown2 hg2
        go_wp2
        go_roundw
        case rel => exact ⟨k + 1, o ++ [⟨xa, xn⟩], by go_num, by omega, HE.out, by simpa [Ex.cells, HOL.out] using HO2.out, by simp [HOL.out]; omega, hbr2⟩
        case measure => simp [intOf]; omega
      · have HE := Lib.hid (show o = (l.take (k + 1)).filter (fun x => decide (x.a < p)) by rw [HT.out, List.filter_append, ← HO.out, List.filter_cons, decide_eq_false hqx]; simp)
        go_wp2
        go_roundw
        case rel => exact ⟨k + 1, o, by go_num, by omega, HE.out, by rw [HOL.out]; exact HOW.out, by rw [HOL.out]; omega, hbr1⟩
        case measure => simp [intOf]; omega
    · have HE := Lib.hid (show o = l.filter (fun x => decide (x.a < p)) by rw [HO.out, List.take_of_length_le (by rw [HL.out]; omega)])
      have HO := Lib.hid (show Exs wr wr.heap.size A2 o from Lies.own Ex.cells2 hown)
      have HZ := Lib.hid (own_nil hown)
      generalize hol' : o.length = ol at *
      have HOL := Lib.hid hol'
      clear hown hol'
      go_wp2
      go_ret
      rw [← HE.out]
      exact ⟨A2, c2, by rw [HOL.out]; rfl, HO.out, hbr, HZ.out⟩

set_option maxHeartbeats 1000000 in
theorem same_one (A B : Option Addr) (c d : Nat) (l : List Ex) (w : World) (ha : Exs w w.heap.size A l) (hb : Exs w w.heap.size B l) (hla : l.length ≤ 100000) :
    Calls Try.prog 18 #[.slice A l.length c, .slice B l.length d] w fun e w' => e = .returned (.bool true) ∧ Below w.heap.size w w' := by
  generalize hn : l.length = n at *
  have Hn := Lib.hid hn
  have hne : ((n : Int) != (n : Int)) = false := by simp
  have Ha := Lib.hid ha
  have Hb := Lib.hid hb
  clear hn ha hb
  go_enter Try.func18, Try.ntmps18
  go_wp2
  go_loopw [5] (fun i wr => ∃ (k : Nat), i = .int .i64 k ∧ k ≤ n ∧ Below w.heap.size w wr) (fun i _ => (n - intOf i).toNat)
  case atStart => exact ⟨0, rfl, by omega, Below.refl _ _⟩
  case round =>
    obtain ⟨k, rfl, hk, hbr⟩ := hrel
    by_cases hlt : k < n
    · obtain ⟨a1, rfl, hab, hca⟩ := (Ha.out.below hbr).seeE (by rw [Hn.out]; omega)
      obtain ⟨b1, rfl, hbb, hcb⟩ := (Hb.out.below hbr).seeE (by rw [Hn.out]; omega)
      obtain ⟨c1, c2⟩ := hca k (by rw [Hn.out]; omega)
      obtain ⟨d1, d2⟩ := hcb k (by rw [Hn.out]; omega)
      generalize l[k]'(by rw [Hn.out]; omega) = x at *
      clear hca hcb
      obtain ⟨xa, xn⟩ := x
      simp only at c1 c2 d1 d2
      go_wp2
      go_quiet (fail)
      go_wp2
      go_roundw
      case rel => exact ⟨k + 1, by go_num, by omega, below_drewN hbr _⟩
      case measure => simp [intOf]; omega
    · go_wp2
      go_ret
      exact ⟨rfl, hbr⟩

end Go.Proofs.Ytodcngkcaeahhaa
