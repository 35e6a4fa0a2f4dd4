/- The walks of refs, before, small and of the document's Same. -/
import Derived.Test.YtodcngkcaeahhaaApp
namespace Go.Proofs.Ytodcngkcaeahhaa
open Go.RowKit

set_option maxHeartbeats 1000000 in
theorem refs_any (A : Option Addr) (c : Nat) (l : List Ex) (w : World) (hA : Exs w w.heap.size A l) (hn : l.length ≤ 100000) :
    Calls Try.prog 14 #[.slice A l.length c] w (ExsPost l w) := by
  obtain ⟨i0, hi0, hz0, hz1, hz2⟩ := info_parts rx_info
  generalize hl : l.length = n at *
  have HL := Lib.hid hl
  have HA := Lib.hid hA
  clear hl hA
  go_enter Try.func14, Try.ntmps14
  go_wp2
  go_loopw [3, 8] (fun v i wr => ∃ (k : Nat), i = .int .i64 k ∧ k ≤ n ∧ wr.ownsRow w.heap.size 34 2 v k ((l.take k).flatMap Ex.cells) ∧ Below w.heap.size w wr) (fun _ i _ => (n - intOf i).toNat)
  case atStart => exact ⟨0, rfl, by omega, World.ownsRow_nil _ _ _ _, Below.refl _ _⟩
  case round =>
    obtain ⟨k, rfl, hk, hown, hbr⟩ := hrel
    obtain ⟨A2, c2, rfl⟩ := own_shape hown
    by_cases hlt : k < n
    · obtain ⟨ad, rfl, hab, hca⟩ := (HA.out.below hbr).seeE (by rw [HL.out]; omega)
      obtain ⟨x1, x2⟩ := hca k (by rw [HL.out]; omega)
      have HT := Lib.hid (List.take_succ_eq_append_getElem (l := l) (i := k) (by rw [HL.out]; omega))
      obtain ⟨x, hx⟩ : ∃ x, x = l[k]'(by rw [HL.out]; omega) := ⟨_, rfl⟩
      rw [← hx] at x1 x2 HT
      clear hx hca
      obtain ⟨xa, xn⟩ := x
      simp only at x1 x2
      have hlt3 : (ad.add (k * 2)).block < w.heap.size := by rw [block_of_add]; exact hab
      have hlw := hbr.size
      have HOW := Lib.hid (hown.alloc (.cells #[.int .i64 xa, .int .i64 xn] 27))
      have HW := Lib.hid (show Below w.heap.size w (wr.alloc (.cells #[.int .i64 xa, .int .i64 xn] 27)) from hbr.alloc hbr.size _)
      clear hown
      go_wp2_with (at_builtin; refine wpList_append_own _ rfl _ _ 31 rfl w.heap.size 34 i0 (.agg #[.int .i64 0, .int .i64 0]) 2 16 Try.underlying31 hi0 hz0 hz1 hz2 rfl (by decide) _ _ _ rfl (HOW.out.alloc _) ⟨wr.heap.size + 1, 0, none⟩ 1 1 [.int .i64 xa, .int .i64 xn] rfl rfl ?c1 ?c2 ?c3 ?c4 ?c5 ?_)
      case c1 =>
        intro j u hj
        match j, hj with
        | 0, hj => simp at hj; subst hj; simp [Addr.add]
        | 1, hj => simp at hj; subst hj; simp [Addr.add]
      case c2 => intro u hu; simp at hu; rcases hu with rfl | rfl <;> rfl
      case c3 => unfold maxLen; omega
      case c4 => omega
      case c5 => simp; omega
      intro v' w2 hown2 hg2 _
      have hbr2 : Below w.heap.size w w2 := (HW.out.alloc HW.out.size _).grown hg2 (by simp; omega) (fun k hk => by have := (HOW.out.lt k hk).1; omega)
      have HO2 := Lib.hid hown2
      clear hown2 hg2
      go_wp2
      go_roundw
      case rel => exact ⟨k + 1, by go_num, by omega, by rw [HT.out]; simpa [Ex.cells] using HO2.out, hbr2⟩
      case measure => simp [intOf]; omega
    · have hkn : k = n := by omega
      subst hkn
      rw [List.take_of_length_le (by rw [HL.out]; omega)] at hown
      have HO := Lib.hid (show Exs wr wr.heap.size A2 l from Lies.own Ex.cells2 (by rw [HL.out]; exact hown))
      have HZ := Lib.hid (own_nil hown)
      clear hown
      go_wp2
      go_ret
      exact ⟨A2, c2, by rw [HL.out]; rfl, HO.out, hbr, HZ.out⟩

end Go.Proofs.Ytodcngkcaeahhaa
