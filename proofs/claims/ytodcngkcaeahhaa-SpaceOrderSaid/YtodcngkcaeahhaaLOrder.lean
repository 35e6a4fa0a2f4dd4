/- The walk of SpaceOrder. -/
import Derived.Test.YtodcngkcaeahhaaWBefore
namespace Go.Proofs.Ytodcngkcaeahhaa
open Go.RowKit

theorem turn_int {n b i : Nat} (h : i ≤ n) : ((n : Int) - i + b) % n = (((n - i + b) % n : Nat) : Int) := by
  rw [Int.natCast_emod, Int.natCast_add, Int.natCast_sub h]

set_option maxHeartbeats 4000000 in
set_option maxRecDepth 100000 in
theorem order_walk (q f t : Int) (A : Option Addr) (c : Nat) (l : List Ex) (b : Nat) (w : World) (hA : Exs w w.heap.size A l) (hn : l.length ≤ maxLen) (hb8 : b < 256) :
    Calls Try.prog 6 #[.int .i64 q, .int .i64 f, .int .i64 t, .slice A l.length c, .int .u8 b] w fun e w' => e = .returned (.bool true) ∧ Below w.heap.size w w' := by
  obtain ⟨i0, hi0, hz0, hz1, hz2⟩ := info_parts ex_info
  unfold maxLen at hn
  generalize hl : l.length = n at *
  have HL := Lib.hid hl
  have HA := Lib.hid hA
  clear hl hA
  by_cases h1 : 30 < n
  · have hx : (n : Int) > 30 := by omega
    go_enter Try.func6, Try.ntmps6
    go_wp2_with fail
    refine (awake_true _).mono ?_
    rintro e w1 ⟨rfl, hb1⟩
    go_wp2
    go_ret
    exact ⟨rfl, hb1⟩
  by_cases h2 : n = 0
  · subst h2
    go_enter Try.func6, Try.ntmps6
    go_wp2_with fail
    refine (awake_true _).mono ?_
    rintro e w1 ⟨rfl, hb1⟩
    go_wp2
    go_ret
    exact ⟨rfl, hb1⟩
  have h0 : ¬ (n : Int) > 30 := by omega
  have h3 : ((n : Int) == 0) = false := by simp; omega
  have h4 : 0 < n := by omega
  go_enter Try.func6, Try.ntmps6
  go_wp2
  go_loopw [11, 28] (fun v i wr => ∃ (k : Nat), i = .int .i64 k ∧ k ≤ n ∧ wr.ownsRow w.heap.size 27 2 v k ((turnL l b k).flatMap Ex.cells) ∧ Below w.heap.size w wr) (fun _ i _ => (n - intOf i).toNat)
  case atStart => exact ⟨0, rfl, by omega, World.ownsRow_nil _ _ _ _, Below.refl _ _⟩
  case round =>
    obtain ⟨k, rfl, hk, hown, hbr⟩ := hrel
    obtain ⟨A2, c2, rfl⟩ := own_shape hown
    by_cases hlt : k < n
    · obtain ⟨ad, rfl, hab, hca⟩ := (HA.out.below hbr).seeE (by rw [HL.out]; omega)
      obtain ⟨j, hj⟩ : ∃ j, j = (n - k + b) % n := ⟨_, rfl⟩
      have hjn : j < n := by rw [hj]; exact Nat.mod_lt _ h4
      have hji := turn_int (b := b) hk
      rw [← hj] at hji
      have HT := Lib.hid (show turnL l b (k + 1) = turnL l b k ++ [l[j]'(by rw [HL.out]; exact hjn)] by
        have h := turn_succ l b k (by rw [HL.out]; exact Nat.mod_lt _ h4)
        rw [h]
        simp only [HL.out, ← hj])
      obtain ⟨y1, y2⟩ := hca j (by rw [HL.out]; omega)
      obtain ⟨y, hy⟩ : ∃ y, y = l[j]'(by rw [HL.out]; omega) := ⟨_, rfl⟩
      rw [← hy] at y1 y2 HT
      have hlt3 : (ad.add (j * 2)).block < w.heap.size := by rw [block_of_add]; exact hab
      have hjn2 : (j : Int) < n := by omega
      have hlw := hbr.size
      clear hy hca hj
      obtain ⟨ya, yn⟩ := y
      simp only at y1 y2
      have HOW := Lib.hid hown
      clear hown
      go_wp2_with (at_builtin; refine wpList_append_own _ rfl _ _ 22 rfl w.heap.size 27 i0 (.agg #[.int .i64 0, .int .i64 0]) 2 16 Try.underlying22 hi0 hz0 hz1 hz2 rfl (by decide) _ _ _ rfl (HOW.out.alloc _) ⟨wr.heap.size, 0, none⟩ 1 1 [.int .i64 ya, .int .i64 yn] rfl rfl ?c1 ?c2 ?c3 ?c4 ?c5 ?_)
      case c1 =>
        intro j u hj
        match j, hj with
        | 0, hj => simp at hj; subst hj; simp [Addr.add]
        | 1, hj => simp at hj; subst hj; simp [Addr.add]
      case c2 => intro u hu; simp at hu; rcases hu with rfl | rfl <;> rfl
      case c3 => unfold maxLen; omega
      case c4 => omega
      case c5 => simp; omega
      intro v' w2 hown2 hg2 _
      have hbr2 : Below w.heap.size w w2 := (hbr.alloc hbr.size _).grown hg2 (by simp; omega) (fun k hk => by have := (HOW.out.lt k hk).1; omega)
      have HO2 := Lib.hid hown2
      clear hown2 hg2
      go_wp2
      go_roundw
      case rel => exact ⟨k + 1, by go_num, by omega, by rw [HT.out]; simpa [Ex.cells] using HO2.out, hbr2⟩
      case measure => simp [intOf]; omega
    · have hkn : k = n := by omega
      subst hkn
      have hpm := turn_perm l b
      rw [HL.out] at hpm
      have hlen : (turnL l b k).length = k := turn_len l b k
      have hT : Exs wr wr.heap.size A2 (turnL l b k) := Lies.own Ex.cells2 (by rw [hlen]; exact hown)
      have hL : Exs wr wr.heap.size A l := (HA.out.below hbr).more hbr.size
      clear hown
      generalize turnL l b k = ts at *
      have HF1 := fun w1 (h : Below wr.heap.size wr w1) => fit_any q f t A c l w1 (Lies.on hL h) (by rw [HL.out]; omega)
      have HF2 := fun w1 (h : Below wr.heap.size wr w1) => fit_any q f t A2 c2 ts w1 (Lies.on hT h) (by omega)
      have HR1 := fun w1 (h : Below wr.heap.size wr w1) => right_any f t A c l w1 (Lies.on hL h) (by rw [HL.out]; omega)
      have HR2 := fun w1 (h : Below wr.heap.size wr w1) => right_any f t A2 c2 ts w1 (Lies.on hT h) (by omega)
      have HE1 := fun w1 (h : Below wr.heap.size wr w1) => free_any f t A c l w1 (Lies.on hL h) (by rw [HL.out]; omega)
      have HE2 := fun w1 (h : Below wr.heap.size wr w1) => free_any f t A2 c2 ts w1 (Lies.on hT h) (by omega)
      rw [HL.out] at HF1 HR1 HE1
      rw [hlen] at HF2 HR2 HE2
      rw [fit_perm hpm] at HF2
      rw [ok_perm hpm] at HR2
      rw [free_perm hpm] at HE2
      have hfl := free_len f t l
      rw [HL.out] at hfl
      generalize fitL q f t l = r at *
      generalize decide (Ok f t l) = ok at *
      generalize freeL f t l = F at *
      obtain ⟨⟨ra, rn⟩, re⟩ := r
      simp only at HF1 HF2
      have HF1 := Lib.hid HF1
      have HF2 := Lib.hid HF2
      have HR1 := Lib.hid HR1
      have HR2 := Lib.hid HR2
      have HE1 := Lib.hid HE1
      have HE2 := Lib.hid HE2
      clear hpm hlen hT hL
      have hok : (ok == ok) = true := by simp
      have hf1 := HF1.out wr (Below.refl _ _)
      go_wp2_with fail
      refine hf1.mono ?_
      clear hf1
      rintro e w1 ⟨rfl, hb1⟩
      have hb1a := hb1.alloc hb1.size (.cells #[.int .i64 ra, .int .i64 rn] 27)
      have hx1 : EBlk (w1.alloc (.cells #[.int .i64 ra, .int .i64 rn] 27)) w1.heap.size ⟨ra, rn⟩ := Box.fresh _ _ _
      have hf2 := HF2.out _ hb1a
      go_wp2_with fail
      refine hf2.mono ?_
      clear hf2
      rintro e w2 ⟨rfl, hb2⟩
      have hb2a := hb1a.trans (hb2.mono hb1a.size)
      have hb2b := hb2a.alloc hb2a.size (.cells #[.int .i64 ra, .int .i64 rn] 27)
      have hx2 : EBlk (w2.alloc (.cells #[.int .i64 ra, .int .i64 rn] 27)) w1.heap.size ⟨ra, rn⟩ := Box.push (Box.on hx1 hb2) _
      have hx3 := Box.lt (Box.on hx1 hb2)
      obtain ⟨p1, p2⟩ := EBlk.cells (Box.on hx1 hb2)
      simp only at p1 p2
      clear hx1 hb1 hb2 hb1a hb2a hx2
      have he1 := HE1.out _ hb2b
      go_wp2_with fail
      refine he1.mono ?_
      clear he1
      rintro e w3 ⟨A3, c3, rfl, hF3, hb3, hz3⟩
      have hb3a := hb2b.trans (hb3.mono hb2b.size)
      have hrf := refs_any A3 c3 F w3 hF3 (by omega)
      clear hb3 hF3 p1 p2 hx3
      generalize hfn : F.length = fl at *
      go_wp2_with fail
      refine hrf.mono ?_
      clear hrf
      rintro e w4 ⟨A4, c4, rfl, hF4, hb4, hz4⟩
      have hb4a := hb3a.trans (hb4.mono hb3a.size)
      have he2 := HE2.out _ hb4a
      rw [hfn]
      have HF4 := Lib.hid hF4
      clear hF4
      go_wp2_with fail
      refine he2.mono ?_
      clear he2
      rintro e w5 ⟨A5, c5, rfl, hF5, hb5, hz5⟩
      have hb5a := hb4a.trans (hb5.mono hb4a.size)
      have hrf := refs_any A5 c5 F w5 hF5 (by omega)
      rw [hfn] at hrf ⊢
      have HF5 := Lib.hid (Lies.on HF4.out hb5)
      clear hF5 hb5 hb4 HF4
      go_wp2_with fail
      refine hrf.mono ?_
      clear hrf
      rintro e w6 ⟨A6, c6, rfl, hF6, hb6, hz6⟩
      have hb6a := hb5a.trans (hb6.mono hb5a.size)
      have hsm := same_one A4 A6 c4 c6 F w6 (Lies.on HF5.out hb6) hF6 (by omega)
      rw [hfn] at hsm ⊢
      clear hF6 hb6 HF5
      go_wp2_with fail
      refine hsm.mono ?_
      clear hsm
      rintro e w7 ⟨rfl, hb7⟩
      have hb7a := hb6a.trans (hb7.mono hb6a.size)
      have hr1 := HR1.out _ hb7a
      clear hb7
      go_wp2_with fail
      refine hr1.mono ?_
      clear hr1
      rintro e w8 ⟨rfl, hb8⟩
      have hb8a := hb7a.trans (hb8.mono hb7a.size)
      have hr2 := HR2.out _ hb8a
      clear hb8
      go_wp2_with fail
      refine hr2.mono ?_
      clear hr2
      rintro e w9 ⟨rfl, hb9⟩
      have hb9a := hb8a.trans (hb9.mono hb8a.size)
      clear hb9
      go_wp2_with fail
      refine (awake_true _).mono ?_
      rintro e w10 ⟨rfl, hb10⟩
      have hb := hb9a.trans (hb10.mono hb9a.size)
      go_wp2
      go_ret
      exact ⟨rfl, hbr.trans (hb.mono hbr.size)⟩

end Go.Proofs.Ytodcngkcaeahhaa
