/- The contracts of the disk's calls, of values that are disks; the walk of the statements' same. -/
import Derived.Test.YtacllmkedadbaaaWCrash
import Derived.Test.YtacllmkedadbaaaWPut
import Derived.Test.YtacllmkedadbaaaWRead
import Derived.Test.YtacllmkedadbaaaWRef
import Derived.Test.YtacllmkedadbaaaInv
namespace Go.Proofs.Ytacllmkedadbaaa
open Go.RowKit

/-- A value that is a slice of these bools; of these strings. -/
def BV (w : World) (v : Value) (l : List Bool) : Prop := ∃ A c, v = .slice A l.length c ∧ Bls w w.heap.size A l
def SV (w : World) (v : Value) (l : List ByteArray) : Prop := ∃ A c, v = .slice A l.length c ∧ Strs w w.heap.size A l
theorem BV.on {w w' : World} {v : Value} {l : List Bool} (h : BV w v l) (hb : Below w.heap.size w w') : BV w' v l := by
  obtain ⟨A, c, e, hp⟩ := h
  exact ⟨A, c, e, hp.on hb⟩
theorem SV.on {w w' : World} {v : Value} {l : List ByteArray} (h : SV w v l) (hb : Below w.heap.size w w') : SV w' v l := by
  obtain ⟨A, c, e, hp⟩ := h
  exact ⟨A, c, e, hp.on hb⟩
theorem BV.nil (w : World) : BV w (.slice none 0 0) [] := ⟨none, 0, rfl, Lies.nil⟩

theorem right_dv {v : Value} {S : List ByteArray} {W : List Wr} {w : World} (h : DV w v S W) (hn : S.length ≤ 1000000) (hm : W.length ≤ 1000000) :
    Calls Try.prog 10 #[v] w fun e w' => e = .returned (.bool (rightB S W)) ∧ Below w.heap.size w w' := by
  obtain ⟨A, c, B, d, rfl, hA, hB⟩ := h
  exact right_any A c S B d W w hA hB hn hm
theorem flush_dv {v : Value} {S : List ByteArray} {W : List Wr} {w : World} (h : DV w v S W) (hm : W.length ≤ 1000000) (hR : rightB S W = true) :
    Calls Try.prog 15 #[v] w fun e w' => ∃ v', e = .returned v' ∧ DV w' v' (doneL S W) [] ∧ Below w.heap.size w w' := by
  obtain ⟨A, c, B, d, rfl, hA, hB⟩ := h
  exact flush_right A c S B d W w hA hB hm hR
theorem crash_dv {v k : Value} {S : List ByteArray} {W : List Wr} {ks : List Bool} {w : World} (h : DV w v S W) (hk : BV w k ks) (hm : W.length ≤ 1000000) (hl : ks.length ≤ 1000000) (hR : rightB S W = true) :
    Calls Try.prog 16 #[v, k] w fun e w' => ∃ v', e = .returned v' ∧ DV w' v' (doneL S (keptL ks W)) [] ∧ Below w.heap.size w w' := by
  obtain ⟨A, c, B, d, rfl, hA, hB⟩ := h
  obtain ⟨K, kc, rfl, hK⟩ := hk
  exact crash_right A c S B d W K kc ks w hA hB hK hm hl hR
theorem put_dv_ok {v t : Value} {S : List ByteArray} {W : List Wr} {a : Int} {l : List ByteArray} {w : World} (h : DV w v S W) (ht : SV w t l) (hm : W.length ≤ 100000) (hl : l.length ≤ 100000) (hR : rightB S W = true) (hf : fillB l = true) (hh : hasB S.length a l.length = true) :
    Calls Try.prog 13 #[v, .int .i64 a, t] w fun e w' => ∃ v', e = .returned (.tuple #[v', .int .i64 0]) ∧ DV w' v' S (W ++ putL a l) ∧ Below w.heap.size w w' := by
  obtain ⟨A, c, B, d, rfl, hA, hB⟩ := h
  obtain ⟨T, tc, rfl, hT⟩ := ht
  exact put_ok A c S B d W a T tc l w hA hB hT hm hl hR hf hh
theorem put_dv_bad {v t : Value} {S : List ByteArray} {W : List Wr} {a : Int} {l : List ByteArray} {w : World} (h : DV w v S W) (ht : SV w t l) (hm : W.length ≤ 1000000) (hl : l.length ≤ 1000000) (hR : rightB S W = true) (hbad : fillB l = false ∨ hasB S.length a l.length = false) :
    Calls Try.prog 13 #[v, .int .i64 a, t] w fun e w' => e = .returned (.tuple #[v, .int .i64 1]) ∧ Below w.heap.size w w' := by
  obtain ⟨A, c, B, d, rfl, hA, hB⟩ := h
  obtain ⟨T, tc, rfl, hT⟩ := ht
  exact put_bad A c S B d W a T tc l w hA hB hT hm hl hR hbad
theorem read_dv {v : Value} {S : List ByteArray} {W : List Wr} {a k : Nat} {w : World} (h : DV w v S W) (hm : W.length ≤ 1000000) (hR : rightB S W = true) (hak : a + k ≤ S.length) :
    Calls Try.prog 9 #[v, .int .i64 a, .int .i64 k] w fun e w' => e = .returned (.tuple #[.string (flatS (((doneL S W).drop a).take k)), .int .i64 0]) ∧ Below w.heap.size w w' := by
  obtain ⟨A, c, B, d, rfl, hA, hB⟩ := h
  exact read_ok A c S B d W a k w hA hB hm hR hak
theorem ref_dv {v : Value} {S : List ByteArray} {W : List Wr} {w : World} (h : DV w v S W) (h24 : W.length * 24 ≤ 140737488355328) :
    Calls Try.prog 12 #[v] w fun e w' => ∃ v', e = .returned v' ∧ DV w' v' S W ∧ Below w.heap.size w w' := by
  obtain ⟨A, c, B, d, rfl, hA, hB⟩ := h
  exact ref_any A c S B d W w hA hB h24
theorem small_dv {v : Value} {S : List ByteArray} {W : List Wr} {w : World} (h : DV w v S W) :
    Calls Try.prog 11 #[v] w fun e w' => e = .returned (.bool (smallB S.length W.length)) ∧ Below w.heap.size w w' := by
  obtain ⟨A, c, B, d, rfl, hA, hB⟩ := h
  exact small_any A c B S.length W.length d w

/-- One sector, read. -/
theorem read_one {v : Value} {S : List ByteArray} {W : List Wr} {i : Nat} {w : World} (h : DV w v S W) (hm : W.length ≤ 1000000) (hR : rightB S W = true) (hi : i < S.length) :
    Calls Try.prog 9 #[v, .int .i64 i, .int .i64 1] w fun e w' => e = .returned (.tuple #[.string ((doneL S W)[i]'(by rw [done_len]; exact hi)), .int .i64 0]) ∧ Below w.heap.size w w' := by
  have h1 := read_dv (a := i) (k := 1) h hm hR (by omega)
  have e : ((doneL S W).drop i).take 1 = [(doneL S W)[i]'(by rw [done_len]; exact hi)] := by
    rw [List.drop_eq_getElem_cons (by rw [done_len]; exact hi)]
    rfl
  rw [e, flat_one] at h1
  exact h1

/-- What each slot of same's line holds. -/
def SameV (A : Option Addr) (n c : Nat) (B : Option Addr) (m d : Nat) (A' : Option Addr) (n' c' : Nat) (B' : Option Addr) (m' d' : Nat) (S : List ByteArray) (W : List Wr) (t : Nat) (v : Value) (w : World) : Prop :=
  match t with
  | 5 => v = .agg #[.slice A n c, .slice B m d]
  | 6 => DV w v S W
  | 7 => v = .agg #[.slice A' n' c', .slice B' m' d']
  | 8 => v = .bool true
  | 4 => v = .bool true
  | _ => True
theorem SameV.on {A : Option Addr} {n c : Nat} {B : Option Addr} {m d : Nat} {A' : Option Addr} {n' c' : Nat} {B' : Option Addr} {m' d' : Nat} {S : List ByteArray} {W : List Wr} {t : Nat} {v : Value} {w w' : World} (h : SameV A n c B m d A' n' c' B' m' d' S W t v w) (hb : Below w.heap.size w w') : SameV A n c B m d A' n' c' B' m' d' S W t v w' := by
  unfold SameV at *
  split at h <;> first | exact h | exact DV.on h hb

set_option maxHeartbeats 2000000 in
set_option maxRecDepth 100000 in
theorem same_eq {v u : Value} {S : List ByteArray} {W : List Wr} {w : World} (hv : DV w v S W) (hu : DV w u S W) (hn : S.length ≤ 1000000) (hm : W.length ≤ 1000000) :
    Calls Try.prog 14 #[v, u] w fun e w' => e = .returned (.bool true) ∧ Below w.heap.size w w' := by
  obtain ⟨A, c, B, d, rfl, hA, hB⟩ := hv
  obtain ⟨A', c', B', d', rfl, hA', hB'⟩ := hu
  have HV := Lib.hid (show DV w (.agg #[.slice A S.length c, .slice B W.length d]) S W from ⟨A, c, B, d, rfl, hA, hB⟩)
  have HU := Lib.hid (show DV w (.agg #[.slice A' S.length c', .slice B' W.length d']) S W from ⟨A', c', B', d', rfl, hA', hB'⟩)
  have HN := Lib.hid hn
  have HM := Lib.hid hm
  have HR := Lib.hid (fun (wx : World) (h : Below w.heap.size w wx) => ref_dv (w := wx) (HV.out.on h) (by omega))
  have HS := Lib.hid (fun (wx : World) (x : Value) (hx : DV wx x S W) (h : Below w.heap.size w wx) => same2_eq x _ S W wx hx (HU.out.on h) hn hm)
  generalize S.length = n at *
  generalize W.length = m at *
  clear hA hB hA' hB' hn hm
  have HX := Lib.hid (show DBlk ((w.alloc (.cells #[.slice A n c, .slice B m d] 25)).alloc (.cells #[.slice A' n c', .slice B' m d'] 37)) w.heap.size A n c B m d ∧ EBlk ((w.alloc (.cells #[.slice A n c, .slice B m d] 25)).alloc (.cells #[.slice A' n c', .slice B' m d'] 37)) (w.heap.size + 1) (.slice A' n c') (.slice B' m d') from ⟨Box.push (Box.fresh _ _ _) _, Box.at_ (w.alloc _) _ _ (by simp)⟩)
  have HB0 := Lib.hid (below_two w (.cells #[.slice A n c, .slice B m d] 25) (.cells #[.slice A' n c', .slice B' m d'] 37))
  go_enter Try.func14, Try.ntmps14
  go_wp2
  generalize hw0 : (w.alloc (.cells #[.slice A n c, .slice B m d] 25)).alloc (.cells #[.slice A' n c', .slice B' m d'] 37) = w0 at *
  clear hw0
  have HC1 := Lib.hid (show ∀ wx, Below w0.heap.size w0 wx → wx.cell? ⟨w.heap.size, 0, none⟩ = some (.slice A n c) ∧ wx.cell? ⟨w.heap.size, 1, none⟩ = some (.slice B m d) from fun wx h => DBlk.cells (Box.on HX.out.1 h))
  have HC2 := Lib.hid (show ∀ wx, Below w0.heap.size w0 wx → wx.cell? ⟨w.heap.size + 1, 0, none⟩ = some (.slice A' n c') ∧ wx.cell? ⟨w.heap.size + 1, 1, none⟩ = some (.slice B' m d') from fun wx h => EBlk.cells (Box.on HX.out.2 h))
  refine wp_region_inv [5, 6, 7, 8, 4] (by kernel_rfl) (by kernel_rfl) (fun w' => Below w0.heap.size w0 w') (fun w1 w2 => Below w1.heap.size w1 w2) (SameV A n c B m d A' n c' B' m d' S W) (by kernel_rfl) (fun w1 w2 h1 h2 => h2.trans (h1.mono h2.size)) (fun t v w1 w2 h1 h2 => h2.on h1) (Below.refl _ _).drew (steps_of ?_) ?_
  · refine Steps1.cons (fun ax wx hS hG => ?_) (Steps1.cons (fun ax wx hS hG => ?_) (Steps1.cons (fun ax wx hS hG => ?_) (Steps1.cons (fun ax wx hS hG => ?_) (Steps1.cons (fun ax wx hS hG => ?_) Steps1.nil))))
    · have q2 := hG.old 2 (by kernel_rfl) (by kernel_rfl)
      obtain ⟨z0, z1⟩ := HC1.out wx hS
      refine step_value (v := (.agg #[.slice A n c, .slice B m d])) (w' := wx) rfl rfl ?_ (Below.refl _ _) (fun d hd => by cases hd; exact rfl)
      go_simp
    · obtain ⟨_, q5, rfl⟩ := hG.new 5 (by kernel_rfl) (by kernel_rfl)
      refine step_call (w1 := wx) (f := 12) (args := #[.agg #[.slice A n c, .slice B m d]]) rfl rfl ?_ ((HR.out wx (HB0.out.trans (hS.mono HB0.out.size))).mono ?_)
      · go_simp
      · rintro e w' ⟨v', rfl, hv, hq⟩
        exact ⟨_, rfl, hq, fun d hd => by cases hd; exact hv⟩
    · have q3 := hG.old 3 (by kernel_rfl) (by kernel_rfl)
      obtain ⟨z0, z1⟩ := HC2.out wx hS
      refine step_value (v := (.agg #[.slice A' n c', .slice B' m d'])) (w' := wx) rfl rfl ?_ (Below.refl _ _) (fun d hd => by cases hd; exact rfl)
      go_simp
    · obtain ⟨v1, q6, h1⟩ := hG.new 6 (by kernel_rfl) (by kernel_rfl)
      obtain ⟨_, q7, rfl⟩ := hG.new 7 (by kernel_rfl) (by kernel_rfl)
      have h2 : DV wx v1 S W := h1
      refine step_call (w1 := wx) (f := 26) (args := #[v1, .agg #[.slice A' n c', .slice B' m d']]) rfl rfl ?_ ((HS.out wx v1 h2 (HB0.out.trans (hS.mono HB0.out.size))).mono ?_)
      · clear h1 h2
        go_simp
      · rintro e w' ⟨rfl, hq⟩
        exact ⟨_, rfl, hq, fun d hd => by cases hd; exact rfl⟩
    · obtain ⟨_, q8, rfl⟩ := hG.new 8 (by kernel_rfl) (by kernel_rfl)
      refine step_value (v := .bool true) (w' := wx) rfl rfl ?_ (Below.refl _ _) (fun d hd => by cases hd; exact rfl)
      go_simp
  intro f w3 hS3 hV3
  have hv4 : f 4 = .bool true := hV3 4 (by decide)
  simp only [puts, Act.put, List.setIfInBounds_toArray, List.set_cons_succ, List.set_cons_zero]
  clear hV3
  rw [hv4]
  go_wp2
  go_ret
  exact ⟨rfl, HB0.out.trans (hS3.mono HB0.out.size)⟩

end Go.Proofs.Ytacllmkedadbaaa
