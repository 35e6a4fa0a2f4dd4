/- The walk of the document's Both of notes. -/
import Derived.Test.YtaboccbakicmhaaRNote
import Derived.Test.YtaboccbakicmhaaNb
set_option linter.unusedVariables false
set_option linter.unusedSimpArgs false
namespace Go.Proofs.Ytaboccbakicmhaa
open Go.RowKit

set_option maxRecDepth 100000 in
set_option maxHeartbeats 2000000 in
theorem dboth_any (ak : Int) (akey aval : ByteArray) (an : UInt64) (bk : Int) (bkey bval : ByteArray) (bn : UInt64) (w : World) :
    Calls Try.prog 24 #[.agg #[.int .i64 ak, .string akey, .string aval, .int .u64 (an.toNat : Int)], .agg #[.int .i64 bk, .string bkey, .string bval, .int .u64 (bn.toNat : Int)]] w
      fun e w' => e = .returned (bothN ⟨ak, akey, aval, an⟩ ⟨bk, bkey, bval, bn⟩).v ∧ Below w.heap.size w w' := by
  rw [← dboth_eq]
  unfold dbothN
  simp only
  by_cases h1 : bk < 1
  · rw [if_pos (.inl h1)]
    have hd : decide (bk < 1) = true := decide_eq_true h1
    clear h1
    go_enter Try.func24, Try.ntmps24
    go_wp2
    exact bodyPost_ret (v := (⟨ak, bkey, aval, an⟩ : Nt).v) (by simp [results, Try.results24, go_sem, Nt.v]) rfl ⟨rfl, (((Below.refl _ _).alloc (Nat.le_refl _) _).alloc (by simp) _).alloc (by simp; omega) _⟩
  have hd1 : decide (bk < 1) = false := decide_eq_false h1
  by_cases h2 : 3 < bk
  · rw [if_pos (.inr h2)]
    have hd : decide (3 < bk) = true := decide_eq_true h2
    clear h1 h2
    go_enter Try.func24, Try.ntmps24
    go_wp2
    exact bodyPost_ret (v := (⟨ak, bkey, aval, an⟩ : Nt).v) (by simp [results, Try.results24, go_sem, Nt.v]) rfl ⟨rfl, (((Below.refl _ _).alloc (Nat.le_refl _) _).alloc (by simp) _).alloc (by simp; omega) _⟩
  have hd2 : decide (3 < bk) = false := decide_eq_false h2
  rw [if_neg (by omega)]
  by_cases h3 : bk = 3
  case neg =>
    rw [if_pos (.inl h3)]
    have hd3 : (bk != 3) = true := by simpa using h3
    clear h1 h2 h3
    go_enter Try.func24, Try.ntmps24
    go_wp2
    exact bodyPost_ret (v := (⟨bk, bkey, bval, bn⟩ : Nt).v) (by simp [results, Try.results24, go_sem, Nt.v]) rfl ⟨rfl, (((Below.refl _ _).alloc (Nat.le_refl _) _).alloc (by simp) _).alloc (by simp; omega) _⟩
  subst h3
  clear h1 h2 hd1 hd2
  by_cases h1 : ak < 1
  · rw [if_pos (.inr (.inl h1))]
    have hd : decide (ak < 1) = true := decide_eq_true h1
    clear h1
    go_enter Try.func24, Try.ntmps24
    go_wp2
    exact bodyPost_ret (v := (⟨3, bkey, bval, bn⟩ : Nt).v) (by simp [results, Try.results24, go_sem, Nt.v]) rfl ⟨rfl, (((Below.refl _ _).alloc (Nat.le_refl _) _).alloc (by simp) _).alloc (by simp; omega) _⟩
  have hd1 : decide (ak < 1) = false := decide_eq_false h1
  by_cases h2 : 3 < ak
  · rw [if_pos (.inr (.inr h2))]
    have hd : decide (3 < ak) = true := decide_eq_true h2
    clear h1 h2
    go_enter Try.func24, Try.ntmps24
    go_wp2
    exact bodyPost_ret (v := (⟨3, bkey, bval, bn⟩ : Nt).v) (by simp [results, Try.results24, go_sem, Nt.v]) rfl ⟨rfl, (((Below.refl _ _).alloc (Nat.le_refl _) _).alloc (by simp) _).alloc (by simp; omega) _⟩
  have hd2 : decide (3 < ak) = false := decide_eq_false h2
  rw [if_neg (by omega)]
  by_cases h3 : ak = 3
  · subst h3
    rw [if_pos rfl]
    obtain ⟨s, hs⟩ : ∃ s, s = an + bn := ⟨_, rfl⟩
    have hu : IntKind.u64.wrap ((an.toNat : Int) + (bn.toNat : Int)) = (s.toNat : Int) := by rw [hs]; exact u64_add an bn
    rw [← hs]
    clear h1 h2 hd1 hd2 hs
    go_enter Try.func24, Try.ntmps24
    go_wp2
    exact bodyPost_ret (v := (⟨3, bkey, bval, s⟩ : Nt).v) (by simp [results, Try.results24, go_sem, Nt.v]) rfl ⟨rfl, (((Below.refl _ _).alloc (Nat.le_refl _) _).alloc (by simp) _).alloc (by simp; omega) _⟩
  rw [if_neg h3]
  have hd3 : (ak == 3) = false := by simpa using h3
  obtain ⟨w3, hw3⟩ : ∃ w3, w3 = (((w.alloc (.cells #[.int .i64 ak, .string akey, .string aval, .int .u64 (an.toNat : Int)] 32)).alloc (.cells #[.int .i64 3, .string bkey, .string bval, .int .u64 (bn.toNat : Int)] 32)).alloc (.cells #[.int .i64 0, .string ⟨#[]⟩, .string ⟨#[]⟩, .int .u64 0] 32)) := ⟨_, rfl⟩
  have hb3 : Below w.heap.size w w3 := by rw [hw3]; exact (((Below.refl _ _).alloc (Nat.le_refl _) _).alloc (by simp) _).alloc (by simp; omega) _
  have N0 := Lib.hid (show NBlk w3 (w.heap.size + 1 + 1) nt0 by rw [hw3]; exact NBlk.nt0 _ (by simp))
  have N1 := Lib.hid (show NBlk w3 (w.heap.size + 1) ⟨3, bkey, bval, bn⟩ by rw [hw3]; exact NBlk.push (NBlk.fresh _ ⟨3, bkey, bval, bn⟩ (by simp)) _)
  have N2 := Lib.hid (show NBlk w3 w.heap.size ⟨ak, akey, aval, an⟩ by rw [hw3]; exact NBlk.push (NBlk.push (NBlk.fresh _ ⟨ak, akey, aval, an⟩ rfl) _) _)
  have hdn := fun wx (h : Nts wx wx.heap.size (some ⟨w3.heap.size, 0, none⟩) [⟨ak, akey, aval, an⟩, ⟨3, bkey, bval, bn⟩]) => ddone_any noB false (some ⟨w3.heap.size, 0, none⟩) 2 [⟨ak, akey, aval, an⟩, ⟨3, bkey, bval, bn⟩] wx h (by simp [maxLen])
  generalize doneL noB false [⟨ak, akey, aval, an⟩, ⟨3, bkey, bval, bn⟩] = D at *
  obtain ⟨d1, d2⟩ := D
  simp only at hdn ⊢
  have HD := Lib.hid (hdn (w3.alloc (.cells #[.int .i64 ak, .string akey, .string aval, .int .u64 (an.toNat : Int), .int .i64 3, .string bkey, .string bval, .int .u64 (bn.toNat : Int)] 32)) ((nts_two w3 ⟨ak, akey, aval, an⟩ ⟨3, bkey, bval, bn⟩ rfl).more (by simp)))
  have W3 := Lib.hid hw3
  have HB3 := Lib.hid hb3
  clear hdn hw3 hb3 h1 h2 h3
  go_enter Try.func24, Try.ntmps24
  go_upto_region 7 with fail
  rw [← W3.out]
  obtain ⟨k0, k1, k2, k3⟩ := NBlk.cells N2.out
  obtain ⟨l0, l1, l2, l3⟩ := NBlk.cells N1.out
  simp only at k0 k1 k2 k3 l0 l1 l2 l3
  have hsz : w3.heap.size = w.heap.size + 1 + 1 + 1 := by rw [W3.out]; simp
  have HSZ := Lib.hid hsz
  clear hsz
  go_wp2_with fail
  refine HD.out.mono ?_
  clear HD k0 k1 k2 k3 l0 l1 l2 l3 W3
  rintro e w4 ⟨rfl, hb4⟩
  have hb34 : Below w3.heap.size w3 w4 := below1 hb4
  have hb : Below w.heap.size w w4 := HB3.out.trans (hb34.mono HB3.out.size)
  have n0 := NBlk.on N0.out hb34
  obtain ⟨l0, l1, l2, l3⟩ := NBlk.cells (NBlk.on N1.out hb34)
  obtain ⟨k0, k1, k2, k3⟩ := NBlk.cells n0
  have f0 := Box.free n0 0
  have f1 := Box.free n0 1
  have f2 := Box.free n0 2
  have f3 := Box.free n0 3
  have HB := Lib.hid hb
  have M0 := Lib.hid n0
  clear n0 hb hb34 hb4 N0 N1 N2 HB3 HSZ
  go_wp2
  obtain ⟨wx, hx⟩ : ∃ wx, wx = ((((w4.setCell ⟨w.heap.size + 1 + 1, 0, none⟩ (.int .i64 1)).setCell ⟨w.heap.size + 1 + 1, 1, none⟩ (.string bkey)).setCell ⟨w.heap.size + 1 + 1, 2, none⟩ (.string d1)).setCell ⟨w.heap.size + 1 + 1, 3, none⟩ (.int .u64 0)) := ⟨_, rfl⟩
  have hq : NBlk wx (w.heap.size + 1 + 1) ⟨1, bkey, d1, 0⟩ := by rw [hx]; exact NBlk.put M0.out ⟨1, bkey, d1, 0⟩
  have hw : Below w.heap.size w wx := by rw [hx]; exact below_put HB.out (by omega) _ _ _ _
  rw [← hx]
  obtain ⟨p0, p1, p2, p3⟩ := NBlk.cells hq
  exact bodyPost_ret (v := (⟨1, bkey, d1, 0⟩ : Nt).v) (by simp [results, Try.results24, go_sem, Nt.v, p0, p1, p2, p3]) rfl ⟨rfl, hw⟩

end Go.Proofs.Ytaboccbakicmhaa
