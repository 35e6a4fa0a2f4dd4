/- The walks of addedTo and Both: layer 9's without what its laws ask. -/
import Derived.Test.YteddjmkoleclpaaWRightN
import Derived.Test.YteddjmkoleclpaaNBS
import Derived.Deep.DeepCutAuto
set_option linter.unusedVariables false
set_option linter.unusedSimpArgs false
namespace Go.Proofs.Yteddjmkoleclpaa
open Go.RowKit

theorem done_lit1 (v : ByteArray) (has : Bool) (x : Nt) (w : World) (g : Nat) (hg : g = w.heap.size) :
    Calls Try.prog 55 #[.string v, .bool has, .slice (some ⟨g, 0, none⟩) 1 1] (w.alloc (.cells #[.int .i64 x.kind, .string x.key, .string x.value, .int .u64 (x.n.toNat : Int)] 52))
      fun e w' => e = .returned (.tuple #[.string (doneL v has [x]).1, .bool (doneL v has [x]).2]) ∧ Below w.heap.size w w' :=
  (done_any v has (some ⟨g, 0, none⟩) 1 [x] _ (by simpa using nts_one w x hg) (by simp [maxLen])).mono fun _ _ ⟨he, hb⟩ => ⟨he, below1 hb⟩
theorem done_lit2 (v : ByteArray) (has : Bool) (x y : Nt) (w : World) (g : Nat) (hg : g = w.heap.size) :
    Calls Try.prog 55 #[.string v, .bool has, .slice (some ⟨g, 0, none⟩) 2 2] (w.alloc (.cells #[.int .i64 x.kind, .string x.key, .string x.value, .int .u64 (x.n.toNat : Int), .int .i64 y.kind, .string y.key, .string y.value, .int .u64 (y.n.toNat : Int)] 52))
      fun e w' => e = .returned (.tuple #[.string (doneL v has [x, y]).1, .bool (doneL v has [x, y]).2]) ∧ Below w.heap.size w w' :=
  (done_any v has (some ⟨g, 0, none⟩) 2 [x, y] _ (by simpa using nts_two w x y hg) (by simp [maxLen])).mono fun _ _ ⟨he, hb⟩ => ⟨he, below1 hb⟩

set_option maxRecDepth 100000 in
set_option maxHeartbeats 2000000 in
theorem addedTo_any (ak : Int) (akey aval : ByteArray) (an : UInt64) (bk : Int) (bkey bval : ByteArray) (bn : UInt64) (w : World) :
    Calls Try.prog 89 #[.agg #[.int .i64 ak, .string akey, .string aval, .int .u64 (an.toNat : Int)], .agg #[.int .i64 bk, .string bkey, .string bval, .int .u64 (bn.toNat : Int)]] w
      fun e w' => e = .returned (addedN ⟨ak, akey, aval, an⟩ ⟨bk, bkey, bval, bn⟩).v ∧ Below w.heap.size w w' := by
  obtain ⟨w3, hw3⟩ : ∃ w3, w3 = (((w.alloc (.cells #[.int .i64 ak, .string akey, .string aval, .int .u64 (an.toNat : Int)] 52)).alloc (.cells #[.int .i64 bk, .string bkey, .string bval, .int .u64 (bn.toNat : Int)] 52)).alloc (.cells #[.int .i64 0, .string ⟨#[]⟩, .string ⟨#[]⟩, .int .u64 0] 52)) := ⟨_, rfl⟩
  have hs3 : w3.heap.size = w.heap.size + 1 + 1 + 1 := by rw [hw3]; simp
  have hb3 : Below w.heap.size w w3 := by rw [hw3]; exact (((Below.refl _ _).alloc (Nat.le_refl _) _).alloc (by simp) _).alloc (by simp; omega) _
  have n0 : NBlk w3 (w.heap.size + 1 + 1) nt0 := by rw [hw3]; exact NBlk.nt0 _ (by simp)
  have n1 : NBlk w3 (w.heap.size + 1) ⟨bk, bkey, bval, bn⟩ := by rw [hw3]; exact NBlk.push (NBlk.fresh _ ⟨bk, bkey, bval, bn⟩ (by simp)) _
  have n2 : NBlk w3 w.heap.size ⟨ak, akey, aval, an⟩ := by rw [hw3]; exact NBlk.push (NBlk.push (NBlk.fresh _ ⟨ak, akey, aval, an⟩ rfl) _) _
  by_cases h12 : ak = 1 ∨ ak = 2
  · unfold addedN
    rw [if_pos h12]
    have hd := fun w g hg => done_lit2 noB false ⟨ak, akey, aval, an⟩ ⟨bk, bkey, bval, bn⟩ w g hg
    generalize doneL noB false [⟨ak, akey, aval, an⟩, ⟨bk, bkey, bval, bn⟩] = D at *
    obtain ⟨d1, d2⟩ := D
    simp only at hd ⊢
    have N0 := Lib.hid n0
    have W3 := Lib.hid hw3
    have S3 := Lib.hid hs3
    clear n0 n1 n2 hw3 hs3
    rcases h12 with h | h
    · subst h
      go_enter Try.func89, Try.ntmps89
      go_wp2_with fail
      rw [← W3.out]
      refine (hd w3 _ (by rw [S3.out])).mono ?_
      clear hd
      rintro e w4 ⟨rfl, hb4⟩
      have n4 : NBlk w4 (w.heap.size + 1 + 1) nt0 := NBlk.on N0.out hb4
      have hb : Below w.heap.size w w4 := hb3.trans (hb4.mono hb3.size)
      obtain ⟨k0, k1, k2, k3⟩ := NBlk.cells n4
      have f0 := Box.free n4 0
      have f1 := Box.free n4 1
      have f2 := Box.free n4 2
      have f3 := Box.free n4 3
      have N4 := Lib.hid n4
      clear n4 hb4 hb3 N0
      go_wp2
      obtain ⟨wz, hz⟩ : ∃ wz, wz = ((((w4.setCell ⟨w.heap.size + 1 + 1, 0, none⟩ (.int .i64 1)).setCell ⟨w.heap.size + 1 + 1, 1, none⟩ (.string ⟨#[]⟩)).setCell ⟨w.heap.size + 1 + 1, 2, none⟩ (.string d1)).setCell ⟨w.heap.size + 1 + 1, 3, none⟩ (.int .u64 0)) := ⟨_, rfl⟩
      have hq : NBlk wz (w.heap.size + 1 + 1) ⟨1, noB, d1, 0⟩ := by rw [hz]; exact NBlk.put N4.out ⟨1, noB, d1, 0⟩
      have hw : Below w.heap.size w wz := by rw [hz]; exact below_put hb (by omega) _ _ _ _
      rw [← hz]
      obtain ⟨p0, p1, p2, p3⟩ := NBlk.cells hq
      exact bodyPost_ret (v := (⟨1, noB, d1, 0⟩ : Nt).v) (by simp [results, Try.results89, go_sem, Nt.v, p0, p1, p2, p3]) rfl ⟨rfl, hw⟩
    · subst h
      go_enter Try.func89, Try.ntmps89
      go_wp2_with fail
      rw [← W3.out]
      refine (hd w3 _ (by rw [S3.out])).mono ?_
      clear hd
      rintro e w4 ⟨rfl, hb4⟩
      have n4 : NBlk w4 (w.heap.size + 1 + 1) nt0 := NBlk.on N0.out hb4
      have hb : Below w.heap.size w w4 := hb3.trans (hb4.mono hb3.size)
      obtain ⟨k0, k1, k2, k3⟩ := NBlk.cells n4
      have f0 := Box.free n4 0
      have f1 := Box.free n4 1
      have f2 := Box.free n4 2
      have f3 := Box.free n4 3
      have N4 := Lib.hid n4
      clear n4 hb4 hb3 N0
      go_wp2
      obtain ⟨wz, hz⟩ : ∃ wz, wz = ((((w4.setCell ⟨w.heap.size + 1 + 1, 0, none⟩ (.int .i64 1)).setCell ⟨w.heap.size + 1 + 1, 1, none⟩ (.string ⟨#[]⟩)).setCell ⟨w.heap.size + 1 + 1, 2, none⟩ (.string d1)).setCell ⟨w.heap.size + 1 + 1, 3, none⟩ (.int .u64 0)) := ⟨_, rfl⟩
      have hq : NBlk wz (w.heap.size + 1 + 1) ⟨1, noB, d1, 0⟩ := by rw [hz]; exact NBlk.put N4.out ⟨1, noB, d1, 0⟩
      have hw : Below w.heap.size w wz := by rw [hz]; exact below_put hb (by omega) _ _ _ _
      rw [← hz]
      obtain ⟨p0, p1, p2, p3⟩ := NBlk.cells hq
      exact bodyPost_ret (v := (⟨1, noB, d1, 0⟩ : Nt).v) (by simp [results, Try.results89, go_sem, Nt.v, p0, p1, p2, p3]) rfl ⟨rfl, hw⟩
  · unfold addedN
    rw [if_neg h12]
    have h1 : ak ≠ 1 := fun h => h12 (.inl h)
    have h2 : ak ≠ 2 := fun h => h12 (.inr h)
    clear h12
    by_cases h3 : ak = 3
    · subst h3
      rw [if_pos rfl]
      have HU := Lib.hid (u64_add bn an)
      clear h1 h2 n0 n1 n2 hs3 hw3 hb3
      go_enter Try.func89, Try.ntmps89
      go_wp2
      rw [HU.out]
      exact bodyPost_ret (v := (⟨bk, bkey, bval, bn + an⟩ : Nt).v) (by simp [results, Try.results89, go_sem, Nt.v]) rfl ⟨rfl, (((Below.refl _ _).alloc (Nat.le_refl _) _).alloc (by simp) _).alloc (by simp; omega) _⟩
    · rw [if_neg h3]
      clear n0 n1 n2 hs3 hw3 hb3
      go_enter Try.func89, Try.ntmps89
      go_wp2
      exact bodyPost_ret (v := (⟨bk, bkey, bval, bn⟩ : Nt).v) (by simp [results, Try.results89, go_sem, Nt.v]) rfl ⟨rfl, (((Below.refl _ _).alloc (Nat.le_refl _) _).alloc (by simp) _).alloc (by simp; omega) _⟩

set_option maxRecDepth 100000 in
set_option maxHeartbeats 2000000 in
theorem both_any (ak : Int) (akey aval : ByteArray) (an : UInt64) (bk : Int) (bkey bval : ByteArray) (bn : UInt64) (w : World) :
    Calls Try.prog 68 #[.agg #[.int .i64 ak, .string akey, .string aval, .int .u64 (an.toNat : Int)], .agg #[.int .i64 bk, .string bkey, .string bval, .int .u64 (bn.toNat : Int)]] w
      fun e w' => e = .returned (bothN ⟨ak, akey, aval, an⟩ ⟨bk, bkey, bval, bn⟩).v ∧ Below w.heap.size w w' := by
  have hd := fun w => addedTo_any ak akey aval an bk bkey bval bn w
  unfold bothN
  simp only
  by_cases h12 : bk = 1 ∨ bk = 2
  · rw [if_pos h12]
    clear hd
    rcases h12 with h | h
    · subst h
      go_enter Try.func68, Try.ntmps68
      go_wp2
      exact bodyPost_ret (v := (⟨1, bkey, bval, bn⟩ : Nt).v) (by simp [results, Try.results68, go_sem, Nt.v]) rfl ⟨rfl, ((((Below.refl _ _).alloc (Nat.le_refl _) _).alloc (by simp) _).alloc (by simp; omega) _).alloc (by simp; omega) _⟩
    · subst h
      go_enter Try.func68, Try.ntmps68
      go_wp2
      exact bodyPost_ret (v := (⟨2, bkey, bval, bn⟩ : Nt).v) (by simp [results, Try.results68, go_sem, Nt.v]) rfl ⟨rfl, ((((Below.refl _ _).alloc (Nat.le_refl _) _).alloc (by simp) _).alloc (by simp; omega) _).alloc (by simp; omega) _⟩
  · rw [if_neg h12]
    have h1 : bk ≠ 1 := fun h => h12 (.inl h)
    have h2 : bk ≠ 2 := fun h => h12 (.inr h)
    clear h12
    by_cases h3 : bk = 3
    · subst h3
      rw [if_pos rfl]
      generalize addedN ⟨ak, akey, aval, an⟩ ⟨3, bkey, bval, bn⟩ = q at *
      obtain ⟨qk, qkey, qval, qn⟩ := q
      clear h1 h2
      obtain ⟨w3, hw3⟩ : ∃ w3, w3 = ((((w.alloc (.cells #[.int .i64 ak, .string akey, .string aval, .int .u64 (an.toNat : Int)] 52)).alloc (.cells #[.int .i64 3, .string bkey, .string bval, .int .u64 (bn.toNat : Int)] 52)).alloc (.cells #[.int .i64 0, .string ⟨#[]⟩, .string ⟨#[]⟩, .int .u64 0] 52)).alloc (.cells #[.int .i64 3, .string bkey, .string bval, .int .u64 (bn.toNat : Int)] 52)) := ⟨_, rfl⟩
      have hb3 : Below w.heap.size w w3 := by rw [hw3]; exact ((((Below.refl _ _).alloc (Nat.le_refl _) _).alloc (by simp) _).alloc (by simp; omega) _).alloc (by simp; omega) _
      have n0 : NBlk w3 (w.heap.size + 1 + 1) nt0 := by rw [hw3]; exact NBlk.push (NBlk.nt0 _ (by simp)) _
      have n1 : NBlk w3 (w.heap.size + 1) ⟨3, bkey, bval, bn⟩ := by rw [hw3]; exact NBlk.push (NBlk.push (NBlk.fresh _ ⟨3, bkey, bval, bn⟩ (by simp)) _) _
      have n2 : NBlk w3 (w.heap.size + 1 + 1 + 1) ⟨3, bkey, bval, bn⟩ := by rw [hw3]; exact NBlk.fresh _ ⟨3, bkey, bval, bn⟩ (by simp)
      have N0 := Lib.hid n0
      have N1 := Lib.hid n1
      have N2 := Lib.hid n2
      have W3 := Lib.hid hw3
      clear n0 n1 n2 hw3
      go_enter Try.func68, Try.ntmps68
      go_wp2_with fail
      rw [← W3.out]
      refine (hd w3).mono ?_
      clear hd
      rintro e w4 ⟨rfl, hb4⟩
      have n0 := NBlk.on N0.out hb4
      have n1 := NBlk.on N1.out hb4
      have n2 := NBlk.on N2.out hb4
      have hb : Below w.heap.size w w4 := hb3.trans (hb4.mono hb3.size)
      obtain ⟨k0, k1, k2, k3⟩ := NBlk.cells n0
      obtain ⟨l0, l1, l2, l3⟩ := NBlk.cells n1
      obtain ⟨m0, m1, m2, m3⟩ := NBlk.cells n2
      have f0 := Box.free n0 0
      have f1 := Box.free n0 1
      have f2 := Box.free n0 2
      have f3 := Box.free n0 3
      have e0 := Box.free n2 0
      have e1 := Box.free n2 1
      have e2 := Box.free n2 2
      have e3 := Box.free n2 3
      have HB := Lib.hid hb
      have N0 := Lib.hid n0
      have N1 := Lib.hid n1
      have N2 := Lib.hid n2
      unfold Nt.v
      clear n0 n1 n2 hb4 hb3 hb k0 k1 k2 k3 f0 f1 f2 f3 l0 l1 l2 l3
      go_upto_region 8 with fail
      obtain ⟨wz, hz⟩ : ∃ wz, wz = ((((w4.setCell ⟨w.heap.size + 1 + 1 + 1, 0, none⟩ (.int .i64 qk)).setCell ⟨w.heap.size + 1 + 1 + 1, 1, none⟩ (.string qkey)).setCell ⟨w.heap.size + 1 + 1 + 1, 2, none⟩ (.string qval)).setCell ⟨w.heap.size + 1 + 1 + 1, 3, none⟩ (.int .u64 (qn.toNat : Int))) := ⟨_, rfl⟩
      have y2 : NBlk wz (w.heap.size + 1 + 1 + 1) ⟨qk, qkey, qval, qn⟩ := by rw [hz]; exact NBlk.put N2.out ⟨qk, qkey, qval, qn⟩
      have y1 : NBlk wz (w.heap.size + 1) ⟨3, bkey, bval, bn⟩ := by rw [hz]; exact NBlk.away4 N1.out (by omega) _ _ _ _
      have y0 : NBlk wz (w.heap.size + 1 + 1) nt0 := by rw [hz]; exact NBlk.away4 N0.out (by omega) _ _ _ _
      have hbz : Below w.heap.size w wz := by rw [hz]; exact below_put HB.out (by omega) _ _ _ _
      rw [← hz]
      clear hz HB N0 N1 N2 m0 m1 m2 m3 e0 e1 e2 e3
      obtain ⟨l0, l1, l2, l3⟩ := NBlk.cells y1
      obtain ⟨m0, m1, m2, m3⟩ := NBlk.cells y2
      have e1 := Box.free y2 1
      have Y0 := Lib.hid y0
      have Y2 := Lib.hid y2
      have HBZ := Lib.hid hbz
      clear y0 y1 y2 hbz
      go_upto_region 9 with fail
      obtain ⟨wy, hy⟩ : ∃ wy, wy = wz.setCell ⟨w.heap.size + 1 + 1 + 1, 1, none⟩ (.string bkey) := ⟨_, rfl⟩
      have y2 : NBlk wy (w.heap.size + 1 + 1 + 1) ⟨qk, bkey, qval, qn⟩ := by rw [hy]; exact Box.set Y2.out 1 _
      have y0 : NBlk wy (w.heap.size + 1 + 1) nt0 := by rw [hy]; exact Box.away Y0.out (by simp) _
      have hby : Below w.heap.size w wy := by rw [hy]; exact HBZ.out.setCell (by simp; omega) _
      rw [← hy]
      clear hy HBZ Y0 Y2 l0 l1 l2 l3 m0 m1 m2 m3 e1
      obtain ⟨m0, m1, m2, m3⟩ := NBlk.cells y2
      obtain ⟨k0, k1, k2, k3⟩ := NBlk.cells y0
      have f0 := Box.free y0 0
      have f1 := Box.free y0 1
      have f2 := Box.free y0 2
      have f3 := Box.free y0 3
      have Y0 := Lib.hid y0
      clear y0 y2
      go_wp2
      obtain ⟨wx, hx⟩ : ∃ wx, wx = ((((wy.setCell ⟨w.heap.size + 1 + 1, 0, none⟩ (.int .i64 qk)).setCell ⟨w.heap.size + 1 + 1, 1, none⟩ (.string bkey)).setCell ⟨w.heap.size + 1 + 1, 2, none⟩ (.string qval)).setCell ⟨w.heap.size + 1 + 1, 3, none⟩ (.int .u64 (qn.toNat : Int))) := ⟨_, rfl⟩
      have hq : NBlk wx (w.heap.size + 1 + 1) ⟨qk, bkey, qval, qn⟩ := by rw [hx]; exact NBlk.put Y0.out ⟨qk, bkey, qval, qn⟩
      have hw : Below w.heap.size w wx := by rw [hx]; exact below_put hby (by omega) _ _ _ _
      rw [← hx]
      obtain ⟨p0, p1, p2, p3⟩ := NBlk.cells hq
      exact bodyPost_ret (v := (⟨qk, bkey, qval, qn⟩ : Nt).v) (by simp [results, Try.results68, go_sem, Nt.v, p0, p1, p2, p3]) rfl ⟨rfl, hw⟩
    · rw [if_neg h3]
      clear hd
      go_enter Try.func68, Try.ntmps68
      go_wp2
      exact bodyPost_ret (v := (⟨ak, bkey, aval, an⟩ : Nt).v) (by simp [results, Try.results68, go_sem, Nt.v]) rfl ⟨rfl, ((((Below.refl _ _).alloc (Nat.le_refl _) _).alloc (by simp) _).alloc (by simp; omega) _).alloc (by simp; omega) _⟩

end Go.Proofs.Yteddjmkoleclpaa
