/- Rows of unlike types lie apart; the law's refs, its answer a row of its own; what was put by parts; a cache's block that is made, and filled. -/
import Derived.Test.YthoffknkpogfhaaKp
import Derived.Test.YthoffknkpogfhaaRc
set_option linter.unusedVariables false
set_option linter.unusedSimpArgs false
namespace Go.Proofs.Ythoffknkpogfhaa
open Go.RowKit

theorem own_unlike {w : World} {b b' n n' k k' : Nat} {T U : TypeId} {v u : Value} {xs ys : List Value} (h : w.ownsRow b T k v n xs) (g : w.ownsRow b' U k' u n' ys) (hTU : T ≠ U) : Apart2 v u := by
  rcases g.2 with ⟨rfl, _⟩ | ⟨q, cap, cur, rfl, _, h1, _⟩
  · exact .inl rfl
  · right
    intro e
    rcases h.2 with ⟨rfl, _⟩ | ⟨q', cap', cur', rfl, _, h2, _⟩
    · simp [Value.ownBlock] at e
    · have e1 : q = q' := by simpa [Value.ownBlock] using e
      subst e1
      rw [h1] at h2
      injection h2 with h2
      injection h2 with _ h2 _
      exact hTU h2.symm
theorem got_facts (m : Int) (l : List It) (a : Int) : (getB m l a = true → (getI m l a).a = a ∧ ∃ L, getL m l a = getI m l a :: L) ∧ (getB m l a = false → getL m l a = l) := by
  constructor
  · intro hb
    obtain ⟨_, _, ha⟩ := getI_at hb
    exact ⟨ha, without l (getI m l a).a, by unfold getL; rw [hb]; rfl⟩
  · intro hb
    unfold getL; rw [hb]; rfl
theorem got_right {m : Int} {l : List It} (h : rightL m l = true) (a : Int) : rightL m (getL m l a) = true := by
  cases hb : getB m l a with
  | false => unfold getL; rw [hb]; exact h
  | true => rw [← get_use hb]; exact use_right h _
/-- A cache's block of the law's own, as it was made. -/
def NewC (B : Nat) (w : World) (v : Value) : Prop := ∃ g, v = .pointer (some ⟨g, 0, none⟩) ∧ B ≤ g ∧ Box w g 24 #[.int .i64 0, .slice none 0 0]
/-- The same, as it was written. -/
def FillC (B : Nat) (m : Int) (n : Nat) (l : List It) (w : World) (v : Value) : Prop := ∃ g A c, v = .pointer (some ⟨g, 0, none⟩) ∧ B ≤ g ∧ Box w g 24 #[.int .i64 m, .slice A n c] ∧ IV w (.slice A n c) l
theorem NewC.on {B : Nat} {w w' : World} {v : Value} (h : NewC B w v) (hb : Below w.heap.size w w') : NewC B w' v := by
  obtain ⟨g, e, h1, h2⟩ := h
  exact ⟨g, e, h1, h2.on hb⟩
theorem FillC.on {B n : Nat} {m : Int} {l : List It} {w w' : World} {v : Value} (h : FillC B m n l w v) (hb : Below w.heap.size w w') : FillC B m n l w' v := by
  obtain ⟨g, A, c, e, h1, h2, h3⟩ := h
  exact ⟨g, A, c, e, h1, h2.on hb, h3.on hb⟩
theorem NewC.grown {B base n : Nat} {e : TypeId} {w w' : World} {v u : Value} {l : List It} (h : NewC B w v) (ho : w.ownsRow base e 3 u n (l.flatMap It.cells)) (hg : w.grownBy w' u.ownBlock) : NewC B w' v := by
  obtain ⟨g, e, h1, h2⟩ := h
  exact ⟨g, e, h1, h2.grown hg (fun e => own_off ho h2 e.symm)⟩
theorem NewC.fresh {B : Nat} (w : World) (h : B ≤ w.heap.size) : NewC B (w.alloc (.cells #[.int .i64 0, .slice none 0 0] 24)) (.pointer (some ⟨w.heap.size, 0, none⟩)) := ⟨_, rfl, h, Box.at_ w _ _ rfl⟩
/-- An answer of Put: a cache, what went, and a number. -/
def PutA (m er : Int) (n no : Nat) (P O : List It) (w : World) (v : Value) : Prop := ∃ A c B d, v = .tuple #[.agg #[.int .i64 m, .slice A n c], .slice B no d, .int .i64 er] ∧ IV w (.slice A n c) P ∧ IV w (.slice B no d) O
def CacheA (m : Int) (n : Nat) (P : List It) (w : World) (v : Value) : Prop := ∃ A c, v = .agg #[.int .i64 m, .slice A n c] ∧ IV w (.slice A n c) P
def ItsA (n : Nat) (O : List It) (w : World) (v : Value) : Prop := ∃ B d, v = .slice B n d ∧ IV w (.slice B n d) O
section
variable {m er a : Int} {n no q : Nat} {P O : List It} {w w' : World} {v s b : Value} {T : TypeId}
theorem PutA.on (h : PutA m er n no P O w v) (hb : Below w.heap.size w w') : PutA m er n no P O w' v := by
  obtain ⟨A, c, B, d, e, h1, h2⟩ := h
  exact ⟨A, c, B, d, e, h1.on hb, h2.on hb⟩
theorem CacheA.on (h : CacheA m n P w v) (hb : Below w.heap.size w w') : CacheA m n P w' v := by
  obtain ⟨A, c, e, h1⟩ := h
  exact ⟨A, c, e, h1.on hb⟩
theorem ItsA.on (h : ItsA n O w v) (hb : Below w.heap.size w w') : ItsA n O w' v := by
  obtain ⟨A, c, e, h1⟩ := h
  exact ⟨A, c, e, h1.on hb⟩
theorem PutA.put {m0 : Int} (h : PutA m er n no P O w v) (hb : Box w q T #[.int .i64 m0, s]) : PutA m er n no P O ((w.setCell ⟨q, 0, none⟩ (.int .i64 a)).setCell ⟨q, 1, none⟩ b) v := by
  obtain ⟨A, c, B, d, e, h1, h2⟩ := h
  exact ⟨A, c, B, d, e, iv_put h1 hb, iv_put h2 hb⟩
theorem CacheA.put {m0 : Int} (h : CacheA m n P w v) (hb : Box w q T #[.int .i64 m0, s]) : CacheA m n P ((w.setCell ⟨q, 0, none⟩ (.int .i64 a)).setCell ⟨q, 1, none⟩ b) v := by
  obtain ⟨A, c, e, h1⟩ := h
  exact ⟨A, c, e, iv_put h1 hb⟩
theorem ItsA.put {m0 : Int} (h : ItsA n O w v) (hb : Box w q T #[.int .i64 m0, s]) : ItsA n O ((w.setCell ⟨q, 0, none⟩ (.int .i64 a)).setCell ⟨q, 1, none⟩ b) v := by
  obtain ⟨A, c, e, h1⟩ := h
  exact ⟨A, c, e, iv_put h1 hb⟩
end

set_option maxHeartbeats 2000000 in
set_option maxRecDepth 100000 in
theorem refs_o {s : Value} {l : List It} {k : Nat} {w : World} (h : IV w s l) (hk : l.length = k) (hn : k ≤ 1000) :
    Calls Try.prog 15 #[s] w fun e w' => ∃ v', e = .returned v' ∧ w'.ownsRow w.heap.size 33 3 v' k (l.flatMap It.cells) ∧ Below w.heap.size w w' := by
  subst hk
  obtain ⟨A, c, rfl, hA, _⟩ := h
  obtain ⟨n, hl⟩ : ∃ n, l.length = n := ⟨_, rfl⟩
  rw [hl] at hn ⊢
  have HL := Lib.hid hl
  have HA := Lib.hid hA
  have hn0 : ¬ ((n : Int) < 0) := by omega
  clear hl hA
  go_enter Try.func15, Try.ntmps15
  go_wp2
  go_loopw [3, 8] (fun ov iv wr => ∃ (k : Nat), iv = .int .i64 k ∧ k ≤ n ∧ Hid (wr.ownsRow w.heap.size 33 3 ov k ((l.take k).flatMap It.cells)) ∧ Below w.heap.size w wr) (fun _ iv _ => (n - intOf iv).toNat)
  case atStart => exact ⟨0, rfl, by omega, (show World.ownsRow _ _ _ _ _ _ _ from by simpa using World.ownsRow_nil w w.heap.size _ 3), Below.refl _ _⟩
  case round =>
    obtain ⟨k, rfl, hk, HO, hbr⟩ := hrel
    by_cases hlt : k < n
    · obtain ⟨ad, rfl, hab, hca⟩ := (HA.out.below hbr).seeI (by rw [HL.out]; omega)
      have hkl : k < l.length := by rw [HL.out]; exact hlt
      obtain ⟨c1, c2, c3⟩ := hca k hkl
      obtain ⟨x, hx⟩ : ∃ x, x = l[k]'hkl := ⟨_, rfl⟩
      rw [← hx] at c1 c2 c3
      have HX := Lib.hid (show (l.take (k + 1)).flatMap It.cells = (l.take k).flatMap It.cells ++ x.cells from by
        rw [List.take_succ_eq_append_getElem hkl, List.flatMap_append, hx]; simp)
      have hbs := hbr.size
      clear hx hca hkl
      obtain ⟨xa, xt, xd⟩ := x
      simp only at c1 c2 c3
      go_upto_region 5 with fail
      obtain ⟨g, hg⟩ : ∃ g, g = wr.heap.size := ⟨_, rfl⟩
      rw [← hg]
      obtain ⟨w2, hw2⟩ : ∃ w2, w2 = wr.alloc (.cells #[.int .i64 xa, .string xt, .bool xd] 27) := ⟨_, rfl⟩
      rw [← hw2]
      have hbx : Box w2 g 27 #[.int .i64 xa, .string xt, .bool xd] := by rw [hw2]; exact Box.at_ wr _ _ hg
      have hb2 : Below wr.heap.size wr w2 := by rw [hw2]; exact (Below.refl _ _).alloc (Nat.le_refl _) _
      have HO2 := Lib.hid (own_on HO.out hb2)
      have HB2 := Lib.hid (hbr.trans (hb2.mono hbs))
      have hs2 : w.heap.size ≤ w2.heap.size := HB2.out.size
      have k0 := Box.cell hbx 0 rfl
      have k1 := Box.cell hbx 1 rfl
      have k2 := Box.cell hbx 2 rfl
      clear hw2 hg hb2 hbx c1 c2 c3 HO hbr hbs
      go_wp2_with (at_builtin; refine push_it ritem_info Try.underlying30 _ rfl _ _ rfl w.heap.size _ k _ rfl (own_on HO2.out ((Below.refl _ _).alloc (Nat.le_refl _) _)) w2.heap.size ⟨xa, xt, xd⟩ rfl (Box.fresh _ _ _) (by omega) (by simp; omega) ?_)
      intro v' w3 hown hgr _
      have HO3 := Lib.hid (show w3.ownsRow w.heap.size 33 3 v' (k + 1) ((l.take (k + 1)).flatMap It.cells) from by rw [HX.out]; exact hown)
      have HB3 := Lib.hid ((HB2.out.alloc hs2 _).grown hgr (by simp; omega) (fun q hq => (own_lt HO2.out hq).1))
      clear hown hgr k0 k1 k2
      go_wp2
      go_roundw
      case rel => exact ⟨k + 1, by go_num, by omega, HO3.out, HB3.out⟩
      case measure => simp [intOf]; omega
    · have HE := Lib.hid (show k = n ∧ l.take k = l from by
        have : k = n := by omega
        exact ⟨this, List.take_of_length_le (by rw [HL.out]; omega)⟩)
      go_wp2
      go_ret
      refine ⟨_, rfl, ?_, hbr⟩
      have h2 := HO.out
      rw [HE.out.2, HE.out.1] at h2
      exact h2

end Go.Proofs.Ythoffknkpogfhaa
