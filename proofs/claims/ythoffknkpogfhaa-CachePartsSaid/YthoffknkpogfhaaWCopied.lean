/- The walks of copied, and of the law's refs and ref. -/
import Derived.Test.YthoffknkpogfhaaPh
set_option linter.unusedVariables false
set_option linter.unusedSimpArgs false
namespace Go.Proofs.Ythoffknkpogfhaa
open Go.RowKit

/-- A row of items is no block of a cache: content tells them apart. -/
theorem own_off {w : World} {base n q : Nat} {v : Value} {l : List It} {T e : TypeId} {m : Int} {s : Value} (h : w.ownsRow base e 3 v n (l.flatMap It.cells)) (hb : Box w q T #[.int .i64 m, s]) : v.ownBlock ≠ some q := by
  rcases h.2 with ⟨rfl, _⟩ | ⟨g, cap, cur, rfl, _, h1, h2, _, h4, _⟩
  · simp [Value.ownBlock]
  · intro e
    have e1 : g = q := by simpa [Value.ownBlock] using e
    subst e1
    have h5 : w.heap[g]? = some (.cells #[.int .i64 m, s] T (0, 0)) := hb
    rw [h1] at h5
    injection h5 with h5
    injection h5 with h5 _ _
    rw [h5] at h4
    have : (#[Value.int .i64 m, s] : Array Value).size = 2 := rfl
    omega
theorem own_ex {w w' : World} {base n q k : Nat} {v : Value} {xs : List Value} {e : TypeId} (hk : Ex q w w') (h : w.ownsRow base e k v n xs) (hq : v.ownBlock ≠ some q) : w'.ownsRow base e k v n xs := h.kept hk (.inr hq)
/-- Items that are written beside. -/
theorem iv_off {w : World} {v : Value} {l : List It} {q : Nat} {T : TypeId} {m a : Int} {s b : Value} (h : IV w v l) (hb : Box w q T #[.int .i64 m, s]) : IV ((w.setCell ⟨q, 0, none⟩ (.int .i64 a)).setCell ⟨q, 1, none⟩ b) v l := by
  obtain ⟨A, c, rfl, hA, h2⟩ := h
  refine ⟨A, c, rfl, fun hl => ?_, h2⟩
  obtain ⟨ad, rfl, hB, hc⟩ := hA hl
  have hne : ad.block ≠ q := by
    intro e
    have h1 := hc 0 hl 2 _ rfl
    have h2 := hc 0 hl 1 _ rfl
    have h3 : w.heap[q]? = some (.cells #[.int .i64 m, s] T (0, 0)) := hb
    rw [Nat.zero_mul, Addr.add_zero'] at h1 h2
    rw [Addr.add_succ'] at h1
    unfold World.cell? at h1
    rw [show (⟨ad.block, ad.off + 2, none⟩ : Addr).block = q from e, h3] at h1
    simp at h1
  have hex : Ex q w ((w.setCell ⟨q, 0, none⟩ (.int .i64 a)).setCell ⟨q, 1, none⟩ b) := (Ex.set (g := q) (i := 0) w _).trans (Ex.set (i := 1) _ b)
  refine ⟨ad, rfl, Nat.lt_of_lt_of_le hB hex.size, fun i hi j u hu => ?_⟩
  exact hex.cell (hc i hi j u hu) (by rw [block_of_add, block_of_add]; simpa using hne)

theorem clone_v {s : Value} {l : List It} {w : World} (h : IV w s l) (hn : l.length ≤ 1000000) :
    Calls Try.prog 28 #[s] w fun e w' => ∃ v', e = .returned v' ∧ w'.ownsRow w.heap.size 27 3 v' l.length (l.flatMap It.cells) ∧ Below w.heap.size w w' := by
  obtain ⟨A, c, rfl, hA, _⟩ := h
  exact clone_it A c l w hA hn

set_option maxHeartbeats 2000000 in
set_option maxRecDepth 100000 in
theorem refs_v {s : Value} {l : List It} {w : World} (h : IV w s l) (hn : l.length ≤ 1000) :
    Calls Try.prog 15 #[s] w fun e w' => ∃ v', e = .returned v' ∧ IV w' v' l ∧ Below w.heap.size w w' := by
  obtain ⟨A, c, rfl, hA, _⟩ := h
  obtain ⟨n, hl⟩ : ∃ n, l.length = n := ⟨_, rfl⟩
  rw [hl] at hn ⊢
  have HL := Lib.hid hl
  have HA := Lib.hid hA
  have hn0 : ¬ ((n : Int) < 0) := by omega
  clear hl hA
  go_enter Try.func15, Try.ntmps15
  go_wp2
  go_loopw [3, 8] (fun ov iv wr => ∃ (k : Nat), iv = .int .i64 k ∧ k ≤ n ∧ Hid (wr.ownsRow w.heap.size 33 3 ov k ((l.take k).flatMap It.cells)) ∧ Below w.heap.size w wr) (fun _ iv _ => (n - intOf iv).toNat)
  case atStart => exact ⟨0, rfl, by omega, (show World.ownsRow _ _ _ _ _ _ _ from by simpa using World.ownsRow_nil w w.heap.size _ 3), Below.refl _ _⟩
  case round =>
    obtain ⟨k, rfl, hk, HO, hbr⟩ := hrel
    by_cases hlt : k < n
    · obtain ⟨ad, rfl, hab, hca⟩ := (HA.out.below hbr).seeI (by rw [HL.out]; omega)
      have hkl : k < l.length := by rw [HL.out]; exact hlt
      obtain ⟨c1, c2, c3⟩ := hca k hkl
      obtain ⟨x, hx⟩ : ∃ x, x = l[k]'hkl := ⟨_, rfl⟩
      rw [← hx] at c1 c2 c3
      have HX := Lib.hid (show (l.take (k + 1)).flatMap It.cells = (l.take k).flatMap It.cells ++ x.cells from by
        rw [List.take_succ_eq_append_getElem hkl, List.flatMap_append, hx]; simp)
      have hbs := hbr.size
      clear hx hca hkl
      obtain ⟨xa, xt, xd⟩ := x
      simp only at c1 c2 c3
      go_upto_region 5 with fail
      obtain ⟨g, hg⟩ : ∃ g, g = wr.heap.size := ⟨_, rfl⟩
      rw [← hg]
      obtain ⟨w2, hw2⟩ : ∃ w2, w2 = wr.alloc (.cells #[.int .i64 xa, .string xt, .bool xd] 27) := ⟨_, rfl⟩
      rw [← hw2]
      have hbx : Box w2 g 27 #[.int .i64 xa, .string xt, .bool xd] := by rw [hw2]; exact Box.at_ wr _ _ hg
      have hb2 : Below wr.heap.size wr w2 := by rw [hw2]; exact (Below.refl _ _).alloc (Nat.le_refl _) _
      have HO2 := Lib.hid (own_on HO.out hb2)
      have HB2 := Lib.hid (hbr.trans (hb2.mono hbs))
      have hs2 : w.heap.size ≤ w2.heap.size := HB2.out.size
      have k0 := Box.cell hbx 0 rfl
      have k1 := Box.cell hbx 1 rfl
      have k2 := Box.cell hbx 2 rfl
      clear hw2 hg hb2 hbx c1 c2 c3 HO hbr hbs
      go_wp2_with (at_builtin; refine push_it ritem_info Try.underlying30 _ rfl _ _ rfl w.heap.size _ k _ rfl (own_on HO2.out ((Below.refl _ _).alloc (Nat.le_refl _) _)) w2.heap.size ⟨xa, xt, xd⟩ rfl (Box.fresh _ _ _) (by omega) (by simp; omega) ?_)
      intro v' w3 hown hgr _
      have HO3 := Lib.hid (show w3.ownsRow w.heap.size 33 3 v' (k + 1) ((l.take (k + 1)).flatMap It.cells) from by rw [HX.out]; exact hown)
      have HB3 := Lib.hid ((HB2.out.alloc hs2 _).grown hgr (by simp; omega) (fun q hq => (own_lt HO2.out hq).1))
      clear hown hgr k0 k1 k2
      go_wp2
      go_roundw
      case rel => exact ⟨k + 1, by go_num, by omega, HO3.out, HB3.out⟩
      case measure => simp [intOf]; omega
    · have HE := Lib.hid (show k = n ∧ l.take k = l from by
        have : k = n := by omega
        exact ⟨this, List.take_of_length_le (by rw [HL.out]; omega)⟩)
      go_wp2
      go_ret
      refine ⟨_, rfl, IV.own (n := k) (base := w.heap.size) (e := 33) ?_ (by rw [HL.out]; exact HE.out.1), hbr⟩
      have h2 := HO.out
      rwa [HE.out.2] at h2

def CopV (g B : Nat) (m : Int) (A : Option Addr) (n c : Nat) (l : List It) (p t : Nat) (v : Value) (w : World) : Prop :=
  match t with
  | 3 => v = .pointer (some ⟨g, 0, none⟩)
  | 4 => v = .int .i64 m
  | 5 => v = .pointer (some ⟨g, 1, none⟩)
  | 6 => v = .slice A n c
  | 7 => p = 0 → ∃ A' c', v = .slice A' n c' ∧ World.ownsRow w B 27 3 (.slice A' n c') n (l.flatMap It.cells)
  | 8 => p = 0 → ∃ A' c', v = .agg #[.int .i64 m, .slice A' n c'] ∧ World.ownsRow w B 27 3 (.slice A' n c') n (l.flatMap It.cells)
  | _ => True
theorem CopV.on {g B : Nat} {m : Int} {A : Option Addr} {n c : Nat} {l : List It} {p t : Nat} {v : Value} {w w' : World} (h : CopV g B m A n c l p t v w) (hb : Below w.heap.size w w') : CopV g B m A n c l p t v w' := by
  unfold CopV at *
  split at h <;> first | exact h | exact fun e => (let ⟨s', c', e1, h1⟩ := h e; ⟨s', c', e1, own_on h1 hb⟩)

set_option maxHeartbeats 2000000 in
set_option maxRecDepth 100000 in
theorem copied_any {s : Value} {l : List It} (m : Int) (w : World) (hv : IV w s l) (hn : l.length ≤ 1000000) :
    Calls Try.prog 23 #[.agg #[.int .i64 m, s]] w fun e w' => ∃ s', e = .returned (.agg #[.int .i64 m, s']) ∧ w'.ownsRow w.heap.size 27 3 s' l.length (l.flatMap It.cells) ∧ Below w.heap.size w w' := by
  obtain ⟨A, c, rfl, hv⟩ := (show ∃ A c, s = .slice A l.length c ∧ IV w (.slice A l.length c) l from by obtain ⟨A, c, e, h⟩ := hv; exact ⟨A, c, e, A, c, rfl, h⟩)
  obtain ⟨n, hl⟩ : ∃ n, l.length = n := ⟨_, rfl⟩
  rw [hl] at hv hn ⊢
  have HL := Lib.hid hl
  obtain ⟨w1, hw1⟩ : ∃ w1, w1 = w.alloc (.cells #[.int .i64 m, .slice A n c] 24) := ⟨_, rfl⟩
  obtain ⟨w2, hw2⟩ : ∃ w2, w2 = w1.alloc (.cells #[.int .i64 0, .slice none 0 0] 24) := ⟨_, rfl⟩
  obtain ⟨g, hg⟩ : ∃ g, g = w.heap.size := ⟨_, rfl⟩
  obtain ⟨q, hq⟩ : ∃ q, q = w1.heap.size := ⟨_, rfl⟩
  obtain ⟨B, hB⟩ : ∃ B, B = w.heap.size := ⟨_, rfl⟩
  have hq1 : g + 1 = q := by rw [hq, hw1, hg]; simp
  have hb1 : Box w1 g 24 #[.int .i64 m, .slice A n c] := by rw [hw1]; exact Box.at_ w _ _ hg
  have BX := Lib.hid (show Box w2 g 24 #[.int .i64 m, .slice A n c] from by rw [hw2]; exact hb1.push _)
  have BQ := Lib.hid (show Box w2 q 24 #[.int .i64 0, .slice none 0 0] from by rw [hw2]; exact Box.at_ w1 _ _ hq)
  have hb2 : Below w.heap.size w w2 := by rw [hw2, hw1]; exact ((Below.refl _ _).alloc (Nat.le_refl _) _).alloc (by simp) _
  have HV := Lib.hid (hv.on hb2)
  have HB := Lib.hid hb2
  have HG := Lib.hid (show B ≤ w2.heap.size ∧ B ≤ q ∧ q < w2.heap.size from ⟨by rw [hB]; exact hb2.size, by omega, Box.lt BQ.out⟩)
  have HBB := Lib.hid hB
  have HN := Lib.hid hn
  clear hb1 hb2 hv hn hB hl
  go_enter Try.func23, Try.ntmps23
  go_upto_region 1 with fail
  rw [← hg, hq1, ← hw1, ← hw2]
  clear hg hq hq1 hw1 hw2
  refine wp_region_phase 14 [3, 4, 5, 6, 7, 8] (by kernel_rfl) [6] [] (fun _ _ => True) 1 rfl (by kernel_rfl) (SP (fun wx => Below w2.heap.size w2 wx) (fun wx => Ex q w2 wx ∧ ∃ s', Box wx q 24 #[.int .i64 m, s'] ∧ World.ownsRow wx B 27 3 s' n (l.flatMap It.cells)) (fun _ => True)) (fun wa wb => Below wa.heap.size wa wb) (CopV g B m A n c l) (by kernel_rfl) (SP.on below_grow (fun wa wb h hs => by obtain ⟨k, s', hb, ho⟩ := hs; exact ⟨k.trans (Ex.of h), s', hb.on h, own_on ho h⟩) (fun _ _ _ _ => trivial)) (fun _ t v wa wb h1 h2 => h2.on h1) (fun _ _ _ _ _ _ _ => trivial) (Below.refl _ _).drew trivial (phase1 ?_ ?_) ?_
  · refine Steps1.cons (fun _ ax wx hS _ hG => ?_) (Steps1.cons (fun _ ax wx hS _ hG => ?_) (Steps1.cons (fun _ ax wx hS _ hG => ?_) (Steps1.cons (fun _ ax wx hS _ hG => ?_) (Steps1.cons (fun _ ax wx hS _ hG => ?_) (Steps1.cons (fun _ ax wx hS _ hG => ?_) (Steps1.cons (fun _ ax wx hS _ hG => ?_) Steps1.nil))))))
    · have q1 := hG.old 1 (by kernel_rfl) (by kernel_rfl)
      refine step_slot rfl rfl rfl (step_value (v := .pointer (some ⟨g, 0, none⟩)) (w' := wx) rfl rfl ?_ (Below.refl _ _) (fun d hd => by cases hd; exact rfl))
      go_simp
    · obtain ⟨_, q3, rfl⟩ := hG.new 3 (by kernel_rfl) (by kernel_rfl)
      have z0 := Box.cell (BX.out.on hS) 0 rfl
      refine step_slot rfl rfl rfl (step_value (v := .int .i64 m) (w' := wx) rfl rfl ?_ (Below.refl _ _) (fun d hd => by cases hd; exact rfl))
      go_simp
    · have q1 := hG.old 1 (by kernel_rfl) (by kernel_rfl)
      refine step_slot rfl rfl rfl (step_value (v := .pointer (some ⟨g, 1, none⟩)) (w' := wx) rfl rfl ?_ (Below.refl _ _) (fun d hd => by cases hd; exact rfl))
      go_simp
    · obtain ⟨_, q5, rfl⟩ := hG.new 5 (by kernel_rfl) (by kernel_rfl)
      have z0 := Box.cell (BX.out.on hS) 1 rfl
      refine step_slot rfl rfl rfl (step_value (v := .slice A n c) (w' := wx) rfl rfl ?_ (Below.refl _ _) (fun d hd => by cases hd; exact rfl))
      go_simp
    · obtain ⟨_, q6, rfl⟩ := hG.new 6 (by kernel_rfl) (by kernel_rfl)
      refine step_slot rfl rfl rfl (step_call (w1 := wx) (f := 28) (args := #[.slice A n c]) rfl rfl ?_ ((clone_v (HV.out.on hS) (by rw [HL.out]; exact HN.out)).mono ?_))
      · skip
        go_simp
      · rintro e w' ⟨v', rfl, ho, hq⟩
        exact ⟨_, rfl, hq, fun d hd => by cases hd; exact fun _ => (let ⟨A7, c7, e7⟩ := own_shape ho; by subst e7; rw [HL.out] at ho ⊢; exact ⟨A7, c7, rfl, own_more ho (Nat.le_trans HG.out.1 (show Below _ _ _ from hS).size)⟩)⟩
    · obtain ⟨_, q4, rfl⟩ := hG.new 4 (by kernel_rfl) (by kernel_rfl)
      obtain ⟨v7, q7, h7⟩ := hG.new 7 (by kernel_rfl) (by kernel_rfl)
      have p7 : 0 = 0 → ∃ A' c', v7 = .slice A' n c' ∧ World.ownsRow wx B 27 3 (.slice A' n c') n (l.flatMap It.cells) := h7
      obtain ⟨A7, c7, rfl, o7⟩ := p7 rfl
      refine step_slot rfl rfl rfl (step_value (v := .agg #[.int .i64 m, .slice A7 n c7]) (w' := wx) rfl rfl ?_ (Below.refl _ _) (fun d hd => by cases hd; exact fun _ => ⟨_, _, rfl, o7⟩))
      clear h7 p7
      go_simp
    · have q2 := hG.old 2 (by kernel_rfl) (by kernel_rfl)
      obtain ⟨v8, q8, h8⟩ := hG.new 8 (by kernel_rfl) (by kernel_rfl)
      have p8 : 0 = 0 → ∃ A' c', v8 = .agg #[.int .i64 m, .slice A' n c'] ∧ World.ownsRow wx B 27 3 (.slice A' n c') n (l.flatMap It.cells) := h8
      obtain ⟨A8, c8, rfl, o8⟩ := p8 rfl
      have hbq := BQ.out.on hS
      have f0 := Box.free hbq 0
      have f1 := Box.free hbq 1
      have m0 := Box.cell hbq 0 rfl
      have m1 := Box.cell hbq 1 rfl
      have hk : World.ownsRow ((wx.setCell ⟨q, 0, none⟩ (.int .i64 m)).setCell ⟨q, 1, none⟩ (.slice A8 n c8)) B 27 3 (.slice A8 n c8) n (l.flatMap It.cells) := (((Ex.set (g := q) (i := 0) wx (.int .i64 m)).trans (Ex.set (i := 1) _ (.slice A8 n c8))) |> fun k => own_ex k o8 (own_off o8 hbq))
      refine step_store (w' := (wx.setCell ⟨q, 0, none⟩ (.int .i64 m)).setCell ⟨q, 1, none⟩ (.slice A8 n c8)) rfl rfl rfl rfl ?_ ⟨((Ex.of hS).trans (Ex.set _ _)).trans (Ex.set _ _), (.slice A8 n c8), (Box.set hbq 0 _).set 1 _, hk⟩ trivial ?_
      · clear hbq hS hk o8 p8 h8
        go_simp
      · intro t u _ hu hV
        unfold CopV at *
        split at hV <;> first | exact hV | exact fun h => absurd h (by decide)
  · refine Steps1.cons (fun hin _ _ _ _ _ => out (by kernel_rfl) hin) (Steps1.cons (fun hin _ _ _ _ _ => out (by kernel_rfl) hin) (Steps1.cons (fun hin _ _ _ _ _ => out (by kernel_rfl) hin) (Steps1.cons (fun hin _ _ _ _ _ => out (by kernel_rfl) hin) (Steps1.cons (fun hin _ _ _ _ _ => out (by kernel_rfl) hin) (Steps1.cons (fun hin _ _ _ _ _ => out (by kernel_rfl) hin) (Steps1.cons (fun hin _ _ _ _ _ => out (by kernel_rfl) hin) Steps1.nil))))))
  intro fv w8 hS8 _ hV8
  simp only [puts, Act.put, List.setIfInBounds_toArray, List.set_cons_succ, List.set_cons_zero]
  clear hV8
  obtain ⟨k8, s8, b8, o8⟩ := hS8
  have c0 := Box.cell b8 0 rfl
  have c1 := Box.cell b8 1 rfl
  have HK := Lib.hid k8
  have HO := Lib.hid o8
  clear k8 b8 o8
  go_wp2
  exact bodyPost_ret (v := .agg #[.int .i64 m, s8]) (by simp [results, Try.results23, go_sem, c0, c1]) rfl ⟨s8, rfl, by rw [← HBB.out]; exact HO.out, by rw [← HBB.out]; exact Ex.below (by rw [HBB.out]; exact HB.out) HK.out HG.out.2.1 HG.out.1⟩

def RefV (g B : Nat) (m : Int) (A : Option Addr) (n c : Nat) (l : List It) (p t : Nat) (v : Value) (w : World) : Prop :=
  match t with
  | 3 => v = .pointer (some ⟨g, 0, none⟩)
  | 4 => v = .int .i64 m
  | 5 => v = .pointer (some ⟨g, 1, none⟩)
  | 6 => v = .slice A n c
  | 7 => p = 0 → ∃ A' c', v = .slice A' n c' ∧ IV w (.slice A' n c') l
  | 8 => p = 0 → ∃ A' c', v = .agg #[.int .i64 m, .slice A' n c'] ∧ IV w (.slice A' n c') l
  | _ => True
theorem RefV.on {g B : Nat} {m : Int} {A : Option Addr} {n c : Nat} {l : List It} {p t : Nat} {v : Value} {w w' : World} (h : RefV g B m A n c l p t v w) (hb : Below w.heap.size w w') : RefV g B m A n c l p t v w' := by
  unfold RefV at *
  split at h <;> first | exact h | exact fun e => (let ⟨s', c', e1, h1⟩ := h e; ⟨s', c', e1, IV.on h1 hb⟩)

set_option maxHeartbeats 2000000 in
set_option maxRecDepth 100000 in
theorem ref_any {s : Value} {l : List It} (m : Int) (w : World) (hv : IV w s l) (hn : l.length ≤ 1000) :
    Calls Try.prog 12 #[.agg #[.int .i64 m, s]] w fun e w' => ∃ s', e = .returned (.agg #[.int .i64 m, s']) ∧ IV w' s' l ∧ Below w.heap.size w w' := by
  obtain ⟨A, c, rfl, hv⟩ := (show ∃ A c, s = .slice A l.length c ∧ IV w (.slice A l.length c) l from by obtain ⟨A, c, e, h⟩ := hv; exact ⟨A, c, e, A, c, rfl, h⟩)
  obtain ⟨n, hl⟩ : ∃ n, l.length = n := ⟨_, rfl⟩
  rw [hl] at hv hn ⊢
  have HL := Lib.hid hl
  obtain ⟨w1, hw1⟩ : ∃ w1, w1 = w.alloc (.cells #[.int .i64 m, .slice A n c] 24) := ⟨_, rfl⟩
  obtain ⟨w2, hw2⟩ : ∃ w2, w2 = w1.alloc (.cells #[.int .i64 0, .slice none 0 0] 32) := ⟨_, rfl⟩
  obtain ⟨g, hg⟩ : ∃ g, g = w.heap.size := ⟨_, rfl⟩
  obtain ⟨q, hq⟩ : ∃ q, q = w1.heap.size := ⟨_, rfl⟩
  obtain ⟨B, hB⟩ : ∃ B, B = w.heap.size := ⟨_, rfl⟩
  have hq1 : g + 1 = q := by rw [hq, hw1, hg]; simp
  have hb1 : Box w1 g 24 #[.int .i64 m, .slice A n c] := by rw [hw1]; exact Box.at_ w _ _ hg
  have BX := Lib.hid (show Box w2 g 24 #[.int .i64 m, .slice A n c] from by rw [hw2]; exact hb1.push _)
  have BQ := Lib.hid (show Box w2 q 32 #[.int .i64 0, .slice none 0 0] from by rw [hw2]; exact Box.at_ w1 _ _ hq)
  have hb2 : Below w.heap.size w w2 := by rw [hw2, hw1]; exact ((Below.refl _ _).alloc (Nat.le_refl _) _).alloc (by simp) _
  have HV := Lib.hid (hv.on hb2)
  have HB := Lib.hid hb2
  have HG := Lib.hid (show B ≤ w2.heap.size ∧ B ≤ q ∧ q < w2.heap.size from ⟨by rw [hB]; exact hb2.size, by omega, Box.lt BQ.out⟩)
  have HBB := Lib.hid hB
  have HN := Lib.hid hn
  clear hb1 hb2 hv hn hB hl
  go_enter Try.func12, Try.ntmps12
  go_upto_region 1 with fail
  rw [← hg, hq1, ← hw1, ← hw2]
  clear hg hq hq1 hw1 hw2
  refine wp_region_phase 14 [3, 4, 5, 6, 7, 8] (by kernel_rfl) [6] [] (fun _ _ => True) 1 rfl (by kernel_rfl) (SP (fun wx => Below w2.heap.size w2 wx) (fun wx => Ex q w2 wx ∧ ∃ s', Box wx q 32 #[.int .i64 m, s'] ∧ IV wx s' l) (fun _ => True)) (fun wa wb => Below wa.heap.size wa wb) (RefV g B m A n c l) (by kernel_rfl) (SP.on below_grow (fun wa wb h hs => by obtain ⟨k, s', hb, ho⟩ := hs; exact ⟨k.trans (Ex.of h), s', hb.on h, IV.on ho h⟩) (fun _ _ _ _ => trivial)) (fun _ t v wa wb h1 h2 => h2.on h1) (fun _ _ _ _ _ _ _ => trivial) (Below.refl _ _).drew trivial (phase1 ?_ ?_) ?_
  · refine Steps1.cons (fun _ ax wx hS _ hG => ?_) (Steps1.cons (fun _ ax wx hS _ hG => ?_) (Steps1.cons (fun _ ax wx hS _ hG => ?_) (Steps1.cons (fun _ ax wx hS _ hG => ?_) (Steps1.cons (fun _ ax wx hS _ hG => ?_) (Steps1.cons (fun _ ax wx hS _ hG => ?_) (Steps1.cons (fun _ ax wx hS _ hG => ?_) Steps1.nil))))))
    · have q1 := hG.old 1 (by kernel_rfl) (by kernel_rfl)
      refine step_slot rfl rfl rfl (step_value (v := .pointer (some ⟨g, 0, none⟩)) (w' := wx) rfl rfl ?_ (Below.refl _ _) (fun d hd => by cases hd; exact rfl))
      go_simp
    · obtain ⟨_, q3, rfl⟩ := hG.new 3 (by kernel_rfl) (by kernel_rfl)
      have z0 := Box.cell (BX.out.on hS) 0 rfl
      refine step_slot rfl rfl rfl (step_value (v := .int .i64 m) (w' := wx) rfl rfl ?_ (Below.refl _ _) (fun d hd => by cases hd; exact rfl))
      go_simp
    · have q1 := hG.old 1 (by kernel_rfl) (by kernel_rfl)
      refine step_slot rfl rfl rfl (step_value (v := .pointer (some ⟨g, 1, none⟩)) (w' := wx) rfl rfl ?_ (Below.refl _ _) (fun d hd => by cases hd; exact rfl))
      go_simp
    · obtain ⟨_, q5, rfl⟩ := hG.new 5 (by kernel_rfl) (by kernel_rfl)
      have z0 := Box.cell (BX.out.on hS) 1 rfl
      refine step_slot rfl rfl rfl (step_value (v := .slice A n c) (w' := wx) rfl rfl ?_ (Below.refl _ _) (fun d hd => by cases hd; exact rfl))
      go_simp
    · obtain ⟨_, q6, rfl⟩ := hG.new 6 (by kernel_rfl) (by kernel_rfl)
      refine step_slot rfl rfl rfl (step_call (w1 := wx) (f := 15) (args := #[.slice A n c]) rfl rfl ?_ ((refs_v (HV.out.on hS) (by rw [HL.out]; exact HN.out)).mono ?_))
      · skip
        go_simp
      · rintro e w' ⟨v', rfl, ho, hq⟩
        exact ⟨_, rfl, hq, fun d hd => by cases hd; exact fun _ => (by obtain ⟨A7, c7, rfl, ho⟩ := ho; rw [HL.out] at ho ⊢; exact ⟨A7, c7, rfl, A7, c7, by rw [HL.out], by rw [HL.out]; exact ho⟩)⟩
    · obtain ⟨_, q4, rfl⟩ := hG.new 4 (by kernel_rfl) (by kernel_rfl)
      obtain ⟨v7, q7, h7⟩ := hG.new 7 (by kernel_rfl) (by kernel_rfl)
      have p7 : 0 = 0 → ∃ A' c', v7 = .slice A' n c' ∧ IV wx (.slice A' n c') l := h7
      obtain ⟨A7, c7, rfl, o7⟩ := p7 rfl
      refine step_slot rfl rfl rfl (step_value (v := .agg #[.int .i64 m, .slice A7 n c7]) (w' := wx) rfl rfl ?_ (Below.refl _ _) (fun d hd => by cases hd; exact fun _ => ⟨_, _, rfl, o7⟩))
      clear h7 p7
      go_simp
    · have q2 := hG.old 2 (by kernel_rfl) (by kernel_rfl)
      obtain ⟨v8, q8, h8⟩ := hG.new 8 (by kernel_rfl) (by kernel_rfl)
      have p8 : 0 = 0 → ∃ A' c', v8 = .agg #[.int .i64 m, .slice A' n c'] ∧ IV wx (.slice A' n c') l := h8
      obtain ⟨A8, c8, rfl, o8⟩ := p8 rfl
      have hbq := BQ.out.on hS
      have f0 := Box.free hbq 0
      have f1 := Box.free hbq 1
      have m0 := Box.cell hbq 0 rfl
      have m1 := Box.cell hbq 1 rfl
      have hk : IV ((wx.setCell ⟨q, 0, none⟩ (.int .i64 m)).setCell ⟨q, 1, none⟩ (.slice A8 n c8)) (.slice A8 n c8) l := iv_off o8 hbq
      refine step_store (w' := (wx.setCell ⟨q, 0, none⟩ (.int .i64 m)).setCell ⟨q, 1, none⟩ (.slice A8 n c8)) rfl rfl rfl rfl ?_ ⟨((Ex.of hS).trans (Ex.set _ _)).trans (Ex.set _ _), (.slice A8 n c8), (Box.set hbq 0 _).set 1 _, hk⟩ trivial ?_
      · clear hbq hS hk o8 p8 h8
        go_simp
      · intro t u _ hu hV
        unfold RefV at *
        split at hV <;> first | exact hV | exact fun h => absurd h (by decide)
  · refine Steps1.cons (fun hin _ _ _ _ _ => out (by kernel_rfl) hin) (Steps1.cons (fun hin _ _ _ _ _ => out (by kernel_rfl) hin) (Steps1.cons (fun hin _ _ _ _ _ => out (by kernel_rfl) hin) (Steps1.cons (fun hin _ _ _ _ _ => out (by kernel_rfl) hin) (Steps1.cons (fun hin _ _ _ _ _ => out (by kernel_rfl) hin) (Steps1.cons (fun hin _ _ _ _ _ => out (by kernel_rfl) hin) (Steps1.cons (fun hin _ _ _ _ _ => out (by kernel_rfl) hin) Steps1.nil))))))
  intro fv w8 hS8 _ hV8
  simp only [puts, Act.put, List.setIfInBounds_toArray, List.set_cons_succ, List.set_cons_zero]
  clear hV8
  obtain ⟨k8, s8, b8, o8⟩ := hS8
  have c0 := Box.cell b8 0 rfl
  have c1 := Box.cell b8 1 rfl
  have HK := Lib.hid k8
  have HO := Lib.hid o8
  clear k8 b8 o8
  go_wp2
  exact bodyPost_ret (v := .agg #[.int .i64 m, s8]) (by simp [results, Try.results12, go_sem, c0, c1]) rfl ⟨s8, rfl, HO.out, by rw [← HBB.out]; exact Ex.below (by rw [HBB.out]; exact HB.out) HK.out HG.out.2.1 HG.out.1⟩

end Go.Proofs.Ythoffknkpogfhaa
