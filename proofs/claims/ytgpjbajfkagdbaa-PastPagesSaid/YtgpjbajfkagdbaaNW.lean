/- The walk of notesOf: a loop over an iterator. -/
import Derived.Test.YtgpjbajfkagdbaaMp
import Derived.Test.YtgpjbajfkagdbaaIB
import Derived.Maps.AppendAt
import Derived.Test.YtgpjbajfkagdbaaFct
set_option linter.unusedVariables false
set_option linter.unusedSimpArgs false
namespace Go.Proofs.Ytgpjbajfkagdbaa
open Go.RowKit Go.Shelf Go.Sort

attribute [local go_sem] Oper.semAt_some

/-- What is known between two rounds; g: where the function's own blocks begin. -/
structure NoI (w : World) (g : Nat) (v : Value) (l : List Pr) (B6 : Nat) (pre : List Ch) (W : World) : Prop where
  q : ∃ q, doL l pre = some q ∧ MapIs W (g + 4) pre q
  u : ∃ u, Box W (g + 3) 45 #[u] ∧ W.ownsRow B6 48 4 u pre.length ((pre.map noteC).flatMap Nt.cells)
  b0 : Box W g 22 #[v]
  b1 : Box W (g + 1) 45 #[.slice none 0 0]
  b2 : Box W (g + 2) 4 #[.bool false]
  b5 : Box W (g + 5) 102 #[.map (some (g + 4))]
  below : Below g w W
  size : B6 ≤ W.heap.size
/-- What is known where a round was left. -/
structure NoX (w : World) (g : Nat) (l : List Pr) (pre : List Ch) (W : World) : Prop where
  no : doL l pre = none
  b1 : Box W (g + 1) 45 #[.slice none 0 0]
  b2 : Box W (g + 2) 4 #[.bool false]
  below : Below g w W

theorem row_kept {W W' : World} {base e k n : Nat} {v : Value} {xs : List Value} {row : Option Nat} (h : W.ownsRow base e k v n xs) (hg : W.grownBy W' row) (hr : ∀ r, row = some r → ∃ o : Obj, W.heap[r]? = some o ∧ o.isCells = false) : W'.ownsRow base e k v n xs := by
  refine h.kept hg ?_
  rcases h.2 with ⟨rfl, _⟩ | ⟨gg, cap, cur, rfl, _, hgb, _⟩
  · exact .inl rfl
  · refine .inr fun e' => ?_
    obtain ⟨o, ho, hc⟩ := hr gg (by simpa [Value.ownBlock] using e'.symm)
    rw [hgb] at ho
    cases ho
    cases hc
theorem own_lt' {w : World} {base e k n : Nat} {b : Value} {xs : List Value} (h : w.ownsRow base e k b n xs) {g : Nat} (hg : b.ownBlock = some g) : base ≤ g := by
  obtain ⟨A, c, rfl⟩ := own_shape h
  exact (h.lt g hg).1
theorem NoI.own (w : World) (g : Nat) (v : Value) (l : List Pr) : OwnFrom (g + 6) (NoI w g v l (g + 6)) := by
  intro pre X Y row h hg hr
  have out : ∀ k, k < g + 6 → some k ≠ row := fun k hk e => by have := (hr k e.symm).1; omega
  obtain ⟨⟨q, h1, h2⟩, ⟨u, h3, h4⟩, h5, h6, h7, h8, h9, h10⟩ := h
  exact ⟨⟨q, h1, h2.kept hg (out _ (by omega))⟩, ⟨u, h3.grown hg (out _ (by omega)), row_kept h4 hg (fun r e => (hr r e).2)⟩, h5.grown hg (out _ (by omega)), h6.grown hg (out _ (by omega)), h7.grown hg (out _ (by omega)), h8.grown hg (out _ (by omega)),
    h9.grown hg (by omega) (fun k e => by have := (hr k e).1; omega), Nat.le_trans h10 hg.size⟩
theorem NoX.own (w : World) (g : Nat) (l : List Pr) (c : Code) (hgw : g ≤ w.heap.size) : OwnFrom (g + 6) (fun pre W => c = .ret ∧ NoX w g l pre W) := by
  intro pre X Y row h hg hr
  have out : ∀ k, k < g + 6 → some k ≠ row := fun k hk e => by have := (hr k e.symm).1; omega
  obtain ⟨h0, h1, h2, h3, h4⟩ := h
  exact ⟨h0, h1, h2.grown hg (out _ (by omega)), h3.grown hg (out _ (by omega)), h4.grown hg (by have := h4.size; omega) (fun k e => by have := (hr k e).1; omega)⟩
theorem NoI.on {w : World} {g : Nat} {v : Value} {l : List Pr} {pre : List Ch} {W W' : World} (h : NoI w g v l (g + 6) pre W) (hb : Below W.heap.size W W') : NoI w g v l (g + 6) pre W' := own_from_on (NoI.own w g v l) h hb

/-- The regions of a round. -/
theorem run_push_nt (w : World) (base : Nat) (v : Value) (n : Nat) (xs : List Value) (hown : w.ownsRow base 48 4 v n xs) (g : Nat) (r : List Value) (hl : r.length = 4 ∧ ∀ u ∈ r, u.oneCell' = true) (hbx : Box w g 48 r.toArray) (hn : n ≤ 100000) (hbase : base ≤ w.heap.size) :
    ∃ v' w', (∀ ty, (Builtin.append_ #[45, 45] ty #[v, .slice (some ⟨g, 0, none⟩) 1 1]).run Try.prog w = .ok v' w') ∧ w'.ownsRow base 48 4 v' (n + 1) (xs ++ r) ∧ w.grownBy w' v.ownBlock ∧ (v'.ownBlock = v.ownBlock ∨ v'.ownBlock = some w.heap.size) := by
  obtain ⟨i0, hi0, hz0, hz1, hz2⟩ := info_parts note_info
  obtain ⟨v', w', h1, h2, h3, _, h5⟩ := run_append_own_at (P := Try.prog) w base 45 0 48 i0 (.agg #[.int .i64 0, .string ⟨#[]⟩, .string ⟨#[]⟩, .int .u64 0]) 4 48 Try.underlying45 hi0 hz0 hz1 hz2 rfl (by decide) v n xs hown ⟨g, 0, none⟩ 1 1 r (by rw [hl.1])
    (fun j u hu => by
      have h3 := Box.cell hbx j (v := u) (by simpa using hu)
      rw [Addr.add_lit, Nat.zero_add]
      exact h3) hl.2 (by unfold maxLen; omega) (by omega) hbase
  exact ⟨v', w', fun _ => h1, h2, h3, h5⟩
theorem own_row_at {w : World} {base e k n : Nat} {v : Value} {xs : List Value} (h : w.ownsRow base e k v n xs) {j : Nat} (hj : v.ownBlock = some j) : ∃ cs s, w.heap[j]? = some (.cells cs e s) := by
  rcases h.2 with ⟨rfl, _⟩ | ⟨gg, cap, cur, rfl, _, hgb, _⟩
  · simp [Value.ownBlock] at hj
  · obtain rfl : gg = j := by simpa [Value.ownBlock] using hj
    exact ⟨_, _, hgb⟩
theorem K2.keeps {gg B : Nat} {T : TypeId} {r : Option Nat} {x y : World} (h : K2 gg r x y) (hg : gg < B) (hr : ∀ j, r = some j → ∃ cs s, x.heap[j]? = some (.cells cs T s)) : KeepsNot T B x y :=
  ⟨h.size, fun k o hB hk ho => (h.block k (Array.getElem?_eq_some_iff.1 hk).1 (by omega) (fun e => by
    obtain ⟨cs, s, hc⟩ := hr k e.symm
    rw [hk] at hc
    exact ho cs s (Option.some.inj hc))).trans hk⟩
def No8a (s : Int) (key : ByteArray) (mm : Bool) (b : ByteArray) (d : Bool) (a : ByteArray) (cv : ByteArray) (ch : Bool) (g Bx : Nat) (p t : Nat) (v : Value) (w : World) : Prop :=
  match t with
  | 27 => v = .agg #[.int .i64 s, .string key, .bool mm, .string b, .bool d, .string a]
  | 28 => v = .bool false
  | 29 => v = .bool true
  | 30 => v = .bool true
  | 31 => v = undef
  | 32 => v = undef
  | 33 => v = undef
  | 34 => v = undef
  | 35 => v = .bool true
  | _ => True
theorem No8a.on {s : Int} {key : ByteArray} {mm : Bool} {b : ByteArray} {d : Bool} {a : ByteArray} {cv : ByteArray} {ch : Bool} {g Bx : Nat} {p t : Nat} {v : Value} {w w' : World} (h : No8a s key mm b d a cv ch g Bx p t v w) (hb : Below w.heap.size w w') : No8a s key mm b d a cv ch g Bx p t v w' := by
  unfold No8a at *
  split at h <;> first | exact h

def No8b (s : Int) (key : ByteArray) (mm : Bool) (b : ByteArray) (d : Bool) (a : ByteArray) (cv : ByteArray) (ch : Bool) (g Bx : Nat) (p t : Nat) (v : Value) (w : World) : Prop :=
  match t with
  | 27 => v = .agg #[.int .i64 s, .string key, .bool mm, .string b, .bool d, .string a]
  | 28 => v = .bool true
  | 29 => v = .bool false
  | 30 => v = .bool false
  | 31 => v = .agg #[.bool ch, .string cv]
  | 32 => v = .agg #[.int .i64 s, .string key, .bool mm, .string b, .bool d, .string a]
  | 33 => v = .agg #[.bool mm, .string b]
  | 34 => v = .bool true
  | 35 => v = .bool true
  | _ => True
theorem No8b.on {s : Int} {key : ByteArray} {mm : Bool} {b : ByteArray} {d : Bool} {a : ByteArray} {cv : ByteArray} {ch : Bool} {g Bx : Nat} {p t : Nat} {v : Value} {w w' : World} (h : No8b s key mm b d a cv ch g Bx p t v w) (hb : Below w.heap.size w w') : No8b s key mm b d a cv ch g Bx p t v w' := by
  unfold No8b at *
  split at h <;> first | exact h

def No8c (s : Int) (key : ByteArray) (mm : Bool) (b : ByteArray) (d : Bool) (a : ByteArray) (cv : ByteArray) (ch : Bool) (g Bx : Nat) (p t : Nat) (v : Value) (w : World) : Prop :=
  match t with
  | 27 => v = .agg #[.int .i64 s, .string key, .bool mm, .string b, .bool d, .string a]
  | 28 => v = .bool true
  | 29 => v = .bool false
  | 30 => v = .bool false
  | 31 => v = .agg #[.bool ch, .string cv]
  | 32 => v = .agg #[.int .i64 s, .string key, .bool mm, .string b, .bool d, .string a]
  | 33 => v = .agg #[.bool mm, .string b]
  | 34 => v = .bool false
  | 35 => v = .bool false
  | _ => True
theorem No8c.on {s : Int} {key : ByteArray} {mm : Bool} {b : ByteArray} {d : Bool} {a : ByteArray} {cv : ByteArray} {ch : Bool} {g Bx : Nat} {p t : Nat} {v : Value} {w w' : World} (h : No8c s key mm b d a cv ch g Bx p t v w) (hb : Below w.heap.size w w') : No8c s key mm b d a cv ch g Bx p t v w' := by
  unfold No8c at *
  split at h <;> first | exact h

def No10 (s : Int) (key : ByteArray) (mm : Bool) (b : ByteArray) (d : Bool) (a : ByteArray) (cv : ByteArray) (ch : Bool) (g Bx : Nat) (p t : Nat) (v : Value) (w : World) : Prop :=
  match t with
  | 36 => v = .map (some (g + 4))
  | 37 => v = .pointer (some ⟨Bx, 1, none⟩)
  | 38 => v = .string key
  | 39 => v = .agg #[.int .i64 s, .string key, .bool mm, .string b, .bool d, .string a]
  | 40 => v = .agg #[.bool d, .string a]
  | _ => True
theorem No10.on {s : Int} {key : ByteArray} {mm : Bool} {b : ByteArray} {d : Bool} {a : ByteArray} {cv : ByteArray} {ch : Bool} {g Bx : Nat} {p t : Nat} {v : Value} {w w' : World} (h : No10 s key mm b d a cv ch g Bx p t v w) (hb : Below w.heap.size w w') : No10 s key mm b d a cv ch g Bx p t v w' := by
  unfold No10 at *
  split at h <;> first | exact h

def No11 (s : Int) (key : ByteArray) (mm : Bool) (b : ByteArray) (d : Bool) (a : ByteArray) (g Bx B6 n : Nat) (u : Value) (XS : List Value) (nk nn : Int) (nkey nval : ByteArray) (p t : Nat) (v : Value) (w : World) : Prop :=
  match t with
  | 41 => v = u
  | 42 => v = .agg #[.int .i64 s, .string key, .bool mm, .string b, .bool d, .string a]
  | 43 => v = .agg #[.int .i64 nk, .string nkey, .string nval, .int .u64 nn]
  | 44 => p = 0 → ∃ h, v = .slice (some ⟨h, 0, none⟩) 1 1 ∧ Box w h 48 #[.int .i64 nk, .string nkey, .string nval, .int .u64 nn]
  | 45 => p = 1 → ∃ A' c', v = .slice A' (n + 1) c' ∧ w.ownsRow B6 48 4 (.slice A' (n + 1) c') (n + 1) (XS ++ [.int .i64 nk, .string nkey, .string nval, .int .u64 nn])
  | _ => True
theorem No11.on {s : Int} {key : ByteArray} {mm : Bool} {b : ByteArray} {d : Bool} {a : ByteArray} {g Bx B6 n : Nat} {u : Value} {XS : List Value} {nk nn : Int} {nkey nval : ByteArray} {p t : Nat} {v : Value} {w w' : World} (h : No11 s key mm b d a g Bx B6 n u XS nk nn nkey nval p t v w) (hb : Below w.heap.size w w') : No11 s key mm b d a g Bx B6 n u XS nk nn nkey nval p t v w' := by
  unfold No11 at *
  split at h <;> first | exact h | exact fun e => (let ⟨q, e1, h1⟩ := h e; ⟨q, e1, h1.on hb⟩) | exact fun e => (let ⟨A', c', e1, h1⟩ := h e; ⟨A', c', e1, own_on h1 hb⟩)

set_option maxRecDepth 100000 in
set_option maxHeartbeats 4000000 in
theorem notesOf_any {v : Value} {l : List Pr} {C : List Ch} (gf : Nat) (lb : Array Value) (w : World) (hv : PV w v l) (hw : wellL l = true) (hn : l.length ≤ 100000) (hC : C.length ≤ 100000) (hk : ∀ c ∈ C, c.key.size ≤ maxLen)
    (eg : ∀ args w, (callFunc gf args).run Try.prog w = .ok (.enter gf args) w) (hseq : Gives 48 Try.prog gf lb (fun c : Ch => #[c.v]) (Below w.heap.size) C w) :
    Calls Try.prog 47 #[v, .func (.func gf) #[] lb] w fun e w' => ∃ u, e = .returned (.tuple #[u, .bool (doL l C).isSome]) ∧ ((doL l C).isSome = true → NV w' u (C.map noteC)) ∧ Below w.heap.size w w' := by
  have hmm := @run_makeMap Try.prog
  obtain ⟨A, ln, cap, rfl⟩ : ∃ A len cap, v = .slice A len cap := by obtain ⟨A, cap, e, _⟩ := hv; exact ⟨A, _, cap, e⟩
  have HV := Lib.hid hv
  obtain ⟨g, hg⟩ : ∃ q, q = w.heap.size := ⟨_, rfl⟩
  obtain ⟨w1, hw1⟩ : ∃ q, q = w.alloc (.cells #[.slice A ln cap] 22) := ⟨_, rfl⟩
  obtain ⟨w2, hw2⟩ : ∃ q, q = w1.alloc (.cells #[.slice none 0 0] 45) := ⟨_, rfl⟩
  obtain ⟨w3, hw3⟩ : ∃ q, q = w2.alloc (.cells #[.bool false] 4) := ⟨_, rfl⟩
  obtain ⟨w4, hw4⟩ : ∃ q, q = w3.alloc (.cells #[.slice none 0 0] 45) := ⟨_, rfl⟩
  obtain ⟨w5, hw5⟩ : ∃ q, q = w4.alloc (.map #[] 0) := ⟨_, rfl⟩
  obtain ⟨w6, hw6⟩ : ∃ q, q = w5.alloc (.cells #[.map (some (g + 4))] 102) := ⟨_, rfl⟩
  have e1 : w1.heap.size = g + 1 := by rw [hw1, hg]; simp
  have e2 : w2.heap.size = g + 2 := by rw [hw2]; simp [e1]
  have e3 : w3.heap.size = g + 3 := by rw [hw3]; simp [e2]
  have e4 : w4.heap.size = g + 4 := by rw [hw4]; simp [e3]
  have e5 : w5.heap.size = g + 5 := by rw [hw5]; simp [e4]
  have e6 : w6.heap.size = g + 6 := by rw [hw6]; simp [e5]
  have hb6 : Below g w w6 := by
    rw [hw6, hw5, hw4, hw3, hw2, hw1, hg]
    exact ((((((Below.refl _ _).alloc (Nat.le_refl _) _).alloc (by simp) _).alloc (by simp; omega) _).alloc (by simp; omega) _).alloc (by simp; omega) _).alloc (by simp; omega) _
  have hI0 : NoI w g (.slice A ln cap) l (g + 6) [] w6 := by
    refine ⟨⟨l, rfl, ?_⟩, ⟨.slice none 0 0, ?_, World.ownsRow_nil _ _ _ _⟩, ?_, ?_, ?_, ?_, hb6, by omega⟩
    · rw [hw6]
      refine MapIs.on ?_ ((Below.refl _ _).alloc (Nat.le_refl _) _)
      have := MapIs.made w4 l
      rw [hw5]; rwa [e4] at this
    · rw [hw6, hw5]; exact Box.push (Box.push (by rw [hw4]; exact Box.at_ w3 _ _ e3.symm) _) _
    · rw [hw6, hw5, hw4, hw3, hw2]; exact Box.push (Box.push (Box.push (Box.push (Box.push (by rw [hw1]; exact Box.at_ w _ _ hg) _) _) _) _) _
    · rw [hw6, hw5, hw4, hw3]; exact Box.push (Box.push (Box.push (Box.push (by rw [hw2]; exact Box.at_ w1 _ _ e1.symm) _) _) _) _
    · rw [hw6, hw5, hw4]; exact Box.push (Box.push (Box.push (by rw [hw3]; exact Box.at_ w2 _ _ e2.symm) _) _) _
    · rw [hw6]; exact Box.at_ w5 _ _ e5.symm
  refine (callsIn_wide (n := 3)).1 ?_
  refine callsIn_of_wp_marks Try.func47 rfl trivial ?_ rfl
  simp only [Try.ntmps47, List.size_toArray, List.length_cons, List.length_nil, Nat.reduceAdd, Nat.reduceSub, Array.replicate_succ, Array.replicate_zero, List.push_toArray, List.append_toArray, List.nil_append, List.cons_append]
  have HV2 := Lib.hid hv
  have HSEQ := Lib.hid hseq
  have HE6 := Lib.hid e6
  have HI0 := Lib.hid hI0
  clear hv e1 e2 e3 e4 e5 e6 hb6 hI0 hseq
  gi_wp2_with fail
  rw [← hg, show g + 1 + 1 + 1 + 1 + 1 = g + 5 from rfl, show g + 1 + 1 + 1 + 1 = g + 4 from rfl, show g + 1 + 1 + 1 = g + 3 from rfl, show g + 1 + 1 = g + 2 from rfl, ← hw1, ← hw2, ← hw3, ← hw4, ← hw5, ← hw6]
  have HG := Lib.hid hg
  clear hw1 hw2 hw3 hw4 hw5 hw6 hg hmm
  refine range_gives (T := 48) (gf := gf) (lb := lb) rfl eg HSEQ.out (fun h k => h.trans k) (fun W k o o' hk ho hoc => (Below.refl _ W).grown (grownBy_putObj' W k o') (by have := (Array.getElem?_eq_some_iff.1 ho).1; have := HE6.out; have := HG.out; omega) (fun j e => by cases e; have := HE6.out; have := HG.out; omega)) (by rw [← HG.out]; exact HI0.out.below) (fun _ => rfl)
    (NoI w g (.slice A ln cap) l (g + 6)) (fun c pre W => c = .ret ∧ NoX w g l pre W)
    (by rw [HE6.out]; exact NoI.own w g _ l) (fun c => by rw [HE6.out]; exact NoX.own w g l c (by rw [HG.out]; exact Nat.le_refl _)) HI0.out
    (fun x a' W => ∃ Bx, g + 6 ≤ Bx ∧ Box W Bx 55 (chCells x) ∧ a' = { tmps := #[.slice A ln cap, .func (.func gf) #[] lb, .pointer (some ⟨g, 0, none⟩), undef, .pointer (some ⟨g + 1, 0, none⟩), .pointer (some ⟨g + 2, 0, none⟩), .pointer (some ⟨g + 3, 0, none⟩), .pointer (some ⟨g + 5, 0, none⟩), .pointer (some ⟨Bx, 0, none⟩), undef, undef, .map (some (g + 4)), .func (.func gf) #[] lb, x.v,
      undef, undef, undef, undef, undef, undef, undef, undef, undef, undef, undef, undef, undef, undef, undef, undef, undef, undef, undef, undef, undef, undef, undef, undef, undef, undef, undef, undef, undef, undef, undef, undef, undef], defers := [] })
    ?_ ?assign ?body ?done ?stop
  · rintro x a' _ X Y row ⟨Bx, h1, h2, h3⟩ hgr hr
    exact ⟨Bx, h1, box_own' (B := w6.heap.size) () X Y row h2 hgr hr, h3⟩
  case assign =>
    rintro l' m pre ⟨s, key, mm, b, d, a⟩ W' K hsz h1 hpre hK
    simp only [Ch.v, chV]
    have H1 := Lib.hid h1
    have HK := Lib.hid hK
    have HSZ := Lib.hid (show g + 6 ≤ W'.heap.size from by rw [← HE6.out]; exact hsz)
    clear h1 hK hsz
    gi_wp2
    have hbn : Below W'.heap.size W' (W'.alloc (.cells #[.int .i64 s, .string key, .bool mm, .string b, .bool d, .string a] 55)) := (Below.refl _ _).alloc (Nat.le_refl _) _
    exact HK.out _ _ (KeepsNot.of_below hbn (Nat.le_refl _)) (hbn.mono (by have := HSZ.out; have := HG.out; omega)) (H1.out.on hbn) ⟨W'.heap.size, HSZ.out, Box.fresh _ _ _, rfl⟩
  case body =>
    rintro l' m pre ⟨s, key, mm, b, d, a⟩ a' W' hsz hI ⟨Bx, hBx, hbx, rfl⟩ hpre
    have hd1 : (Fence.wide.inRound l').depth.isSome = true → 1 ≤ m := fun h => by cases h
    have hkey : key.size ≤ maxLen := by obtain ⟨r, hr⟩ := hpre; exact hk ⟨s, key, mm, b, d, a⟩ (by rw [hr]; simp)
    have hpl : pre.length < 100000 := by obtain ⟨r, hr⟩ := hpre; have := congrArg List.length hr; simp at this; omega
    have hbx : Box W' Bx 55 #[.int .i64 s, .string key, .bool mm, .string b, .bool d, .string a] := hbx
    obtain ⟨⟨q, hq, hmap⟩, ⟨u, hu, ho⟩, hb0, hb1, hb2, hb5, hbw, hsz6⟩ := (show NoI w g (.slice A ln cap) l (g + 6) pre W' from hI)
    simp only [Ch.v, chV]
    obtain ⟨c0, c1, c2, c3, c4, c5⟩ : _ ∧ _ ∧ _ ∧ _ ∧ _ ∧ _ := ⟨hbx.cell 0 rfl, hbx.cell 1 rfl, hbx.cell 2 rfl, hbx.cell 3 rfl, hbx.cell 4 rfl, hbx.cell 5 rfl⟩
    have m5 := hb5.cell 0 rfl
    have m0 := hb0.cell 0 rfl
    obtain ⟨tb, htb⟩ : ∃ tb, touched pre key = tb := ⟨_, rfl⟩
    obtain ⟨cv, ch, hHI⟩ : ∃ cv ch, hasOf (getL q key) = (cv, ch) := ⟨_, _, rfl⟩
    clear hsz
    cases tb with
    | true =>
      gi_wp2_with (gi_at_lookup; refine wpListIn_lookup_map _ rfl _ _ rfl (g + 4) pre q rfl hmap key hkey rfl true htb ?_; intro sd hsd; rw [hsd rfl, hHI]; simp only; clear hsd sd)
      have hbWD : Below W'.heap.size W' (W'.alloc (.cells #[.bool ch, .string cv] 104)) := (Below.refl _ _).alloc (Nat.le_refl _) _
      have hbnWD := Box.fresh W' 104 #[.bool ch, .string cv]
      obtain ⟨wd, hwd⟩ : ∃ wd, wd = W'.alloc (.cells #[.bool ch, .string cv] 104) := ⟨_, rfl⟩
      rw [← hwd]
      have hbd : Below W'.heap.size W' wd := by rw [hwd]; exact hbWD
      have hbn : Box wd W'.heap.size 104 #[.bool ch, .string cv] := by rw [hwd]; exact hbnWD
      clear hwd hbWD hbnWD
      have HBD := Lib.hid hbd
      have HX := Lib.hid (show ∀ wx, Below wd.heap.size wd wx → _ ∧ _ ∧ _ ∧ _ ∧ _ ∧ _ from fun wx hh => let hx := (hbx.on hbd).on hh; ⟨hx.cell 0 rfl, hx.cell 1 rfl, hx.cell 2 rfl, hx.cell 3 rfl, hx.cell 4 rfl, hx.cell 5 rfl⟩)
      have HN := Lib.hid (show ∀ wx, Below wd.heap.size wd wx → _ ∧ _ from fun wx hh => let hx := hbn.on hh; ⟨hx.cell 0 rfl, hx.cell 1 rfl⟩)
      have HI := Lib.hid hI
      have HHI := Lib.hid (And.intro hHI hq)
      have HMAP := Lib.hid hmap
      have HBXX := Lib.hid hbx
      have HSZ := Lib.hid hsz6
      have HBX0 := Lib.hid hBx
      have HPLX := Lib.hid hpl
      clear hbd hbn hI hHI hq hmap hbx hsz6 hBx hpl c0 c1 c2 c3 c4 c5 m5 m0 hpre hu ho hb0 hb1 hb2 hb5 hbw hkey htb
      cases hm : mayC ⟨s, key, mm, b, d, a⟩ with
      | false =>
        have hc1 := fun w => may_any s key mm b d a w
        rw [hm] at hc1
        have HM1 := Lib.hid hc1
        clear hc1
        refine wpIn_region_phase (wide_round _) (by rintro ⟨_, _, hq⟩; exact hq) (by kernel_rfl) 14 [27, 28, 29, 30, 31, 32, 33, 34, 35] (by kernel_rfl) [] [] (fun _ _ => True) 0 rfl (by kernel_rfl) ((fun _ wx => Below wd.heap.size wd wx)) (fun wa wb => Below wa.heap.size wa wb) (No8a s key mm b d a cv ch g Bx) (by kernel_rfl) (fun _ wa wb h1 h2 => h2.trans (h1.mono h2.size)) (fun _ t v wa wb h1 h2 => h2.on h1) (fun _ _ _ _ _ _ _ => trivial) (Below.refl _ _).drew trivial (phase0 ?_) ?_
        · refine Steps1.cons (fun _ ax wx hS _ hG => ?_) (Steps1.cons (fun _ ax wx hS _ hG => ?_) (Steps1.cons (fun _ ax wx hS _ hG => ?_) (Steps1.cons (fun _ ax wx hS _ hG => ?_) (Steps1.cons (fun _ ax wx hS _ hG => ?_) (Steps1.cons (fun _ ax wx hS _ hG => ?_) (Steps1.cons (fun _ ax wx hS _ hG => ?_) (Steps1.cons (fun _ ax wx hS _ hG => ?_) (Steps1.cons (fun _ ax wx hS _ hG => ?_) Steps1.nil))))))))
          · have q8 := hG.old 8 (by kernel_rfl) (by kernel_rfl)
            obtain ⟨z0, z1, z2, z3, z4, z5⟩ := HX.out wx hS
            refine step_slot rfl rfl rfl (step_value (v := .agg #[.int .i64 s, .string key, .bool mm, .string b, .bool d, .string a]) (w' := wx) rfl rfl ?_ (Below.refl _ _) (fun d hd => by cases hd; exact rfl))
            go_simp
          · obtain ⟨_, q27, rfl⟩ := hG.new 27 (by kernel_rfl) (by kernel_rfl)
            refine step_slot rfl rfl rfl (step_call (w1 := wx) (f := 32) (args := #[.agg #[.int .i64 s, .string key, .bool mm, .string b, .bool d, .string a]]) rfl rfl ?_ ((HM1.out wx).mono ?_))
            · skip
              go_simp
            · rintro e w' ⟨rfl, hq⟩
              exact ⟨_, rfl, hq, fun d hd => by cases hd; exact rfl⟩
          · obtain ⟨_, q28, rfl⟩ := hG.new 28 (by kernel_rfl) (by kernel_rfl)
            refine step_slot rfl rfl rfl (step_value (v := .bool true) (w' := wx) rfl rfl ?_ (Below.refl _ _) (fun d hd => by cases hd; exact rfl))
            go_simp
          · obtain ⟨_, q29, rfl⟩ := hG.new 29 (by kernel_rfl) (by kernel_rfl)
            refine step_slot rfl rfl rfl (step_value (v := .bool true) (w' := wx) rfl rfl ?_ (Below.refl _ _) (fun d hd => by cases hd; exact rfl))
            go_simp
          · obtain ⟨_, q30, rfl⟩ := hG.new 30 (by kernel_rfl) (by kernel_rfl)
            refine step_slot rfl rfl rfl (step_past rfl (by simp [Region.wanted, yielded, q30, undef]) (Below.refl _ _) (fun d hd => by cases hd; exact rfl))
          · obtain ⟨_, q30, rfl⟩ := hG.new 30 (by kernel_rfl) (by kernel_rfl)
            refine step_slot rfl rfl rfl (step_past rfl (by simp [Region.wanted, yielded, q30, undef]) (Below.refl _ _) (fun d hd => by cases hd; exact rfl))
          · obtain ⟨_, q30, rfl⟩ := hG.new 30 (by kernel_rfl) (by kernel_rfl)
            refine step_slot rfl rfl rfl (step_past rfl (by simp [Region.wanted, yielded, q30, undef]) (Below.refl _ _) (fun d hd => by cases hd; exact rfl))
          · obtain ⟨_, q30, rfl⟩ := hG.new 30 (by kernel_rfl) (by kernel_rfl)
            refine step_slot rfl rfl rfl (step_past rfl (by simp [Region.wanted, yielded, q30, undef]) (Below.refl _ _) (fun d hd => by cases hd; exact rfl))
          · obtain ⟨_, q30, rfl⟩ := hG.new 30 (by kernel_rfl) (by kernel_rfl)
            obtain ⟨_, q34, rfl⟩ := hG.new 34 (by kernel_rfl) (by kernel_rfl)
            refine step_slot rfl rfl rfl (step_value (v := .bool true) (w' := wx) rfl rfl ?_ (Below.refl _ _) (fun d hd => by cases hd; exact rfl))
            go_simp
        intro fv w8 hS8 _ hV8
        have e35 : fv 35 = .bool true := hV8 35 (by decide)
        simp only [puts, Act.put, List.setIfInBounds_toArray, List.set_cons_succ, List.set_cons_zero]
        clear hV8
        rw [e35]
        have hI8 := HI.out.on (HBD.out.trans ((show Below wd.heap.size wd w8 from hS8).mono HBD.out.size))
        have hk8 : Below W'.heap.size W' w8 := HBD.out.trans ((show Below wd.heap.size wd w8 from hS8).mono HBD.out.size)
        obtain ⟨_, _, _, i1, i2, _, ib, is⟩ := hI8
        have f1 := i1.free 0
        have f2 := i2.free 0
        have k1 := i1.cell 0 rfl
        have k2 := i2.cell 0 rfl
        obtain ⟨wz, hz⟩ : ∃ wz, wz = (w8.setCell ⟨g + 1, 0, none⟩ (.slice none 0 0)).setCell ⟨g + 2, 0, none⟩ (.bool false) := ⟨_, rfl⟩
        have HF := Lib.hid (show KeepsNot 48 w6.heap.size W' wz ∧ Code.ret = Code.ret ∧ NoX w g l (pre ++ [⟨s, key, mm, b, d, a⟩]) wz from by
          refine ⟨((KeepsNot.of_below hk8 (Nat.le_refl _)).trans (KeepsNot.of_grown (grownBy_setCell' w8 (g + 1) _) (fun j e => .inl (by cases e; have := HE6.out; omega)))).trans (by rw [hz]; exact KeepsNot.of_grown (grownBy_setCell' _ (g + 2) _) (fun j e => .inl (by cases e; have := HE6.out; omega))), rfl, ?_, ?_, ?_, ?_⟩
          · rw [doL_snoc, HHI.out.2]
            show (if okC q ⟨s, key, mm, b, d, a⟩ then _ else none) = none
            rw [if_neg]
            intro e
            obtain ⟨h1, h2⟩ := okC_iff.1 e
            rw [hm] at h1; cases h1
          · rw [hz]; exact (Box.set i1 0 _).away (by simp) _
          · rw [hz]; exact Box.set (Box.away i2 (by simp) _) 0 _
          · rw [hz]; exact (ib.setCell (p := ⟨g + 1, 0, none⟩) (by simp) _).setCell (p := ⟨g + 2, 0, none⟩) (by simp) _)
        clear i1 i2 ib is hk8 hS8
        gi_wp2
        rw [← hz]
        exact ⟨HF.out.1, rfl, HF.out.2.2⟩
      | true =>
        have hc1 := fun w => may_any s key mm b d a w
        rw [hm] at hc1
        have HM1 := Lib.hid hc1
        clear hc1
        by_cases hd : ch = mm ∧ cv = b
        case neg =>
          have HD := Lib.hid hd
          clear hd
          refine wpIn_region_phase (wide_round _) (by rintro ⟨_, _, hq⟩; exact hq) (by kernel_rfl) 14 [27, 28, 29, 30, 31, 32, 33, 34, 35] (by kernel_rfl) [] [] (fun _ _ => True) 0 rfl (by kernel_rfl) ((fun _ wx => Below wd.heap.size wd wx)) (fun wa wb => Below wa.heap.size wa wb) (No8b s key mm b d a cv ch g Bx) (by kernel_rfl) (fun _ wa wb h1 h2 => h2.trans (h1.mono h2.size)) (fun _ t v wa wb h1 h2 => h2.on h1) (fun _ _ _ _ _ _ _ => trivial) (Below.refl _ _).drew trivial (phase0 ?_) ?_
          · refine Steps1.cons (fun _ ax wx hS _ hG => ?_) (Steps1.cons (fun _ ax wx hS _ hG => ?_) (Steps1.cons (fun _ ax wx hS _ hG => ?_) (Steps1.cons (fun _ ax wx hS _ hG => ?_) (Steps1.cons (fun _ ax wx hS _ hG => ?_) (Steps1.cons (fun _ ax wx hS _ hG => ?_) (Steps1.cons (fun _ ax wx hS _ hG => ?_) (Steps1.cons (fun _ ax wx hS _ hG => ?_) (Steps1.cons (fun _ ax wx hS _ hG => ?_) Steps1.nil))))))))
            · have q8 := hG.old 8 (by kernel_rfl) (by kernel_rfl)
              obtain ⟨z0, z1, z2, z3, z4, z5⟩ := HX.out wx hS
              refine step_slot rfl rfl rfl (step_value (v := .agg #[.int .i64 s, .string key, .bool mm, .string b, .bool d, .string a]) (w' := wx) rfl rfl ?_ (Below.refl _ _) (fun d hd => by cases hd; exact rfl))
              go_simp
            · obtain ⟨_, q27, rfl⟩ := hG.new 27 (by kernel_rfl) (by kernel_rfl)
              refine step_slot rfl rfl rfl (step_call (w1 := wx) (f := 32) (args := #[.agg #[.int .i64 s, .string key, .bool mm, .string b, .bool d, .string a]]) rfl rfl ?_ ((HM1.out wx).mono ?_))
              · skip
                go_simp
              · rintro e w' ⟨rfl, hq⟩
                exact ⟨_, rfl, hq, fun d hd => by cases hd; exact rfl⟩
            · obtain ⟨_, q28, rfl⟩ := hG.new 28 (by kernel_rfl) (by kernel_rfl)
              refine step_slot rfl rfl rfl (step_value (v := .bool false) (w' := wx) rfl rfl ?_ (Below.refl _ _) (fun d hd => by cases hd; exact rfl))
              go_simp
            · obtain ⟨_, q29, rfl⟩ := hG.new 29 (by kernel_rfl) (by kernel_rfl)
              refine step_slot rfl rfl rfl (step_value (v := .bool false) (w' := wx) rfl rfl ?_ (Below.refl _ _) (fun d hd => by cases hd; exact rfl))
              go_simp
            · obtain ⟨_, q30, rfl⟩ := hG.new 30 (by kernel_rfl) (by kernel_rfl)
              have q9 := hG.old 9 (by kernel_rfl) (by kernel_rfl)
              obtain ⟨z0, z1⟩ := HN.out wx hS
              refine step_slot rfl rfl rfl (step_value (v := .agg #[.bool ch, .string cv]) (w' := wx) rfl (by simp [Region.wanted, yielded, q30, undef]) ?_ (Below.refl _ _) (fun d hd => by cases hd; exact rfl))
              go_simp
            · obtain ⟨_, q30, rfl⟩ := hG.new 30 (by kernel_rfl) (by kernel_rfl)
              have q8 := hG.old 8 (by kernel_rfl) (by kernel_rfl)
              obtain ⟨z0, z1, z2, z3, z4, z5⟩ := HX.out wx hS
              refine step_slot rfl rfl rfl (step_value (v := .agg #[.int .i64 s, .string key, .bool mm, .string b, .bool d, .string a]) (w' := wx) rfl (by simp [Region.wanted, yielded, q30, undef]) ?_ (Below.refl _ _) (fun d hd => by cases hd; exact rfl))
              go_simp
            · obtain ⟨_, q30, rfl⟩ := hG.new 30 (by kernel_rfl) (by kernel_rfl)
              obtain ⟨_, q32, rfl⟩ := hG.new 32 (by kernel_rfl) (by kernel_rfl)
              refine step_slot rfl rfl rfl (step_call (w1 := wx) (f := 60) (args := #[.agg #[.int .i64 s, .string key, .bool mm, .string b, .bool d, .string a]]) rfl (by simp [Region.wanted, yielded, q30, undef]) ?_ ((ahead_any s key mm b d a wx).mono ?_))
              · skip
                go_simp
              · rintro e w' ⟨rfl, hq⟩
                exact ⟨_, rfl, hq, fun d hd => by cases hd; exact rfl⟩
            · obtain ⟨_, q30, rfl⟩ := hG.new 30 (by kernel_rfl) (by kernel_rfl)
              obtain ⟨_, q31, rfl⟩ := hG.new 31 (by kernel_rfl) (by kernel_rfl)
              obtain ⟨_, q33, rfl⟩ := hG.new 33 (by kernel_rfl) (by kernel_rfl)
              have hd := HD.out
              refine step_slot rfl rfl rfl (step_value (v := .bool true) (w' := wx) rfl (by simp [Region.wanted, yielded, q30, undef]) ?_ (Below.refl _ _) (fun d hd => by cases hd; exact rfl))
              (go_simp; first | done | exact hd | exact fun e f => hd ⟨e, tl_inj f⟩ | simp [hd])
            · obtain ⟨_, q30, rfl⟩ := hG.new 30 (by kernel_rfl) (by kernel_rfl)
              obtain ⟨_, q34, rfl⟩ := hG.new 34 (by kernel_rfl) (by kernel_rfl)
              refine step_slot rfl rfl rfl (step_value (v := .bool true) (w' := wx) rfl rfl ?_ (Below.refl _ _) (fun d hd => by cases hd; exact rfl))
              go_simp
          intro fv w8 hS8 _ hV8
          have e35 : fv 35 = .bool true := hV8 35 (by decide)
          simp only [puts, Act.put, List.setIfInBounds_toArray, List.set_cons_succ, List.set_cons_zero]
          clear hV8
          rw [e35]
          have hI8 := HI.out.on (HBD.out.trans ((show Below wd.heap.size wd w8 from hS8).mono HBD.out.size))
          have hk8 : Below W'.heap.size W' w8 := HBD.out.trans ((show Below wd.heap.size wd w8 from hS8).mono HBD.out.size)
          obtain ⟨_, _, _, i1, i2, _, ib, is⟩ := hI8
          have f1 := i1.free 0
          have f2 := i2.free 0
          have k1 := i1.cell 0 rfl
          have k2 := i2.cell 0 rfl
          obtain ⟨wz, hz⟩ : ∃ wz, wz = (w8.setCell ⟨g + 1, 0, none⟩ (.slice none 0 0)).setCell ⟨g + 2, 0, none⟩ (.bool false) := ⟨_, rfl⟩
          have HF := Lib.hid (show KeepsNot 48 w6.heap.size W' wz ∧ Code.ret = Code.ret ∧ NoX w g l (pre ++ [⟨s, key, mm, b, d, a⟩]) wz from by
            refine ⟨((KeepsNot.of_below hk8 (Nat.le_refl _)).trans (KeepsNot.of_grown (grownBy_setCell' w8 (g + 1) _) (fun j e => .inl (by cases e; have := HE6.out; omega)))).trans (by rw [hz]; exact KeepsNot.of_grown (grownBy_setCell' _ (g + 2) _) (fun j e => .inl (by cases e; have := HE6.out; omega))), rfl, ?_, ?_, ?_, ?_⟩
            · rw [doL_snoc, HHI.out.2]
              show (if okC q ⟨s, key, mm, b, d, a⟩ then _ else none) = none
              rw [if_neg]
              intro e
              obtain ⟨h1, h2⟩ := okC_iff.1 e
              have h3 := (may_sides h1).1
              rw [← h2, HHI.out.1] at h3
              injection h3 with h3 h4
              exact HD.out ⟨h4, h3⟩
            · rw [hz]; exact (Box.set i1 0 _).away (by simp) _
            · rw [hz]; exact Box.set (Box.away i2 (by simp) _) 0 _
            · rw [hz]; exact (ib.setCell (p := ⟨g + 1, 0, none⟩) (by simp) _).setCell (p := ⟨g + 2, 0, none⟩) (by simp) _)
          clear i1 i2 ib is hk8 hS8
          gi_wp2
          rw [← hz]
          exact ⟨HF.out.1, rfl, HF.out.2.2⟩
        have HD := Lib.hid hd
        clear hd
        refine wpIn_region_phase (wide_round _) (by rintro ⟨_, _, hq⟩; exact hq) (by kernel_rfl) 14 [27, 28, 29, 30, 31, 32, 33, 34, 35] (by kernel_rfl) [] [] (fun _ _ => True) 0 rfl (by kernel_rfl) ((fun _ wx => Below wd.heap.size wd wx)) (fun wa wb => Below wa.heap.size wa wb) (No8c s key mm b d a cv ch g Bx) (by kernel_rfl) (fun _ wa wb h1 h2 => h2.trans (h1.mono h2.size)) (fun _ t v wa wb h1 h2 => h2.on h1) (fun _ _ _ _ _ _ _ => trivial) (Below.refl _ _).drew trivial (phase0 ?_) ?_
        · refine Steps1.cons (fun _ ax wx hS _ hG => ?_) (Steps1.cons (fun _ ax wx hS _ hG => ?_) (Steps1.cons (fun _ ax wx hS _ hG => ?_) (Steps1.cons (fun _ ax wx hS _ hG => ?_) (Steps1.cons (fun _ ax wx hS _ hG => ?_) (Steps1.cons (fun _ ax wx hS _ hG => ?_) (Steps1.cons (fun _ ax wx hS _ hG => ?_) (Steps1.cons (fun _ ax wx hS _ hG => ?_) (Steps1.cons (fun _ ax wx hS _ hG => ?_) Steps1.nil))))))))
          · have q8 := hG.old 8 (by kernel_rfl) (by kernel_rfl)
            obtain ⟨z0, z1, z2, z3, z4, z5⟩ := HX.out wx hS
            refine step_slot rfl rfl rfl (step_value (v := .agg #[.int .i64 s, .string key, .bool mm, .string b, .bool d, .string a]) (w' := wx) rfl rfl ?_ (Below.refl _ _) (fun d hd => by cases hd; exact rfl))
            go_simp
          · obtain ⟨_, q27, rfl⟩ := hG.new 27 (by kernel_rfl) (by kernel_rfl)
            refine step_slot rfl rfl rfl (step_call (w1 := wx) (f := 32) (args := #[.agg #[.int .i64 s, .string key, .bool mm, .string b, .bool d, .string a]]) rfl rfl ?_ ((HM1.out wx).mono ?_))
            · skip
              go_simp
            · rintro e w' ⟨rfl, hq⟩
              exact ⟨_, rfl, hq, fun d hd => by cases hd; exact rfl⟩
          · obtain ⟨_, q28, rfl⟩ := hG.new 28 (by kernel_rfl) (by kernel_rfl)
            refine step_slot rfl rfl rfl (step_value (v := .bool false) (w' := wx) rfl rfl ?_ (Below.refl _ _) (fun d hd => by cases hd; exact rfl))
            go_simp
          · obtain ⟨_, q29, rfl⟩ := hG.new 29 (by kernel_rfl) (by kernel_rfl)
            refine step_slot rfl rfl rfl (step_value (v := .bool false) (w' := wx) rfl rfl ?_ (Below.refl _ _) (fun d hd => by cases hd; exact rfl))
            go_simp
          · obtain ⟨_, q30, rfl⟩ := hG.new 30 (by kernel_rfl) (by kernel_rfl)
            have q9 := hG.old 9 (by kernel_rfl) (by kernel_rfl)
            obtain ⟨z0, z1⟩ := HN.out wx hS
            refine step_slot rfl rfl rfl (step_value (v := .agg #[.bool ch, .string cv]) (w' := wx) rfl (by simp [Region.wanted, yielded, q30, undef]) ?_ (Below.refl _ _) (fun d hd => by cases hd; exact rfl))
            go_simp
          · obtain ⟨_, q30, rfl⟩ := hG.new 30 (by kernel_rfl) (by kernel_rfl)
            have q8 := hG.old 8 (by kernel_rfl) (by kernel_rfl)
            obtain ⟨z0, z1, z2, z3, z4, z5⟩ := HX.out wx hS
            refine step_slot rfl rfl rfl (step_value (v := .agg #[.int .i64 s, .string key, .bool mm, .string b, .bool d, .string a]) (w' := wx) rfl (by simp [Region.wanted, yielded, q30, undef]) ?_ (Below.refl _ _) (fun d hd => by cases hd; exact rfl))
            go_simp
          · obtain ⟨_, q30, rfl⟩ := hG.new 30 (by kernel_rfl) (by kernel_rfl)
            obtain ⟨_, q32, rfl⟩ := hG.new 32 (by kernel_rfl) (by kernel_rfl)
            refine step_slot rfl rfl rfl (step_call (w1 := wx) (f := 60) (args := #[.agg #[.int .i64 s, .string key, .bool mm, .string b, .bool d, .string a]]) rfl (by simp [Region.wanted, yielded, q30, undef]) ?_ ((ahead_any s key mm b d a wx).mono ?_))
            · skip
              go_simp
            · rintro e w' ⟨rfl, hq⟩
              exact ⟨_, rfl, hq, fun d hd => by cases hd; exact rfl⟩
          · obtain ⟨_, q30, rfl⟩ := hG.new 30 (by kernel_rfl) (by kernel_rfl)
            obtain ⟨_, q31, rfl⟩ := hG.new 31 (by kernel_rfl) (by kernel_rfl)
            obtain ⟨_, q33, rfl⟩ := hG.new 33 (by kernel_rfl) (by kernel_rfl)
            have hd := HD.out
            refine step_slot rfl rfl rfl (step_value (v := .bool false) (w' := wx) rfl (by simp [Region.wanted, yielded, q30, undef]) ?_ (Below.refl _ _) (fun d hd => by cases hd; exact rfl))
            (go_simp; first | done | exact hd | exact fun e f => hd ⟨e, tl_inj f⟩ | simp [hd])
          · obtain ⟨_, q30, rfl⟩ := hG.new 30 (by kernel_rfl) (by kernel_rfl)
            obtain ⟨_, q34, rfl⟩ := hG.new 34 (by kernel_rfl) (by kernel_rfl)
            refine step_slot rfl rfl rfl (step_value (v := .bool false) (w' := wx) rfl rfl ?_ (Below.refl _ _) (fun d hd => by cases hd; exact rfl))
            go_simp
        intro fv w8 hS8 _ hV8
        have e35 : fv 35 = .bool false := hV8 35 (by decide)
        simp only [puts, Act.put, List.setIfInBounds_toArray, List.set_cons_succ, List.set_cons_zero]
        clear hV8
        rw [e35]
        have hk8 : Below W'.heap.size W' w8 := HBD.out.trans ((show Below wd.heap.size wd w8 from hS8).mono HBD.out.size)
        have hI8 := HI.out.on hk8
        obtain ⟨_, ⟨u, hu, ho⟩, i0, i1, i2, i5, ib, is⟩ := hI8
        have HMP := Lib.hid (HMAP.out.on hk8)
        have HMC := Lib.hid (show mayC ⟨s, key, mm, b, d, a⟩ = true from hm)
        have HPL := Lib.hid (show pre.length < maxLen from by have := HPLX.out; unfold maxLen; omega)
        have HX8 := Lib.hid (show ∀ wx, Below w8.heap.size w8 wx → _ ∧ _ ∧ _ ∧ _ ∧ _ ∧ _ from fun wx hh => let hx := (HBXX.out.on hk8).on hh; ⟨hx.cell 0 rfl, hx.cell 1 rfl, hx.cell 2 rfl, hx.cell 3 rfl, hx.cell 4 rfl, hx.cell 5 rfl⟩)
        have HM8 := Lib.hid (show ∀ wx, Below w8.heap.size w8 wx → wx.cell? ⟨g + 5, 0, none⟩ = some (.map (some (g + 4))) from fun wx hh => (i5.on hh).cell 0 rfl)
        have HU8 := Lib.hid hu
        have HO8 := Lib.hid ho
        have I0 := Lib.hid i0
        have I1 := Lib.hid i1
        have I2 := Lib.hid i2
        have I5 := Lib.hid i5
        have IB := Lib.hid ib
        have IS := Lib.hid is
        have HK8 := Lib.hid hk8
        have HOKC := Lib.hid (show okC q ⟨s, key, mm, b, d, a⟩ = true from okC_iff.2 ⟨hm, by
          have h3 := (may_sides hm).1
          have h4 : hasOf (getL q key) = hasOf (aheadO ⟨s, key, mm, b, d, a⟩) := by rw [h3, HHI.out.1, HD.out.1, HD.out.2]
          have h5 := congrArg optOf h4
          rwa [opt_has, opt_has] at h5⟩)
        clear hS8 hk8 hu ho i0 i1 i2 i5 ib is
        gi_wp2_with fail
        refine wpIn_region_phase (wide_round _) (by rintro ⟨_, _, hq⟩; exact hq) (by kernel_rfl) 14 [36, 37, 38, 39, 40] (by kernel_rfl) [5] [] (fun _ _ => True) 1 rfl (by kernel_rfl) (SP (fun wx => Below w8.heap.size w8 wx) (fun wx => MapIs wx (g + 4) (pre ++ [⟨s, key, mm, b, d, a⟩]) (doC q ⟨s, key, mm, b, d, a⟩) ∧ w8.grownBy wx (some (g + 4))) (fun _ => True)) (fun wa wb => Below wa.heap.size wa wb) (No10 s key mm b d a cv ch g Bx) (by kernel_rfl) (SP.on below_grow (fun wa wb h hs => ⟨hs.1.on h, grown_trans hs.2 (below_row h _)⟩) (fun _ _ _ _ => trivial)) (fun _ t v wa wb h1 h2 => h2.on h1) (fun _ _ _ _ _ _ _ => trivial) (Below.refl _ _).drew trivial (phase1 ?_ ?_) ?_
        · refine Steps1.cons (fun _ ax wx hS _ hG => ?_) (Steps1.cons (fun _ ax wx hS _ hG => ?_) (Steps1.cons (fun _ ax wx hS _ hG => ?_) (Steps1.cons (fun _ ax wx hS _ hG => ?_) (Steps1.cons (fun _ ax wx hS _ hG => ?_) (Steps1.cons (fun _ ax wx hS _ hG => ?_) Steps1.nil)))))
          · have q7 := hG.old 7 (by kernel_rfl) (by kernel_rfl)
            have z0 := HM8.out wx hS
            refine step_slot rfl rfl rfl (step_value (v := .map (some (g + 4))) (w' := wx) rfl rfl ?_ (Below.refl _ _) (fun d hd => by cases hd; exact rfl))
            go_simp
          · have q8 := hG.old 8 (by kernel_rfl) (by kernel_rfl)
            refine step_slot rfl rfl rfl (step_value (v := .pointer (some ⟨Bx, 1, none⟩)) (w' := wx) rfl rfl ?_ (Below.refl _ _) (fun d hd => by cases hd; exact rfl))
            go_simp
          · obtain ⟨_, q37, rfl⟩ := hG.new 37 (by kernel_rfl) (by kernel_rfl)
            obtain ⟨z0, z1, z2, z3, z4, z5⟩ := HX8.out wx hS
            refine step_slot rfl rfl rfl (step_value (v := .string key) (w' := wx) rfl rfl ?_ (Below.refl _ _) (fun d hd => by cases hd; exact rfl))
            go_simp
          · have q8 := hG.old 8 (by kernel_rfl) (by kernel_rfl)
            obtain ⟨z0, z1, z2, z3, z4, z5⟩ := HX8.out wx hS
            refine step_slot rfl rfl rfl (step_value (v := .agg #[.int .i64 s, .string key, .bool mm, .string b, .bool d, .string a]) (w' := wx) rfl rfl ?_ (Below.refl _ _) (fun d hd => by cases hd; exact rfl))
            go_simp
          · obtain ⟨_, q39, rfl⟩ := hG.new 39 (by kernel_rfl) (by kernel_rfl)
            refine step_slot rfl rfl rfl (step_call (w1 := wx) (f := 61) (args := #[.agg #[.int .i64 s, .string key, .bool mm, .string b, .bool d, .string a]]) rfl rfl ?_ ((behind_any s key mm b d a wx).mono ?_))
            · skip
              go_simp
            · rintro e w' ⟨rfl, hq⟩
              exact ⟨_, rfl, hq, fun d hd => by cases hd; exact rfl⟩
          · obtain ⟨_, q36, rfl⟩ := hG.new 36 (by kernel_rfl) (by kernel_rfl)
            obtain ⟨_, q38, rfl⟩ := hG.new 38 (by kernel_rfl) (by kernel_rfl)
            obtain ⟨_, q40, rfl⟩ := hG.new 40 (by kernel_rfl) (by kernel_rfl)
            have hb := (show Below _ _ _ from hS)
            obtain ⟨w2, hr, o2, g2⟩ := map_store (HMP.out.on hb) HMC.out HPL.out
            simp only at hr
            refine step_store (w' := w2) rfl rfl rfl rfl ?_ ⟨o2, grown_trans (below_row hb _) g2⟩ trivial ?_
            · simp [execOp, Act.eval, q36, q38, q40, hr, Result.andThen]
            · intro t u _ hu hV
              unfold No10 at *
              split at hV <;> exact hV
        · refine Steps1.cons (fun hin _ _ _ _ _ => out (by kernel_rfl) hin) (Steps1.cons (fun hin _ _ _ _ _ => out (by kernel_rfl) hin) (Steps1.cons (fun hin _ _ _ _ _ => out (by kernel_rfl) hin) (Steps1.cons (fun hin _ _ _ _ _ => out (by kernel_rfl) hin) (Steps1.cons (fun hin _ _ _ _ _ => out (by kernel_rfl) hin) (Steps1.cons (fun hin _ _ _ _ _ => out (by kernel_rfl) hin) Steps1.nil)))))
        intro fv w9 hS9 _ hV8
        simp only [puts, Act.put, List.setIfInBounds_toArray, List.set_cons_succ, List.set_cons_zero]
        clear hV8
        have hS9 : MapIs w9 (g + 4) (pre ++ [⟨s, key, mm, b, d, a⟩]) (doC q ⟨s, key, mm, b, d, a⟩) ∧ w8.grownBy w9 (some (g + 4)) := hS9
        have hne : ∀ k, k ≠ g + 4 → some k ≠ some (g + 4) := fun k h e => h (by injection e)
        have HU9 := Lib.hid (HU8.out.grown hS9.2 (hne _ (by omega)))
        have hbl8 : ∀ j, u.ownBlock = some j → g + 6 ≤ j := fun j hj => own_lt' HO8.out hj
        have HO9 := Lib.hid (HO8.out.kept hS9.2 (.inr (fun e => by have := hbl8 _ e; omega)))
        have HNE := Lib.hid (show some (g + 3) ≠ u.ownBlock from fun e => by have := hbl8 _ e.symm; omega)
        have HBL := Lib.hid hbl8
        have HPL2 := Lib.hid (show pre.length ≤ 100000 from by have := HPLX.out; omega)
        have HSB := Lib.hid (show g + 6 ≤ w9.heap.size from Nat.le_trans IS.out hS9.2.size)
        have HX9 := Lib.hid (show ∀ wx, Below w9.heap.size w9 wx → _ ∧ _ ∧ _ ∧ _ ∧ _ ∧ _ from fun wx hh => let hx := ((HBXX.out.on HK8.out).grown hS9.2 (hne _ (by have := HBX0.out; omega))).on hh; ⟨hx.cell 0 rfl, hx.cell 1 rfl, hx.cell 2 rfl, hx.cell 3 rfl, hx.cell 4 rfl, hx.cell 5 rfl⟩)
        have HS9 := Lib.hid hS9
        obtain ⟨y, hy⟩ : ∃ y, noteC ⟨s, key, mm, b, d, a⟩ = y := ⟨_, rfl⟩
        have hcn := fun wx => note_of s key mm b d a wx
        rw [hy] at hcn
        obtain ⟨nk, nkey, nval, nn0⟩ := y
        obtain ⟨nn, hnn⟩ : ∃ nn : Int, ((nn0.toNat : Nat) : Int) = nn := ⟨_, rfl⟩
        simp only [Nt.cells, hnn] at hcn
        have HCN := Lib.hid hcn
        have HNT := Lib.hid (show ((pre ++ [(⟨s, key, mm, b, d, a⟩ : Ch)]).map noteC).flatMap Nt.cells = (pre.map noteC).flatMap Nt.cells ++ [.int .i64 nk, .string nkey, .string nval, .int .u64 nn] from by rw [List.map_append, List.flatMap_append]; simp [hy, Nt.cells, hnn])
        clear hS9 hne hbl8 hcn hy hnn
        gi_wp2_with fail
        refine wpIn_region_phase (wide_round _) (by rintro ⟨_, _, hq⟩; exact hq) (by kernel_rfl) 14 [41, 42, 43, 44, 45] (by kernel_rfl) [4, 5] [] (fun _ _ => True) 2 rfl (by kernel_rfl) (SP (fun wx => Below w9.heap.size w9 wx) (fun wx => w9.grownBy wx u.ownBlock) (fun wx => ∃ A' c', Box wx (g + 3) 45 #[.slice A' (pre.length + 1) c'] ∧ wx.ownsRow (g + 6) 48 4 (.slice A' (pre.length + 1) c') (pre.length + 1) ((pre.map noteC).flatMap Nt.cells ++ [.int .i64 nk, .string nkey, .string nval, .int .u64 nn]) ∧ K2 (g + 3) u.ownBlock w9 wx)) (fun wa wb => Below wa.heap.size wa wb) (No11 s key mm b d a g Bx (g + 6) pre.length u ((pre.map noteC).flatMap Nt.cells) nk nn nkey nval) (by kernel_rfl) (SP.on below_grow (fun wa wb h hs => grown_trans hs (below_row h _)) (fun wa wb h hs => by obtain ⟨A', c', h1, h2, h3⟩ := hs; exact ⟨A', c', h1.on h, own_on h2 h, h3.on h⟩)) (fun _ t v wa wb h1 h2 => h2.on h1) (fun _ _ _ _ _ _ _ => trivial) (Below.refl _ _).drew trivial (phase2 ?_ ?_ ?_) ?_
        · refine Steps1.cons (fun _ ax wx hS _ hG => ?_) (Steps1.cons (fun _ ax wx hS _ hG => ?_) (Steps1.cons (fun _ ax wx hS _ hG => ?_) (Steps1.cons (fun _ ax wx hS _ hG => ?_) (Steps1.cons (fun _ ax wx hS _ hG => ?_) (Steps1.cons (fun hin _ _ _ _ _ => out (by kernel_rfl) hin) Steps1.nil)))))
          · have q6 := hG.old 6 (by kernel_rfl) (by kernel_rfl)
            have z0 := Box.cell (HU9.out.on hS) 0 rfl
            refine step_slot rfl rfl rfl (step_value (v := u) (w' := wx) rfl rfl ?_ (Below.refl _ _) (fun d hd => by cases hd; exact rfl))
            go_simp
          · have q8 := hG.old 8 (by kernel_rfl) (by kernel_rfl)
            obtain ⟨z0, z1, z2, z3, z4, z5⟩ := HX9.out wx hS
            refine step_slot rfl rfl rfl (step_value (v := .agg #[.int .i64 s, .string key, .bool mm, .string b, .bool d, .string a]) (w' := wx) rfl rfl ?_ (Below.refl _ _) (fun d hd => by cases hd; exact rfl))
            go_simp
          · obtain ⟨_, q42, rfl⟩ := hG.new 42 (by kernel_rfl) (by kernel_rfl)
            refine step_slot rfl rfl rfl (step_call (w1 := wx) (f := 62) (args := #[.agg #[.int .i64 s, .string key, .bool mm, .string b, .bool d, .string a]]) rfl rfl ?_ ((HCN.out wx).mono ?_))
            · skip
              go_simp
            · rintro e w' ⟨rfl, hq⟩
              exact ⟨_, rfl, hq, fun d hd => by cases hd; exact rfl⟩
          · obtain ⟨_, q43, rfl⟩ := hG.new 43 (by kernel_rfl) (by kernel_rfl)
            refine step_slot rfl rfl rfl (step_value (v := .slice (some ⟨wx.heap.size, 0, none⟩) 1 1) (w' := wx.alloc (.cells #[.int .i64 nk, .string nkey, .string nval, .int .u64 nn] 48)) rfl rfl ?_ ((Below.refl _ _).alloc (Nat.le_refl _) _) (fun d hd => by cases hd; exact fun _ => ⟨_, rfl, Box.fresh _ _ _⟩))
            go_simp
          · obtain ⟨v41, q41, h41⟩ := hG.new 41 (by kernel_rfl) (by kernel_rfl)
            have p41 : v41 = u := h41
            obtain ⟨v44, q44, h44⟩ := hG.new 44 (by kernel_rfl) (by kernel_rfl)
            have p44 : 0 = 0 → ∃ h, v44 = .slice (some ⟨h, 0, none⟩) 1 1 ∧ Box wx h 48 #[.int .i64 nk, .string nkey, .string nval, .int .u64 nn] := h44
            obtain ⟨h, rfl, hbn⟩ := p44 rfl
            have hb := (show Below _ _ _ from hS)
            obtain ⟨v2, w2, hr, o2, g2, a2⟩ := run_push_nt wx (g + 6) u pre.length _ (own_on HO9.out hb) h [.int .i64 nk, .string nkey, .string nval, .int .u64 nn] ⟨rfl, by simp [Value.oneCell']⟩ hbn (by have := HPL2.out; omega) (Nat.le_trans HSB.out hb.size)
            obtain ⟨A2, c2, rfl⟩ := own_shape o2
            have hr' : ∀ ty, (Builtin.append_ #[45, 45] ty #[u, .slice (some ⟨h, 0, none⟩) 1 1]).run Try.prog wx = .ok (.slice A2 (pre.length + 1) c2) w2 := hr
            refine step_marked (v := .slice A2 (pre.length + 1) c2) (w' := w2) rfl rfl rfl rfl ?_ (grown_trans (below_row hb _) g2) trivial ?_ ?_
            · have e1 : ax.eval (.tmp 41) = u := by rw [← p41]; simp [Act.eval, q41]
              have e2 : ax.eval (.tmp 44) = .slice (some ⟨h, 0, none⟩) 1 1 := by simp [Act.eval, q44]
              unfold execOp
              simp only [resolve, invoke, builtin, Sem.run_bind, Sem.run_pure, Result.andThen_ok, List.map_toArray, List.map_cons, List.map_nil, e1, e2, hr' _]
            · exact fun _ => ⟨A2, c2, rfl, o2⟩
            · intro t u _ ht hu hV
              unfold No11 at *
              split at hV <;> first | exact hV | exact fun h => absurd h (by decide) | exact absurd rfl ht
        · refine Steps1.cons (fun hin _ _ _ _ _ => out (by kernel_rfl) hin) (Steps1.cons (fun hin _ _ _ _ _ => out (by kernel_rfl) hin) (Steps1.cons (fun hin _ _ _ _ _ => out (by kernel_rfl) hin) (Steps1.cons (fun hin _ _ _ _ _ => out (by kernel_rfl) hin) (Steps1.cons (fun hin _ _ _ _ _ => out (by kernel_rfl) hin) (Steps1.cons (fun _ ax wx hS _ hG => ?_) Steps1.nil)))))
          · have q6 := hG.old 6 (by kernel_rfl) (by kernel_rfl)
            obtain ⟨v45, q45, h45⟩ := hG.new 45 (by kernel_rfl) (by kernel_rfl)
            have p45 : 1 = 1 → ∃ A' c', v45 = .slice A' (pre.length + 1) c' ∧ wx.ownsRow (g + 6) 48 4 (.slice A' (pre.length + 1) c') (pre.length + 1) ((pre.map noteC).flatMap Nt.cells ++ [.int .i64 nk, .string nkey, .string nval, .int .u64 nn]) := h45
            obtain ⟨A9, c9, rfl, o9⟩ := p45 rfl
            have hg9 := (show w9.grownBy wx u.ownBlock from hS)
            have hu3 : Box wx (g + 3) 45 #[u] := HU9.out.grown hg9 HNE.out
            have f0 := hu3.free 0
            have k0 := hu3.cell 0 rfl
            have hbl : ∀ j, (Value.slice A9 (pre.length + 1) c9).ownBlock = some j → g + 6 ≤ j := fun j hj => own_lt' o9 hj
            refine step_store (w' := wx.setCell ⟨g + 3, 0, none⟩ (.slice A9 (pre.length + 1) c9)) rfl rfl rfl rfl ?_ ⟨A9, c9, Box.set hu3 0 _, o9.kept (grownBy_setCell' wx (g + 3) _) (.inr (fun e => by have := hbl _ e; omega)), (K2.row hg9).trans (K2.ex (Ex.set wx _)) (.inl rfl)⟩ trivial ?_
            · clear hu3 o9 p45 h45 hg9 hbl
              go_simp
            · intro t u _ hu hV
              unfold No11 at *
              split at hV <;> first | exact hV | exact fun h => absurd h (by decide)
        · refine Steps1.cons (fun hin _ _ _ _ _ => out (by kernel_rfl) hin) (Steps1.cons (fun hin _ _ _ _ _ => out (by kernel_rfl) hin) (Steps1.cons (fun hin _ _ _ _ _ => out (by kernel_rfl) hin) (Steps1.cons (fun hin _ _ _ _ _ => out (by kernel_rfl) hin) (Steps1.cons (fun hin _ _ _ _ _ => out (by kernel_rfl) hin) (Steps1.cons (fun hin _ _ _ _ _ => out (by kernel_rfl) hin) Steps1.nil)))))
        intro fv w10 hS10 _ hV8
        simp only [puts, Act.put, List.setIfInBounds_toArray, List.set_cons_succ, List.set_cons_zero]
        clear hV8
        obtain ⟨A2, c2, hb2, o2, k2⟩ := (show ∃ A' c', Box w10 (g + 3) 45 #[.slice A' (pre.length + 1) c'] ∧ w10.ownsRow (g + 6) 48 4 (.slice A' (pre.length + 1) c') (pre.length + 1) ((pre.map noteC).flatMap Nt.cells ++ [.int .i64 nk, .string nkey, .string nval, .int .u64 nn]) ∧ K2 (g + 3) u.ownBlock w9 w10 from hS10)
        have hg9 := HS9.out.2
        have hne : ∀ k, k ≠ g + 4 → some k ≠ some (g + 4) := fun k h e => h (by injection e)
        have hnu : ∀ k, k < g + 6 → some k ≠ u.ownBlock := fun k h e => by have := HBL.out _ e.symm; omega
        have bx : ∀ {k : Nat} {T : TypeId} {V : Array Value}, Box w8 k T V → k < g + 6 → k ≠ g + 4 → k ≠ g + 3 → Box w10 k T V := fun h h1 h2 h3 => k2.box (h.grown hg9 (hne _ h2)) h3 (hnu _ h1)
        have hb9 : Below g w w9 := IB.out.grown hg9 (by have := IS.out; omega) (fun j e => by cases e; omega)
        have hb10 : Below g w w10 := K2.below hb9 k2 (by omega) (fun j hj => by have := HBL.out _ hj; omega) (by have := HSB.out; omega)
        have HF := Lib.hid (show KeepsNot 48 w6.heap.size W' w10 ∧ Below w.heap.size W' w10 ∧ NoI w g (.slice A ln cap) l (g + 6) (pre ++ [⟨s, key, mm, b, d, a⟩]) w10 from by
          have hk9 : KeepsNot 48 (g + 6) W' w9 := (KeepsNot.of_below HK8.out (Nat.le_refl _)).trans (KeepsNot.of_grown hg9 (fun j e => .inl (by cases e; omega)))
          have hk10 : KeepsNot 48 (g + 6) w9 w10 := k2.keeps (by omega) (fun j hj => own_row_at HO9.out hj)
          refine ⟨by rw [HE6.out]; exact hk9.trans hk10, ?_, ⟨⟨doC q ⟨s, key, mm, b, d, a⟩, by rw [doL_snoc, HHI.out.2]; show (if okC q ⟨s, key, mm, b, d, a⟩ then _ else none) = _; rw [if_pos HOKC.out], HS9.out.1.same ((k2.block _ HS9.out.1.lt (by omega) (hnu _ (by omega))))⟩, ⟨_, hb2, by rw [List.length_append, HNT.out]; exact o2⟩, bx I0.out (by omega) (by omega) (by omega), bx I1.out (by omega) (by omega) (by omega), bx I2.out (by omega) (by omega) (by omega), bx I5.out (by omega) (by omega) (by omega), hb10, Nat.le_trans HSB.out k2.size⟩⟩
          rw [← HG.out]
          have h8 : Below g W' w8 := HK8.out.mono (by have := HSZ.out; omega)
          exact K2.below (h8.grown hg9 (by have := HSZ.out; have := HK8.out.size; omega) (fun j e => by cases e; omega)) k2 (by omega) (fun j hj => by have := HBL.out _ hj; omega) (by have := HSB.out; omega))
        clear hb2 o2 k2 hg9 hne hnu bx hb9 hb10 hS10
        gi_wp2
        exact HF.out
    | false =>
      have hgl : getL l key = getL q key := (doL_other hq (touched_no htb)).symm
      have hcf : ∀ w'', Below w.heap.size w w'' → Calls Try.prog 59 #[.slice A ln cap, .string key] w'' fun e w3 => e = .returned (.agg #[.bool ch, .string cv]) ∧ Below w''.heap.size w'' w3 := by
        intro w'' hb''
        obtain ⟨A0, c0, e0, hp0, _⟩ := HV.out
        injection e0 with e1 e2 e3
        have := found_any A0 c0 l key w'' (hp0.on hb'') (by omega) (well_sorted hw)
        rw [hgl, hHI] at this
        rw [e1, e2, e3]
        exact this
      have HCF := Lib.hid hcf
      have HBW0 := Lib.hid (show Below w.heap.size w W' from by rw [← HG.out]; exact hbw)
      clear hcf hgl
      gi_wp2_with (first
        | (gi_at_lookup; refine wpListIn_lookup_map _ rfl _ _ rfl (g + 4) pre q rfl hmap key hkey rfl false htb ?_; rintro ⟨sv, sh⟩ hsd; simp only; clear hsd; have hbf := (Below.refl W'.heap.size W').alloc (Nat.le_refl _) (.cells #[.bool sh, .string sv] 104); have m0' := (hb0.on hbf).cell 0 rfl; have c1' := (hbx.on hbf).cell 1 rfl; clear hbf)
        | (refine ⟨trivial, hd1, (CallsIn.inRound l' (callsIn_wide.2 (HCF.out _ (HBW0.out.alloc HBW0.out.size _)))).mono ?_⟩
           rintro e w1 ⟨rfl, hb1⟩
           have hxn := (Box.fresh W' 104 #[.bool sh, .string sv]).on hb1
           have hb1' := below1 hb1
           have n0 := hxn.cell 0 rfl
           have n1 := hxn.cell 1 rfl
           have n2 := hxn.free 0
           have n3 := hxn.free 1
           clear hb1))
      have hbWD : Below W'.heap.size W' ((w1.setCell ⟨W'.heap.size, 0, none⟩ (.bool ch)).setCell ⟨W'.heap.size, 1, none⟩ (.string cv)) := (hb1'.setCell (by simp) _).setCell (by simp) _
      have hbnWD : Box ((w1.setCell ⟨W'.heap.size, 0, none⟩ (.bool ch)).setCell ⟨W'.heap.size, 1, none⟩ (.string cv)) W'.heap.size 104 #[.bool ch, .string cv] := (Box.set hxn 0 _).set 1 _
      clear hxn hb1' n0 n1 n2 n3
      obtain ⟨wd, hwd⟩ : ∃ wd, wd = (w1.setCell ⟨W'.heap.size, 0, none⟩ (.bool ch)).setCell ⟨W'.heap.size, 1, none⟩ (.string cv) := ⟨_, rfl⟩
      rw [← hwd]
      have hbd : Below W'.heap.size W' wd := by rw [hwd]; exact hbWD
      have hbn : Box wd W'.heap.size 104 #[.bool ch, .string cv] := by rw [hwd]; exact hbnWD
      clear hwd hbWD hbnWD
      have HBD := Lib.hid hbd
      have HX := Lib.hid (show ∀ wx, Below wd.heap.size wd wx → _ ∧ _ ∧ _ ∧ _ ∧ _ ∧ _ from fun wx hh => let hx := (hbx.on hbd).on hh; ⟨hx.cell 0 rfl, hx.cell 1 rfl, hx.cell 2 rfl, hx.cell 3 rfl, hx.cell 4 rfl, hx.cell 5 rfl⟩)
      have HN := Lib.hid (show ∀ wx, Below wd.heap.size wd wx → _ ∧ _ from fun wx hh => let hx := hbn.on hh; ⟨hx.cell 0 rfl, hx.cell 1 rfl⟩)
      have HI := Lib.hid hI
      have HHI := Lib.hid (And.intro hHI hq)
      have HMAP := Lib.hid hmap
      have HBXX := Lib.hid hbx
      have HSZ := Lib.hid hsz6
      have HBX0 := Lib.hid hBx
      have HPLX := Lib.hid hpl
      clear hbd hbn hI hHI hq hmap hbx hsz6 hBx hpl c0 c1 c2 c3 c4 c5 m5 m0 hpre hu ho hb0 hb1 hb2 hb5 hbw hkey htb
      cases hm : mayC ⟨s, key, mm, b, d, a⟩ with
      | false =>
        have hc1 := fun w => may_any s key mm b d a w
        rw [hm] at hc1
        have HM1 := Lib.hid hc1
        clear hc1
        refine wpIn_region_phase (wide_round _) (by rintro ⟨_, _, hq⟩; exact hq) (by kernel_rfl) 14 [27, 28, 29, 30, 31, 32, 33, 34, 35] (by kernel_rfl) [] [] (fun _ _ => True) 0 rfl (by kernel_rfl) ((fun _ wx => Below wd.heap.size wd wx)) (fun wa wb => Below wa.heap.size wa wb) (No8a s key mm b d a cv ch g Bx) (by kernel_rfl) (fun _ wa wb h1 h2 => h2.trans (h1.mono h2.size)) (fun _ t v wa wb h1 h2 => h2.on h1) (fun _ _ _ _ _ _ _ => trivial) (Below.refl _ _).drew trivial (phase0 ?_) ?_
        · refine Steps1.cons (fun _ ax wx hS _ hG => ?_) (Steps1.cons (fun _ ax wx hS _ hG => ?_) (Steps1.cons (fun _ ax wx hS _ hG => ?_) (Steps1.cons (fun _ ax wx hS _ hG => ?_) (Steps1.cons (fun _ ax wx hS _ hG => ?_) (Steps1.cons (fun _ ax wx hS _ hG => ?_) (Steps1.cons (fun _ ax wx hS _ hG => ?_) (Steps1.cons (fun _ ax wx hS _ hG => ?_) (Steps1.cons (fun _ ax wx hS _ hG => ?_) Steps1.nil))))))))
          · have q8 := hG.old 8 (by kernel_rfl) (by kernel_rfl)
            obtain ⟨z0, z1, z2, z3, z4, z5⟩ := HX.out wx hS
            refine step_slot rfl rfl rfl (step_value (v := .agg #[.int .i64 s, .string key, .bool mm, .string b, .bool d, .string a]) (w' := wx) rfl rfl ?_ (Below.refl _ _) (fun d hd => by cases hd; exact rfl))
            go_simp
          · obtain ⟨_, q27, rfl⟩ := hG.new 27 (by kernel_rfl) (by kernel_rfl)
            refine step_slot rfl rfl rfl (step_call (w1 := wx) (f := 32) (args := #[.agg #[.int .i64 s, .string key, .bool mm, .string b, .bool d, .string a]]) rfl rfl ?_ ((HM1.out wx).mono ?_))
            · skip
              go_simp
            · rintro e w' ⟨rfl, hq⟩
              exact ⟨_, rfl, hq, fun d hd => by cases hd; exact rfl⟩
          · obtain ⟨_, q28, rfl⟩ := hG.new 28 (by kernel_rfl) (by kernel_rfl)
            refine step_slot rfl rfl rfl (step_value (v := .bool true) (w' := wx) rfl rfl ?_ (Below.refl _ _) (fun d hd => by cases hd; exact rfl))
            go_simp
          · obtain ⟨_, q29, rfl⟩ := hG.new 29 (by kernel_rfl) (by kernel_rfl)
            refine step_slot rfl rfl rfl (step_value (v := .bool true) (w' := wx) rfl rfl ?_ (Below.refl _ _) (fun d hd => by cases hd; exact rfl))
            go_simp
          · obtain ⟨_, q30, rfl⟩ := hG.new 30 (by kernel_rfl) (by kernel_rfl)
            refine step_slot rfl rfl rfl (step_past rfl (by simp [Region.wanted, yielded, q30, undef]) (Below.refl _ _) (fun d hd => by cases hd; exact rfl))
          · obtain ⟨_, q30, rfl⟩ := hG.new 30 (by kernel_rfl) (by kernel_rfl)
            refine step_slot rfl rfl rfl (step_past rfl (by simp [Region.wanted, yielded, q30, undef]) (Below.refl _ _) (fun d hd => by cases hd; exact rfl))
          · obtain ⟨_, q30, rfl⟩ := hG.new 30 (by kernel_rfl) (by kernel_rfl)
            refine step_slot rfl rfl rfl (step_past rfl (by simp [Region.wanted, yielded, q30, undef]) (Below.refl _ _) (fun d hd => by cases hd; exact rfl))
          · obtain ⟨_, q30, rfl⟩ := hG.new 30 (by kernel_rfl) (by kernel_rfl)
            refine step_slot rfl rfl rfl (step_past rfl (by simp [Region.wanted, yielded, q30, undef]) (Below.refl _ _) (fun d hd => by cases hd; exact rfl))
          · obtain ⟨_, q30, rfl⟩ := hG.new 30 (by kernel_rfl) (by kernel_rfl)
            obtain ⟨_, q34, rfl⟩ := hG.new 34 (by kernel_rfl) (by kernel_rfl)
            refine step_slot rfl rfl rfl (step_value (v := .bool true) (w' := wx) rfl rfl ?_ (Below.refl _ _) (fun d hd => by cases hd; exact rfl))
            go_simp
        intro fv w8 hS8 _ hV8
        have e35 : fv 35 = .bool true := hV8 35 (by decide)
        simp only [puts, Act.put, List.setIfInBounds_toArray, List.set_cons_succ, List.set_cons_zero]
        clear hV8
        rw [e35]
        have hI8 := HI.out.on (HBD.out.trans ((show Below wd.heap.size wd w8 from hS8).mono HBD.out.size))
        have hk8 : Below W'.heap.size W' w8 := HBD.out.trans ((show Below wd.heap.size wd w8 from hS8).mono HBD.out.size)
        obtain ⟨_, _, _, i1, i2, _, ib, is⟩ := hI8
        have f1 := i1.free 0
        have f2 := i2.free 0
        have k1 := i1.cell 0 rfl
        have k2 := i2.cell 0 rfl
        obtain ⟨wz, hz⟩ : ∃ wz, wz = (w8.setCell ⟨g + 1, 0, none⟩ (.slice none 0 0)).setCell ⟨g + 2, 0, none⟩ (.bool false) := ⟨_, rfl⟩
        have HF := Lib.hid (show KeepsNot 48 w6.heap.size W' wz ∧ Code.ret = Code.ret ∧ NoX w g l (pre ++ [⟨s, key, mm, b, d, a⟩]) wz from by
          refine ⟨((KeepsNot.of_below hk8 (Nat.le_refl _)).trans (KeepsNot.of_grown (grownBy_setCell' w8 (g + 1) _) (fun j e => .inl (by cases e; have := HE6.out; omega)))).trans (by rw [hz]; exact KeepsNot.of_grown (grownBy_setCell' _ (g + 2) _) (fun j e => .inl (by cases e; have := HE6.out; omega))), rfl, ?_, ?_, ?_, ?_⟩
          · rw [doL_snoc, HHI.out.2]
            show (if okC q ⟨s, key, mm, b, d, a⟩ then _ else none) = none
            rw [if_neg]
            intro e
            obtain ⟨h1, h2⟩ := okC_iff.1 e
            rw [hm] at h1; cases h1
          · rw [hz]; exact (Box.set i1 0 _).away (by simp) _
          · rw [hz]; exact Box.set (Box.away i2 (by simp) _) 0 _
          · rw [hz]; exact (ib.setCell (p := ⟨g + 1, 0, none⟩) (by simp) _).setCell (p := ⟨g + 2, 0, none⟩) (by simp) _)
        clear i1 i2 ib is hk8 hS8
        gi_wp2
        rw [← hz]
        exact ⟨HF.out.1, rfl, HF.out.2.2⟩
      | true =>
        have hc1 := fun w => may_any s key mm b d a w
        rw [hm] at hc1
        have HM1 := Lib.hid hc1
        clear hc1
        by_cases hd : ch = mm ∧ cv = b
        case neg =>
          have HD := Lib.hid hd
          clear hd
          refine wpIn_region_phase (wide_round _) (by rintro ⟨_, _, hq⟩; exact hq) (by kernel_rfl) 14 [27, 28, 29, 30, 31, 32, 33, 34, 35] (by kernel_rfl) [] [] (fun _ _ => True) 0 rfl (by kernel_rfl) ((fun _ wx => Below wd.heap.size wd wx)) (fun wa wb => Below wa.heap.size wa wb) (No8b s key mm b d a cv ch g Bx) (by kernel_rfl) (fun _ wa wb h1 h2 => h2.trans (h1.mono h2.size)) (fun _ t v wa wb h1 h2 => h2.on h1) (fun _ _ _ _ _ _ _ => trivial) (Below.refl _ _).drew trivial (phase0 ?_) ?_
          · refine Steps1.cons (fun _ ax wx hS _ hG => ?_) (Steps1.cons (fun _ ax wx hS _ hG => ?_) (Steps1.cons (fun _ ax wx hS _ hG => ?_) (Steps1.cons (fun _ ax wx hS _ hG => ?_) (Steps1.cons (fun _ ax wx hS _ hG => ?_) (Steps1.cons (fun _ ax wx hS _ hG => ?_) (Steps1.cons (fun _ ax wx hS _ hG => ?_) (Steps1.cons (fun _ ax wx hS _ hG => ?_) (Steps1.cons (fun _ ax wx hS _ hG => ?_) Steps1.nil))))))))
            · have q8 := hG.old 8 (by kernel_rfl) (by kernel_rfl)
              obtain ⟨z0, z1, z2, z3, z4, z5⟩ := HX.out wx hS
              refine step_slot rfl rfl rfl (step_value (v := .agg #[.int .i64 s, .string key, .bool mm, .string b, .bool d, .string a]) (w' := wx) rfl rfl ?_ (Below.refl _ _) (fun d hd => by cases hd; exact rfl))
              go_simp
            · obtain ⟨_, q27, rfl⟩ := hG.new 27 (by kernel_rfl) (by kernel_rfl)
              refine step_slot rfl rfl rfl (step_call (w1 := wx) (f := 32) (args := #[.agg #[.int .i64 s, .string key, .bool mm, .string b, .bool d, .string a]]) rfl rfl ?_ ((HM1.out wx).mono ?_))
              · skip
                go_simp
              · rintro e w' ⟨rfl, hq⟩
                exact ⟨_, rfl, hq, fun d hd => by cases hd; exact rfl⟩
            · obtain ⟨_, q28, rfl⟩ := hG.new 28 (by kernel_rfl) (by kernel_rfl)
              refine step_slot rfl rfl rfl (step_value (v := .bool false) (w' := wx) rfl rfl ?_ (Below.refl _ _) (fun d hd => by cases hd; exact rfl))
              go_simp
            · obtain ⟨_, q29, rfl⟩ := hG.new 29 (by kernel_rfl) (by kernel_rfl)
              refine step_slot rfl rfl rfl (step_value (v := .bool false) (w' := wx) rfl rfl ?_ (Below.refl _ _) (fun d hd => by cases hd; exact rfl))
              go_simp
            · obtain ⟨_, q30, rfl⟩ := hG.new 30 (by kernel_rfl) (by kernel_rfl)
              have q9 := hG.old 9 (by kernel_rfl) (by kernel_rfl)
              obtain ⟨z0, z1⟩ := HN.out wx hS
              refine step_slot rfl rfl rfl (step_value (v := .agg #[.bool ch, .string cv]) (w' := wx) rfl (by simp [Region.wanted, yielded, q30, undef]) ?_ (Below.refl _ _) (fun d hd => by cases hd; exact rfl))
              go_simp
            · obtain ⟨_, q30, rfl⟩ := hG.new 30 (by kernel_rfl) (by kernel_rfl)
              have q8 := hG.old 8 (by kernel_rfl) (by kernel_rfl)
              obtain ⟨z0, z1, z2, z3, z4, z5⟩ := HX.out wx hS
              refine step_slot rfl rfl rfl (step_value (v := .agg #[.int .i64 s, .string key, .bool mm, .string b, .bool d, .string a]) (w' := wx) rfl (by simp [Region.wanted, yielded, q30, undef]) ?_ (Below.refl _ _) (fun d hd => by cases hd; exact rfl))
              go_simp
            · obtain ⟨_, q30, rfl⟩ := hG.new 30 (by kernel_rfl) (by kernel_rfl)
              obtain ⟨_, q32, rfl⟩ := hG.new 32 (by kernel_rfl) (by kernel_rfl)
              refine step_slot rfl rfl rfl (step_call (w1 := wx) (f := 60) (args := #[.agg #[.int .i64 s, .string key, .bool mm, .string b, .bool d, .string a]]) rfl (by simp [Region.wanted, yielded, q30, undef]) ?_ ((ahead_any s key mm b d a wx).mono ?_))
              · skip
                go_simp
              · rintro e w' ⟨rfl, hq⟩
                exact ⟨_, rfl, hq, fun d hd => by cases hd; exact rfl⟩
            · obtain ⟨_, q30, rfl⟩ := hG.new 30 (by kernel_rfl) (by kernel_rfl)
              obtain ⟨_, q31, rfl⟩ := hG.new 31 (by kernel_rfl) (by kernel_rfl)
              obtain ⟨_, q33, rfl⟩ := hG.new 33 (by kernel_rfl) (by kernel_rfl)
              have hd := HD.out
              refine step_slot rfl rfl rfl (step_value (v := .bool true) (w' := wx) rfl (by simp [Region.wanted, yielded, q30, undef]) ?_ (Below.refl _ _) (fun d hd => by cases hd; exact rfl))
              (go_simp; first | done | exact hd | exact fun e f => hd ⟨e, tl_inj f⟩ | simp [hd])
            · obtain ⟨_, q30, rfl⟩ := hG.new 30 (by kernel_rfl) (by kernel_rfl)
              obtain ⟨_, q34, rfl⟩ := hG.new 34 (by kernel_rfl) (by kernel_rfl)
              refine step_slot rfl rfl rfl (step_value (v := .bool true) (w' := wx) rfl rfl ?_ (Below.refl _ _) (fun d hd => by cases hd; exact rfl))
              go_simp
          intro fv w8 hS8 _ hV8
          have e35 : fv 35 = .bool true := hV8 35 (by decide)
          simp only [puts, Act.put, List.setIfInBounds_toArray, List.set_cons_succ, List.set_cons_zero]
          clear hV8
          rw [e35]
          have hI8 := HI.out.on (HBD.out.trans ((show Below wd.heap.size wd w8 from hS8).mono HBD.out.size))
          have hk8 : Below W'.heap.size W' w8 := HBD.out.trans ((show Below wd.heap.size wd w8 from hS8).mono HBD.out.size)
          obtain ⟨_, _, _, i1, i2, _, ib, is⟩ := hI8
          have f1 := i1.free 0
          have f2 := i2.free 0
          have k1 := i1.cell 0 rfl
          have k2 := i2.cell 0 rfl
          obtain ⟨wz, hz⟩ : ∃ wz, wz = (w8.setCell ⟨g + 1, 0, none⟩ (.slice none 0 0)).setCell ⟨g + 2, 0, none⟩ (.bool false) := ⟨_, rfl⟩
          have HF := Lib.hid (show KeepsNot 48 w6.heap.size W' wz ∧ Code.ret = Code.ret ∧ NoX w g l (pre ++ [⟨s, key, mm, b, d, a⟩]) wz from by
            refine ⟨((KeepsNot.of_below hk8 (Nat.le_refl _)).trans (KeepsNot.of_grown (grownBy_setCell' w8 (g + 1) _) (fun j e => .inl (by cases e; have := HE6.out; omega)))).trans (by rw [hz]; exact KeepsNot.of_grown (grownBy_setCell' _ (g + 2) _) (fun j e => .inl (by cases e; have := HE6.out; omega))), rfl, ?_, ?_, ?_, ?_⟩
            · rw [doL_snoc, HHI.out.2]
              show (if okC q ⟨s, key, mm, b, d, a⟩ then _ else none) = none
              rw [if_neg]
              intro e
              obtain ⟨h1, h2⟩ := okC_iff.1 e
              have h3 := (may_sides h1).1
              rw [← h2, HHI.out.1] at h3
              injection h3 with h3 h4
              exact HD.out ⟨h4, h3⟩
            · rw [hz]; exact (Box.set i1 0 _).away (by simp) _
            · rw [hz]; exact Box.set (Box.away i2 (by simp) _) 0 _
            · rw [hz]; exact (ib.setCell (p := ⟨g + 1, 0, none⟩) (by simp) _).setCell (p := ⟨g + 2, 0, none⟩) (by simp) _)
          clear i1 i2 ib is hk8 hS8
          gi_wp2
          rw [← hz]
          exact ⟨HF.out.1, rfl, HF.out.2.2⟩
        have HD := Lib.hid hd
        clear hd
        refine wpIn_region_phase (wide_round _) (by rintro ⟨_, _, hq⟩; exact hq) (by kernel_rfl) 14 [27, 28, 29, 30, 31, 32, 33, 34, 35] (by kernel_rfl) [] [] (fun _ _ => True) 0 rfl (by kernel_rfl) ((fun _ wx => Below wd.heap.size wd wx)) (fun wa wb => Below wa.heap.size wa wb) (No8c s key mm b d a cv ch g Bx) (by kernel_rfl) (fun _ wa wb h1 h2 => h2.trans (h1.mono h2.size)) (fun _ t v wa wb h1 h2 => h2.on h1) (fun _ _ _ _ _ _ _ => trivial) (Below.refl _ _).drew trivial (phase0 ?_) ?_
        · refine Steps1.cons (fun _ ax wx hS _ hG => ?_) (Steps1.cons (fun _ ax wx hS _ hG => ?_) (Steps1.cons (fun _ ax wx hS _ hG => ?_) (Steps1.cons (fun _ ax wx hS _ hG => ?_) (Steps1.cons (fun _ ax wx hS _ hG => ?_) (Steps1.cons (fun _ ax wx hS _ hG => ?_) (Steps1.cons (fun _ ax wx hS _ hG => ?_) (Steps1.cons (fun _ ax wx hS _ hG => ?_) (Steps1.cons (fun _ ax wx hS _ hG => ?_) Steps1.nil))))))))
          · have q8 := hG.old 8 (by kernel_rfl) (by kernel_rfl)
            obtain ⟨z0, z1, z2, z3, z4, z5⟩ := HX.out wx hS
            refine step_slot rfl rfl rfl (step_value (v := .agg #[.int .i64 s, .string key, .bool mm, .string b, .bool d, .string a]) (w' := wx) rfl rfl ?_ (Below.refl _ _) (fun d hd => by cases hd; exact rfl))
            go_simp
          · obtain ⟨_, q27, rfl⟩ := hG.new 27 (by kernel_rfl) (by kernel_rfl)
            refine step_slot rfl rfl rfl (step_call (w1 := wx) (f := 32) (args := #[.agg #[.int .i64 s, .string key, .bool mm, .string b, .bool d, .string a]]) rfl rfl ?_ ((HM1.out wx).mono ?_))
            · skip
              go_simp
            · rintro e w' ⟨rfl, hq⟩
              exact ⟨_, rfl, hq, fun d hd => by cases hd; exact rfl⟩
          · obtain ⟨_, q28, rfl⟩ := hG.new 28 (by kernel_rfl) (by kernel_rfl)
            refine step_slot rfl rfl rfl (step_value (v := .bool false) (w' := wx) rfl rfl ?_ (Below.refl _ _) (fun d hd => by cases hd; exact rfl))
            go_simp
          · obtain ⟨_, q29, rfl⟩ := hG.new 29 (by kernel_rfl) (by kernel_rfl)
            refine step_slot rfl rfl rfl (step_value (v := .bool false) (w' := wx) rfl rfl ?_ (Below.refl _ _) (fun d hd => by cases hd; exact rfl))
            go_simp
          · obtain ⟨_, q30, rfl⟩ := hG.new 30 (by kernel_rfl) (by kernel_rfl)
            have q9 := hG.old 9 (by kernel_rfl) (by kernel_rfl)
            obtain ⟨z0, z1⟩ := HN.out wx hS
            refine step_slot rfl rfl rfl (step_value (v := .agg #[.bool ch, .string cv]) (w' := wx) rfl (by simp [Region.wanted, yielded, q30, undef]) ?_ (Below.refl _ _) (fun d hd => by cases hd; exact rfl))
            go_simp
          · obtain ⟨_, q30, rfl⟩ := hG.new 30 (by kernel_rfl) (by kernel_rfl)
            have q8 := hG.old 8 (by kernel_rfl) (by kernel_rfl)
            obtain ⟨z0, z1, z2, z3, z4, z5⟩ := HX.out wx hS
            refine step_slot rfl rfl rfl (step_value (v := .agg #[.int .i64 s, .string key, .bool mm, .string b, .bool d, .string a]) (w' := wx) rfl (by simp [Region.wanted, yielded, q30, undef]) ?_ (Below.refl _ _) (fun d hd => by cases hd; exact rfl))
            go_simp
          · obtain ⟨_, q30, rfl⟩ := hG.new 30 (by kernel_rfl) (by kernel_rfl)
            obtain ⟨_, q32, rfl⟩ := hG.new 32 (by kernel_rfl) (by kernel_rfl)
            refine step_slot rfl rfl rfl (step_call (w1 := wx) (f := 60) (args := #[.agg #[.int .i64 s, .string key, .bool mm, .string b, .bool d, .string a]]) rfl (by simp [Region.wanted, yielded, q30, undef]) ?_ ((ahead_any s key mm b d a wx).mono ?_))
            · skip
              go_simp
            · rintro e w' ⟨rfl, hq⟩
              exact ⟨_, rfl, hq, fun d hd => by cases hd; exact rfl⟩
          · obtain ⟨_, q30, rfl⟩ := hG.new 30 (by kernel_rfl) (by kernel_rfl)
            obtain ⟨_, q31, rfl⟩ := hG.new 31 (by kernel_rfl) (by kernel_rfl)
            obtain ⟨_, q33, rfl⟩ := hG.new 33 (by kernel_rfl) (by kernel_rfl)
            have hd := HD.out
            refine step_slot rfl rfl rfl (step_value (v := .bool false) (w' := wx) rfl (by simp [Region.wanted, yielded, q30, undef]) ?_ (Below.refl _ _) (fun d hd => by cases hd; exact rfl))
            (go_simp; first | done | exact hd | exact fun e f => hd ⟨e, tl_inj f⟩ | simp [hd])
          · obtain ⟨_, q30, rfl⟩ := hG.new 30 (by kernel_rfl) (by kernel_rfl)
            obtain ⟨_, q34, rfl⟩ := hG.new 34 (by kernel_rfl) (by kernel_rfl)
            refine step_slot rfl rfl rfl (step_value (v := .bool false) (w' := wx) rfl rfl ?_ (Below.refl _ _) (fun d hd => by cases hd; exact rfl))
            go_simp
        intro fv w8 hS8 _ hV8
        have e35 : fv 35 = .bool false := hV8 35 (by decide)
        simp only [puts, Act.put, List.setIfInBounds_toArray, List.set_cons_succ, List.set_cons_zero]
        clear hV8
        rw [e35]
        have hk8 : Below W'.heap.size W' w8 := HBD.out.trans ((show Below wd.heap.size wd w8 from hS8).mono HBD.out.size)
        have hI8 := HI.out.on hk8
        obtain ⟨_, ⟨u, hu, ho⟩, i0, i1, i2, i5, ib, is⟩ := hI8
        have HMP := Lib.hid (HMAP.out.on hk8)
        have HMC := Lib.hid (show mayC ⟨s, key, mm, b, d, a⟩ = true from hm)
        have HPL := Lib.hid (show pre.length < maxLen from by have := HPLX.out; unfold maxLen; omega)
        have HX8 := Lib.hid (show ∀ wx, Below w8.heap.size w8 wx → _ ∧ _ ∧ _ ∧ _ ∧ _ ∧ _ from fun wx hh => let hx := (HBXX.out.on hk8).on hh; ⟨hx.cell 0 rfl, hx.cell 1 rfl, hx.cell 2 rfl, hx.cell 3 rfl, hx.cell 4 rfl, hx.cell 5 rfl⟩)
        have HM8 := Lib.hid (show ∀ wx, Below w8.heap.size w8 wx → wx.cell? ⟨g + 5, 0, none⟩ = some (.map (some (g + 4))) from fun wx hh => (i5.on hh).cell 0 rfl)
        have HU8 := Lib.hid hu
        have HO8 := Lib.hid ho
        have I0 := Lib.hid i0
        have I1 := Lib.hid i1
        have I2 := Lib.hid i2
        have I5 := Lib.hid i5
        have IB := Lib.hid ib
        have IS := Lib.hid is
        have HK8 := Lib.hid hk8
        have HOKC := Lib.hid (show okC q ⟨s, key, mm, b, d, a⟩ = true from okC_iff.2 ⟨hm, by
          have h3 := (may_sides hm).1
          have h4 : hasOf (getL q key) = hasOf (aheadO ⟨s, key, mm, b, d, a⟩) := by rw [h3, HHI.out.1, HD.out.1, HD.out.2]
          have h5 := congrArg optOf h4
          rwa [opt_has, opt_has] at h5⟩)
        clear hS8 hk8 hu ho i0 i1 i2 i5 ib is
        gi_wp2_with fail
        refine wpIn_region_phase (wide_round _) (by rintro ⟨_, _, hq⟩; exact hq) (by kernel_rfl) 14 [36, 37, 38, 39, 40] (by kernel_rfl) [5] [] (fun _ _ => True) 1 rfl (by kernel_rfl) (SP (fun wx => Below w8.heap.size w8 wx) (fun wx => MapIs wx (g + 4) (pre ++ [⟨s, key, mm, b, d, a⟩]) (doC q ⟨s, key, mm, b, d, a⟩) ∧ w8.grownBy wx (some (g + 4))) (fun _ => True)) (fun wa wb => Below wa.heap.size wa wb) (No10 s key mm b d a cv ch g Bx) (by kernel_rfl) (SP.on below_grow (fun wa wb h hs => ⟨hs.1.on h, grown_trans hs.2 (below_row h _)⟩) (fun _ _ _ _ => trivial)) (fun _ t v wa wb h1 h2 => h2.on h1) (fun _ _ _ _ _ _ _ => trivial) (Below.refl _ _).drew trivial (phase1 ?_ ?_) ?_
        · refine Steps1.cons (fun _ ax wx hS _ hG => ?_) (Steps1.cons (fun _ ax wx hS _ hG => ?_) (Steps1.cons (fun _ ax wx hS _ hG => ?_) (Steps1.cons (fun _ ax wx hS _ hG => ?_) (Steps1.cons (fun _ ax wx hS _ hG => ?_) (Steps1.cons (fun _ ax wx hS _ hG => ?_) Steps1.nil)))))
          · have q7 := hG.old 7 (by kernel_rfl) (by kernel_rfl)
            have z0 := HM8.out wx hS
            refine step_slot rfl rfl rfl (step_value (v := .map (some (g + 4))) (w' := wx) rfl rfl ?_ (Below.refl _ _) (fun d hd => by cases hd; exact rfl))
            go_simp
          · have q8 := hG.old 8 (by kernel_rfl) (by kernel_rfl)
            refine step_slot rfl rfl rfl (step_value (v := .pointer (some ⟨Bx, 1, none⟩)) (w' := wx) rfl rfl ?_ (Below.refl _ _) (fun d hd => by cases hd; exact rfl))
            go_simp
          · obtain ⟨_, q37, rfl⟩ := hG.new 37 (by kernel_rfl) (by kernel_rfl)
            obtain ⟨z0, z1, z2, z3, z4, z5⟩ := HX8.out wx hS
            refine step_slot rfl rfl rfl (step_value (v := .string key) (w' := wx) rfl rfl ?_ (Below.refl _ _) (fun d hd => by cases hd; exact rfl))
            go_simp
          · have q8 := hG.old 8 (by kernel_rfl) (by kernel_rfl)
            obtain ⟨z0, z1, z2, z3, z4, z5⟩ := HX8.out wx hS
            refine step_slot rfl rfl rfl (step_value (v := .agg #[.int .i64 s, .string key, .bool mm, .string b, .bool d, .string a]) (w' := wx) rfl rfl ?_ (Below.refl _ _) (fun d hd => by cases hd; exact rfl))
            go_simp
          · obtain ⟨_, q39, rfl⟩ := hG.new 39 (by kernel_rfl) (by kernel_rfl)
            refine step_slot rfl rfl rfl (step_call (w1 := wx) (f := 61) (args := #[.agg #[.int .i64 s, .string key, .bool mm, .string b, .bool d, .string a]]) rfl rfl ?_ ((behind_any s key mm b d a wx).mono ?_))
            · skip
              go_simp
            · rintro e w' ⟨rfl, hq⟩
              exact ⟨_, rfl, hq, fun d hd => by cases hd; exact rfl⟩
          · obtain ⟨_, q36, rfl⟩ := hG.new 36 (by kernel_rfl) (by kernel_rfl)
            obtain ⟨_, q38, rfl⟩ := hG.new 38 (by kernel_rfl) (by kernel_rfl)
            obtain ⟨_, q40, rfl⟩ := hG.new 40 (by kernel_rfl) (by kernel_rfl)
            have hb := (show Below _ _ _ from hS)
            obtain ⟨w2, hr, o2, g2⟩ := map_store (HMP.out.on hb) HMC.out HPL.out
            simp only at hr
            refine step_store (w' := w2) rfl rfl rfl rfl ?_ ⟨o2, grown_trans (below_row hb _) g2⟩ trivial ?_
            · simp [execOp, Act.eval, q36, q38, q40, hr, Result.andThen]
            · intro t u _ hu hV
              unfold No10 at *
              split at hV <;> exact hV
        · refine Steps1.cons (fun hin _ _ _ _ _ => out (by kernel_rfl) hin) (Steps1.cons (fun hin _ _ _ _ _ => out (by kernel_rfl) hin) (Steps1.cons (fun hin _ _ _ _ _ => out (by kernel_rfl) hin) (Steps1.cons (fun hin _ _ _ _ _ => out (by kernel_rfl) hin) (Steps1.cons (fun hin _ _ _ _ _ => out (by kernel_rfl) hin) (Steps1.cons (fun hin _ _ _ _ _ => out (by kernel_rfl) hin) Steps1.nil)))))
        intro fv w9 hS9 _ hV8
        simp only [puts, Act.put, List.setIfInBounds_toArray, List.set_cons_succ, List.set_cons_zero]
        clear hV8
        have hS9 : MapIs w9 (g + 4) (pre ++ [⟨s, key, mm, b, d, a⟩]) (doC q ⟨s, key, mm, b, d, a⟩) ∧ w8.grownBy w9 (some (g + 4)) := hS9
        have hne : ∀ k, k ≠ g + 4 → some k ≠ some (g + 4) := fun k h e => h (by injection e)
        have HU9 := Lib.hid (HU8.out.grown hS9.2 (hne _ (by omega)))
        have hbl8 : ∀ j, u.ownBlock = some j → g + 6 ≤ j := fun j hj => own_lt' HO8.out hj
        have HO9 := Lib.hid (HO8.out.kept hS9.2 (.inr (fun e => by have := hbl8 _ e; omega)))
        have HNE := Lib.hid (show some (g + 3) ≠ u.ownBlock from fun e => by have := hbl8 _ e.symm; omega)
        have HBL := Lib.hid hbl8
        have HPL2 := Lib.hid (show pre.length ≤ 100000 from by have := HPLX.out; omega)
        have HSB := Lib.hid (show g + 6 ≤ w9.heap.size from Nat.le_trans IS.out hS9.2.size)
        have HX9 := Lib.hid (show ∀ wx, Below w9.heap.size w9 wx → _ ∧ _ ∧ _ ∧ _ ∧ _ ∧ _ from fun wx hh => let hx := ((HBXX.out.on HK8.out).grown hS9.2 (hne _ (by have := HBX0.out; omega))).on hh; ⟨hx.cell 0 rfl, hx.cell 1 rfl, hx.cell 2 rfl, hx.cell 3 rfl, hx.cell 4 rfl, hx.cell 5 rfl⟩)
        have HS9 := Lib.hid hS9
        obtain ⟨y, hy⟩ : ∃ y, noteC ⟨s, key, mm, b, d, a⟩ = y := ⟨_, rfl⟩
        have hcn := fun wx => note_of s key mm b d a wx
        rw [hy] at hcn
        obtain ⟨nk, nkey, nval, nn0⟩ := y
        obtain ⟨nn, hnn⟩ : ∃ nn : Int, ((nn0.toNat : Nat) : Int) = nn := ⟨_, rfl⟩
        simp only [Nt.cells, hnn] at hcn
        have HCN := Lib.hid hcn
        have HNT := Lib.hid (show ((pre ++ [(⟨s, key, mm, b, d, a⟩ : Ch)]).map noteC).flatMap Nt.cells = (pre.map noteC).flatMap Nt.cells ++ [.int .i64 nk, .string nkey, .string nval, .int .u64 nn] from by rw [List.map_append, List.flatMap_append]; simp [hy, Nt.cells, hnn])
        clear hS9 hne hbl8 hcn hy hnn
        gi_wp2_with fail
        refine wpIn_region_phase (wide_round _) (by rintro ⟨_, _, hq⟩; exact hq) (by kernel_rfl) 14 [41, 42, 43, 44, 45] (by kernel_rfl) [4, 5] [] (fun _ _ => True) 2 rfl (by kernel_rfl) (SP (fun wx => Below w9.heap.size w9 wx) (fun wx => w9.grownBy wx u.ownBlock) (fun wx => ∃ A' c', Box wx (g + 3) 45 #[.slice A' (pre.length + 1) c'] ∧ wx.ownsRow (g + 6) 48 4 (.slice A' (pre.length + 1) c') (pre.length + 1) ((pre.map noteC).flatMap Nt.cells ++ [.int .i64 nk, .string nkey, .string nval, .int .u64 nn]) ∧ K2 (g + 3) u.ownBlock w9 wx)) (fun wa wb => Below wa.heap.size wa wb) (No11 s key mm b d a g Bx (g + 6) pre.length u ((pre.map noteC).flatMap Nt.cells) nk nn nkey nval) (by kernel_rfl) (SP.on below_grow (fun wa wb h hs => grown_trans hs (below_row h _)) (fun wa wb h hs => by obtain ⟨A', c', h1, h2, h3⟩ := hs; exact ⟨A', c', h1.on h, own_on h2 h, h3.on h⟩)) (fun _ t v wa wb h1 h2 => h2.on h1) (fun _ _ _ _ _ _ _ => trivial) (Below.refl _ _).drew trivial (phase2 ?_ ?_ ?_) ?_
        · refine Steps1.cons (fun _ ax wx hS _ hG => ?_) (Steps1.cons (fun _ ax wx hS _ hG => ?_) (Steps1.cons (fun _ ax wx hS _ hG => ?_) (Steps1.cons (fun _ ax wx hS _ hG => ?_) (Steps1.cons (fun _ ax wx hS _ hG => ?_) (Steps1.cons (fun hin _ _ _ _ _ => out (by kernel_rfl) hin) Steps1.nil)))))
          · have q6 := hG.old 6 (by kernel_rfl) (by kernel_rfl)
            have z0 := Box.cell (HU9.out.on hS) 0 rfl
            refine step_slot rfl rfl rfl (step_value (v := u) (w' := wx) rfl rfl ?_ (Below.refl _ _) (fun d hd => by cases hd; exact rfl))
            go_simp
          · have q8 := hG.old 8 (by kernel_rfl) (by kernel_rfl)
            obtain ⟨z0, z1, z2, z3, z4, z5⟩ := HX9.out wx hS
            refine step_slot rfl rfl rfl (step_value (v := .agg #[.int .i64 s, .string key, .bool mm, .string b, .bool d, .string a]) (w' := wx) rfl rfl ?_ (Below.refl _ _) (fun d hd => by cases hd; exact rfl))
            go_simp
          · obtain ⟨_, q42, rfl⟩ := hG.new 42 (by kernel_rfl) (by kernel_rfl)
            refine step_slot rfl rfl rfl (step_call (w1 := wx) (f := 62) (args := #[.agg #[.int .i64 s, .string key, .bool mm, .string b, .bool d, .string a]]) rfl rfl ?_ ((HCN.out wx).mono ?_))
            · skip
              go_simp
            · rintro e w' ⟨rfl, hq⟩
              exact ⟨_, rfl, hq, fun d hd => by cases hd; exact rfl⟩
          · obtain ⟨_, q43, rfl⟩ := hG.new 43 (by kernel_rfl) (by kernel_rfl)
            refine step_slot rfl rfl rfl (step_value (v := .slice (some ⟨wx.heap.size, 0, none⟩) 1 1) (w' := wx.alloc (.cells #[.int .i64 nk, .string nkey, .string nval, .int .u64 nn] 48)) rfl rfl ?_ ((Below.refl _ _).alloc (Nat.le_refl _) _) (fun d hd => by cases hd; exact fun _ => ⟨_, rfl, Box.fresh _ _ _⟩))
            go_simp
          · obtain ⟨v41, q41, h41⟩ := hG.new 41 (by kernel_rfl) (by kernel_rfl)
            have p41 : v41 = u := h41
            obtain ⟨v44, q44, h44⟩ := hG.new 44 (by kernel_rfl) (by kernel_rfl)
            have p44 : 0 = 0 → ∃ h, v44 = .slice (some ⟨h, 0, none⟩) 1 1 ∧ Box wx h 48 #[.int .i64 nk, .string nkey, .string nval, .int .u64 nn] := h44
            obtain ⟨h, rfl, hbn⟩ := p44 rfl
            have hb := (show Below _ _ _ from hS)
            obtain ⟨v2, w2, hr, o2, g2, a2⟩ := run_push_nt wx (g + 6) u pre.length _ (own_on HO9.out hb) h [.int .i64 nk, .string nkey, .string nval, .int .u64 nn] ⟨rfl, by simp [Value.oneCell']⟩ hbn (by have := HPL2.out; omega) (Nat.le_trans HSB.out hb.size)
            obtain ⟨A2, c2, rfl⟩ := own_shape o2
            have hr' : ∀ ty, (Builtin.append_ #[45, 45] ty #[u, .slice (some ⟨h, 0, none⟩) 1 1]).run Try.prog wx = .ok (.slice A2 (pre.length + 1) c2) w2 := hr
            refine step_marked (v := .slice A2 (pre.length + 1) c2) (w' := w2) rfl rfl rfl rfl ?_ (grown_trans (below_row hb _) g2) trivial ?_ ?_
            · have e1 : ax.eval (.tmp 41) = u := by rw [← p41]; simp [Act.eval, q41]
              have e2 : ax.eval (.tmp 44) = .slice (some ⟨h, 0, none⟩) 1 1 := by simp [Act.eval, q44]
              unfold execOp
              simp only [resolve, invoke, builtin, Sem.run_bind, Sem.run_pure, Result.andThen_ok, List.map_toArray, List.map_cons, List.map_nil, e1, e2, hr' _]
            · exact fun _ => ⟨A2, c2, rfl, o2⟩
            · intro t u _ ht hu hV
              unfold No11 at *
              split at hV <;> first | exact hV | exact fun h => absurd h (by decide) | exact absurd rfl ht
        · refine Steps1.cons (fun hin _ _ _ _ _ => out (by kernel_rfl) hin) (Steps1.cons (fun hin _ _ _ _ _ => out (by kernel_rfl) hin) (Steps1.cons (fun hin _ _ _ _ _ => out (by kernel_rfl) hin) (Steps1.cons (fun hin _ _ _ _ _ => out (by kernel_rfl) hin) (Steps1.cons (fun hin _ _ _ _ _ => out (by kernel_rfl) hin) (Steps1.cons (fun _ ax wx hS _ hG => ?_) Steps1.nil)))))
          · have q6 := hG.old 6 (by kernel_rfl) (by kernel_rfl)
            obtain ⟨v45, q45, h45⟩ := hG.new 45 (by kernel_rfl) (by kernel_rfl)
            have p45 : 1 = 1 → ∃ A' c', v45 = .slice A' (pre.length + 1) c' ∧ wx.ownsRow (g + 6) 48 4 (.slice A' (pre.length + 1) c') (pre.length + 1) ((pre.map noteC).flatMap Nt.cells ++ [.int .i64 nk, .string nkey, .string nval, .int .u64 nn]) := h45
            obtain ⟨A9, c9, rfl, o9⟩ := p45 rfl
            have hg9 := (show w9.grownBy wx u.ownBlock from hS)
            have hu3 : Box wx (g + 3) 45 #[u] := HU9.out.grown hg9 HNE.out
            have f0 := hu3.free 0
            have k0 := hu3.cell 0 rfl
            have hbl : ∀ j, (Value.slice A9 (pre.length + 1) c9).ownBlock = some j → g + 6 ≤ j := fun j hj => own_lt' o9 hj
            refine step_store (w' := wx.setCell ⟨g + 3, 0, none⟩ (.slice A9 (pre.length + 1) c9)) rfl rfl rfl rfl ?_ ⟨A9, c9, Box.set hu3 0 _, o9.kept (grownBy_setCell' wx (g + 3) _) (.inr (fun e => by have := hbl _ e; omega)), (K2.row hg9).trans (K2.ex (Ex.set wx _)) (.inl rfl)⟩ trivial ?_
            · clear hu3 o9 p45 h45 hg9 hbl
              go_simp
            · intro t u _ hu hV
              unfold No11 at *
              split at hV <;> first | exact hV | exact fun h => absurd h (by decide)
        · refine Steps1.cons (fun hin _ _ _ _ _ => out (by kernel_rfl) hin) (Steps1.cons (fun hin _ _ _ _ _ => out (by kernel_rfl) hin) (Steps1.cons (fun hin _ _ _ _ _ => out (by kernel_rfl) hin) (Steps1.cons (fun hin _ _ _ _ _ => out (by kernel_rfl) hin) (Steps1.cons (fun hin _ _ _ _ _ => out (by kernel_rfl) hin) (Steps1.cons (fun hin _ _ _ _ _ => out (by kernel_rfl) hin) Steps1.nil)))))
        intro fv w10 hS10 _ hV8
        simp only [puts, Act.put, List.setIfInBounds_toArray, List.set_cons_succ, List.set_cons_zero]
        clear hV8
        obtain ⟨A2, c2, hb2, o2, k2⟩ := (show ∃ A' c', Box w10 (g + 3) 45 #[.slice A' (pre.length + 1) c'] ∧ w10.ownsRow (g + 6) 48 4 (.slice A' (pre.length + 1) c') (pre.length + 1) ((pre.map noteC).flatMap Nt.cells ++ [.int .i64 nk, .string nkey, .string nval, .int .u64 nn]) ∧ K2 (g + 3) u.ownBlock w9 w10 from hS10)
        have hg9 := HS9.out.2
        have hne : ∀ k, k ≠ g + 4 → some k ≠ some (g + 4) := fun k h e => h (by injection e)
        have hnu : ∀ k, k < g + 6 → some k ≠ u.ownBlock := fun k h e => by have := HBL.out _ e.symm; omega
        have bx : ∀ {k : Nat} {T : TypeId} {V : Array Value}, Box w8 k T V → k < g + 6 → k ≠ g + 4 → k ≠ g + 3 → Box w10 k T V := fun h h1 h2 h3 => k2.box (h.grown hg9 (hne _ h2)) h3 (hnu _ h1)
        have hb9 : Below g w w9 := IB.out.grown hg9 (by have := IS.out; omega) (fun j e => by cases e; omega)
        have hb10 : Below g w w10 := K2.below hb9 k2 (by omega) (fun j hj => by have := HBL.out _ hj; omega) (by have := HSB.out; omega)
        have HF := Lib.hid (show KeepsNot 48 w6.heap.size W' w10 ∧ Below w.heap.size W' w10 ∧ NoI w g (.slice A ln cap) l (g + 6) (pre ++ [⟨s, key, mm, b, d, a⟩]) w10 from by
          have hk9 : KeepsNot 48 (g + 6) W' w9 := (KeepsNot.of_below HK8.out (Nat.le_refl _)).trans (KeepsNot.of_grown hg9 (fun j e => .inl (by cases e; omega)))
          have hk10 : KeepsNot 48 (g + 6) w9 w10 := k2.keeps (by omega) (fun j hj => own_row_at HO9.out hj)
          refine ⟨by rw [HE6.out]; exact hk9.trans hk10, ?_, ⟨⟨doC q ⟨s, key, mm, b, d, a⟩, by rw [doL_snoc, HHI.out.2]; show (if okC q ⟨s, key, mm, b, d, a⟩ then _ else none) = _; rw [if_pos HOKC.out], HS9.out.1.same ((k2.block _ HS9.out.1.lt (by omega) (hnu _ (by omega))))⟩, ⟨_, hb2, by rw [List.length_append, HNT.out]; exact o2⟩, bx I0.out (by omega) (by omega) (by omega), bx I1.out (by omega) (by omega) (by omega), bx I2.out (by omega) (by omega) (by omega), bx I5.out (by omega) (by omega) (by omega), hb10, Nat.le_trans HSB.out k2.size⟩⟩
          rw [← HG.out]
          have h8 : Below g W' w8 := HK8.out.mono (by have := HSZ.out; omega)
          exact K2.below (h8.grown hg9 (by have := HSZ.out; have := HK8.out.size; omega) (fun j e => by cases e; omega)) k2 (by omega) (fun j hj => by have := HBL.out _ hj; omega) (by have := HSB.out; omega))
        clear hb2 o2 k2 hg9 hne hnu bx hb9 hb10 hS10
        gi_wp2
        exact HF.out
  case done =>
    rintro D W' hD h1 hK
    obtain ⟨⟨q, hq, _⟩, ⟨u, hu, ho⟩, _, h1, h2, _, hb, hs⟩ := h1
    obtain ⟨Au, cu, rfl⟩ := own_shape ho
    have hD6 : g + 6 ≤ D := by rw [← HE6.out]; exact hD
    have c6 := hu.cell 0 rfl
    have f1 := h1.free 0
    have f2 := h2.free 0
    have c1 := h1.cell 0 rfl
    have c2 := h2.cell 0 rfl
    obtain ⟨wz, hz⟩ : ∃ wz, wz = (W'.setCell ⟨g + 1, 0, none⟩ (.slice Au C.length cu)).setCell ⟨g + 2, 0, none⟩ (.bool true) := ⟨_, rfl⟩
    have z1 : Box wz (g + 1) 45 #[.slice Au C.length cu] := by rw [hz]; exact (Box.set h1 0 _).away (by simp) _
    have z2 : Box wz (g + 2) 4 #[.bool true] := by rw [hz]; exact Box.set (Box.away h2 (by simp) _) 0 _
    have hbl : ∀ j, (Value.slice Au C.length cu).ownBlock = some j → g + 6 ≤ j := fun j hj => (own_lt' ho hj)
    have zo : wz.ownsRow (g + 6) 48 4 (.slice Au C.length cu) C.length ((C.map noteC).flatMap Nt.cells) := by
      rw [hz]
      refine (ho.kept (grownBy_setCell' W' (g + 1) _) (.inr (fun e => ?_))).kept (grownBy_setCell' _ (g + 2) _) (.inr (fun e => ?_))
      · have := hbl _ e; omega
      · have := hbl _ e; omega
    have hbz : Below g w wz := by rw [hz]; exact (hb.setCell (p := ⟨g + 1, 0, none⟩) (by simp) _).setCell (p := ⟨g + 2, 0, none⟩) (by simp) _
    have hKz : wz.heap[D]? = some (.deferred (some [])) := by rw [hz]; exact (KeepsOthers.setCell _ _ _).same D _ ((KeepsOthers.setCell _ _ _).same D _ hK rfl) rfl
    have hgp := grownBy_putObj' wz D (.deferred none)
    have y1 := (z1.grown hgp (by intro e; injection e with e; omega)).cell 0 rfl
    have y2 := (z2.grown hgp (by intro e; injection e with e; omega)).cell 0 rfl
    have hs2 : (doL l C).isSome = true := by rw [hq]; rfl
    have HF := Lib.hid (show NV (wz.putObj D (.deferred none)) (.slice Au C.length cu) (C.map noteC) ∧ Below w.heap.size w (wz.putObj D (.deferred none)) from
      ⟨NV.own (ownsRow_putObj zo _ hKz rfl) (by simp), by rw [← HG.out]; exact hbz.grown hgp (by have := hbz.size; have := HG.out; omega) (fun k e => by cases e; omega)⟩)
    have HRES := Lib.hid (show ∀ a : Array Value, a[4]? = some (.pointer (some ⟨g + 1, 0, none⟩)) → a[5]? = some (.pointer (some ⟨g + 2, 0, none⟩)) → True from fun _ _ _ => trivial)
    clear hu ho h1 h2 hb hs z1 z2 zo hbz hgp hbl hq
    gi_wp2
    rw [← hz]
    refine ⟨by simp, .inl ⟨_, _, rfl, run_takeDeferred hKz, ?_⟩⟩
    refine ⟨.tuple #[.slice Au C.length cu, .bool true], ?_, .slice Au C.length cu, by rw [hs2], fun _ => HF.out.1, HF.out.2⟩
    simp [results, Try.results47, Try.f47, go_sem, y1, y2]
  case stop =>
    rintro D c pre W' hD ⟨r, hr⟩ ⟨rfl, hx⟩ hK
    obtain ⟨hno, h1, h2, hb⟩ := hx
    have hD6 : g + 6 ≤ D := by rw [← HE6.out]; exact hD
    have hgp := grownBy_putObj' W' D (.deferred none)
    have y1 := (h1.grown hgp (by intro e; injection e with e; omega)).cell 0 rfl
    have y2 := (h2.grown hgp (by intro e; injection e with e; omega)).cell 0 rfl
    have hs2 : (doL l C).isSome = false := by rw [← hr, doL_append, hno]; rfl
    have HF := Lib.hid (show Below w.heap.size w (W'.putObj D (.deferred none)) from by rw [← HG.out]; exact hb.grown hgp (by have := hb.size; have := HG.out; omega) (fun k e => by cases e; omega))
    clear h1 h2 hb hgp hno
    gi_wp2
    refine ⟨by simp, .inl ⟨_, _, rfl, run_takeDeferred hK, ?_⟩⟩
    refine ⟨.tuple #[.slice none 0 0, .bool false], ?_, .slice none 0 0, by rw [hs2], fun e => (by rw [hs2] at e; cases e), HF.out⟩
    simp [results, Try.results47, Try.f47, go_sem, y1, y2]

end Go.Proofs.Ytgpjbajfkagdbaa

namespace Go.Proofs.Ytgpjbajfkagdbaa
open Go.RowKit Go.Shelf

theorem clone_v {v : Value} {l : List Pr} {w : World} (h : PV w v l) (hn : l.length ≤ 1000000) :
    Calls Try.prog 28 #[v] w fun e w' => ∃ v', e = .returned v' ∧ PV w' v' l ∧ Below w.heap.size w w' := by
  obtain ⟨A, c, rfl, h1, h2, h3⟩ := h
  refine (clone_pr A c l w h1 hn).mono ?_
  rintro e w' ⟨v', rfl, ho, hb⟩
  exact ⟨v', rfl, PV.own ho rfl, hb⟩

set_option maxRecDepth 100000 in
set_option maxHeartbeats 2000000 in
theorem walk_any {v : Value} {l : List Pr} {C : List Ch} (gf : Nat) (lb : Array Value) (w : World) (hv : PV w v l) (hn : l.length ≤ 100000) (hC : C.length ≤ 100000) (hk : ∀ c ∈ C, c.key.size ≤ maxLen)
    (eg : ∀ args w, (callFunc gf args).run Try.prog w = .ok (.enter gf args) w) (hseq : ∀ w', Below w.heap.size w w' → Gives 48 Try.prog gf lb (fun c : Ch => #[c.v]) (Below w'.heap.size) C w') :
    Calls Try.prog 33 #[v, .func (.func gf) #[] lb] w fun e w' => ∃ v', e = .returned (.tuple #[v', .int .i64 (walkE l C)]) ∧ PV w' v' (walkA l C) ∧ Below w.heap.size w w' := by
  have hr := right_v hv (by unfold maxLen; omega)
  have hcl := fun w' (hb : Below w.heap.size w w') => clone_v (hv.on hb) (by omega)
  have HCL := Lib.hid hcl
  cases hw : wellL l with
  | false =>
    have h1 : walkE l C = 1 ∧ walkA l C = l := by unfold walkE walkA; rw [hw]; exact ⟨rfl, rfl⟩
    rw [h1.1, h1.2]
    rw [hw] at hr
    clear h1 hw hseq hk eg hv hcl
    go_enter Try.func33, Try.ntmps33
    go_wp2_with fail
    refine hr.mono ?_
    clear hr
    rintro e w1 ⟨rfl, hb1⟩
    have HB := Lib.hid hb1
    clear hb1
    go_wp2_with fail
    refine (HCL.out _ HB.out).mono ?_
    rintro e w2 ⟨v', rfl, hv', hb2⟩
    have HV := Lib.hid (And.intro hv' (HB.out.trans (hb2.mono HB.out.size)))
    clear hv' hb2
    go_wp2
    go_ret2
    exact ⟨v', rfl, HV.out⟩
  | true =>
    rw [hw] at hr
    have hno := fun w' (hb : Below w.heap.size w w') => notesOf_any gf lb w' (hv.on hb) hw hn hC hk eg (hseq w' hb)
    have HNO := Lib.hid hno
    have HVV := Lib.hid hv
    have HW := Lib.hid hw
    clear hno hseq hk eg hv hcl hw
    cases hs : doL l C with
    | none =>
      have h1 := walk_no (l := l) (C := C) (by unfold walkE; rw [hs]; simp)
      rw [h1.1, h1.2.1]
      rw [hs] at HNO
      clear h1 hs
      go_enter Try.func33, Try.ntmps33
      go_wp2_with fail
      refine hr.mono ?_
      clear hr
      rintro e w1 ⟨rfl, hb1⟩
      have HB := Lib.hid hb1
      clear hb1
      go_wp2_with fail
      refine (HNO.out _ HB.out).mono ?_
      rintro e w2 ⟨u, rfl, _, hb2⟩
      have HB2 := Lib.hid (HB.out.trans (hb2.mono HB.out.size))
      clear hb2
      simp only [Option.isSome_none]
      go_wp2_with fail
      refine (HCL.out _ HB2.out).mono ?_
      rintro e w3 ⟨v', rfl, hv', hb3⟩
      have HV := Lib.hid (And.intro hv' (HB2.out.trans (hb3.mono HB2.out.size)))
      clear hv' hb3
      go_wp2
      go_ret2
      exact ⟨v', rfl, HV.out⟩
    | some q =>
      obtain ⟨h1, h2⟩ := walk_yes HW.out hs
      rw [h1, h2]
      obtain ⟨a1, a2⟩ := apply_yes HW.out (doL_notes hs)
      rw [fold_notes hs] at a2
      rw [hs] at HNO
      have HA := Lib.hid (And.intro a1 a2)
      clear h1 h2 a1 a2 hs
      go_enter Try.func33, Try.ntmps33
      go_wp2_with fail
      refine hr.mono ?_
      clear hr
      rintro e w1 ⟨rfl, hb1⟩
      have HB := Lib.hid hb1
      clear hb1
      go_wp2_with fail
      refine (HNO.out _ HB.out).mono ?_
      rintro e w2 ⟨u, rfl, hu, hb2⟩
      have HB2 := Lib.hid (HB.out.trans (hb2.mono HB.out.size))
      have hap := apply_v (HVV.out.on HB2.out) (hu rfl) (by rw [List.length_map]; omega)
      rw [HA.out.1, HA.out.2] at hap
      have HAP := Lib.hid hap
      clear hb2 hu hap
      simp only [Option.isSome_some]
      go_wp2_with fail
      refine HAP.out.mono ?_
      rintro e w3 ⟨v', rfl, hv', hb3⟩
      have HV := Lib.hid (And.intro hv' (HB2.out.trans (hb3.mono HB2.out.size)))
      clear hv' hb3
      go_wp2
      go_ret2
      exact ⟨v', rfl, HV.out⟩

set_option maxRecDepth 100000 in
set_option maxHeartbeats 1000000 in
theorem do_v {v u : Value} {l : List Pr} {C : List Ch} {w : World} (hv : PV w v l) (hu : CV w u C) (hn : l.length ≤ 100000) (hC : C.length ≤ 100000) (hk : ∀ c ∈ C, c.key.size ≤ maxLen) :
    Calls Try.prog 30 #[v, u] w fun e w' => ∃ v', e = .returned (.tuple #[v', .int .i64 (walkE l C)]) ∧ PV w' v' (walkA l C) ∧ Below w.heap.size w w' := by
  obtain ⟨A, n, c, rfl⟩ : ∃ A n c, u = .slice A n c := by obtain ⟨A, c, e, _⟩ := hu; exact ⟨A, _, c, e⟩
  have hb1 : Below w.heap.size w (w.alloc (.cells #[.slice A n c] 23)) := (Below.refl _ _).alloc (Nat.le_refl _) _
  have hx := Box.fresh w 23 #[.slice A n c]
  have hwk := walk_any 58 #[.pointer (some ⟨w.heap.size, 0, none⟩)] _ (hv.on hb1) hn hC hk (enters_of Try.func58 (by kernel_rfl) rfl)
    (fun w' hb => values1_gives 48 w' w.heap.size ((hu.on hb1).on hb) (by omega) (hx.on hb).lt ((hx.on hb).cell 0 rfl))
  have HWK := Lib.hid hwk
  have HB1 := Lib.hid hb1
  clear hwk hx hb1 hv hu hn hC hk
  go_enter Try.func30, Try.ntmps30
  go_wp2_with fail
  refine (values_any A n c w).mono ?_
  rintro e w1 ⟨rfl, rfl⟩
  go_wp2_with fail
  refine HWK.out.mono ?_
  rintro e w3 ⟨v', rfl, hv', hb3⟩
  have HV := Lib.hid (And.intro hv' (HB1.out.trans (hb3.mono HB1.out.size)))
  clear hv' hb3
  go_wp2
  go_ret2
  exact ⟨v', rfl, HV.out⟩

theorem back_keys {C : List Ch} (hk : ∀ c ∈ C, c.key.size ≤ maxLen) : ∀ c ∈ backL C, c.key.size ≤ maxLen := by
  intro c hc
  unfold backL at hc
  rw [List.mem_reverse, List.mem_map] at hc
  obtain ⟨x, hx, rfl⟩ := hc
  exact hk x hx

set_option maxRecDepth 100000 in
set_option maxHeartbeats 1000000 in
theorem undo_v {v u : Value} {l : List Pr} {C : List Ch} {w : World} (hv : PV w v l) (hu : CV w u C) (hn : l.length ≤ 100000) (hC : C.length ≤ 100000) (hk : ∀ c ∈ C, c.key.size ≤ maxLen) :
    Calls Try.prog 20 #[v, u] w fun e w' => ∃ v', e = .returned (.tuple #[v', .int .i64 (walkE l (backL C))]) ∧ PV w' v' (walkA l (backL C)) ∧ Below w.heap.size w w' := by
  obtain ⟨A, n, c, rfl⟩ : ∃ A n c, u = .slice A n c := by obtain ⟨A, c, e, _⟩ := hu; exact ⟨A, _, c, e⟩
  have hb1 : Below w.heap.size w (w.alloc (.cells #[.slice A n c] 23)) := (Below.refl _ _).alloc (Nat.le_refl _) _
  have hx := Box.fresh w 23 #[.slice A n c]
  have hwk := walk_any (C := backL C) 49 #[.pointer (some ⟨w.heap.size, 0, none⟩)] _ (hv.on hb1) hn (by rw [back_len]; exact hC) (back_keys hk) (enters_of Try.func49 (by kernel_rfl) rfl)
    (fun w' hb => back1_gives w' w.heap.size ((hu.on hb1).on hb) (by omega) (hx.on hb).lt ((hx.on hb).cell 0 rfl))
  have HWK := Lib.hid hwk
  have HB1 := Lib.hid hb1
  clear hwk hx hb1 hv hu hn hC hk
  go_enter Try.func20, Try.ntmps20
  go_wp2_with fail
  refine (back_any A n c w).mono ?_
  rintro e w1 ⟨rfl, rfl⟩
  go_wp2_with fail
  refine HWK.out.mono ?_
  rintro e w3 ⟨v', rfl, hv', hb3⟩
  have HV := Lib.hid (And.intro hv' (HB1.out.trans (hb3.mono HB1.out.size)))
  clear hv' hb3
  go_wp2
  go_ret2
  exact ⟨v', rfl, HV.out⟩

end Go.Proofs.Ytgpjbajfkagdbaa
