/- The walks of infos and Infos. -/
import Derived.Test.YteddjmkoleclpaaSCN
import Derived.Test.YteddjmkoleclpaaRInfo
set_option linter.unusedVariables false
set_option linter.unusedSimpArgs false
namespace Go.Proofs.Yteddjmkoleclpaa
open Go.RowKit Go.Sort

theorem tinfo_info : (Try.prog.info? 85).map (fun i => (i.zero, i.size, i.bytes)) = some (some (.agg #[.int .i64 0, .int .i64 0, .string ⟨#[]⟩, .slice none 0 0, .slice none 0 0]), 5, 80) := by kernel_rfl
/-- What is told of nodes, each with its notes and pairs in rows of the call's own. -/
def InfX (base : Nat) (w : World) (rs : List Raw) (xs : List In) : Prop := AllN (fun (r : Raw) (x : In) => r.depth = x.depth ∧ r.kids = x.kids ∧ r.low = x.low ∧ w.ownsRow base 52 4 r.nv x.notes.length (x.notes.flatMap Nt.cells) ∧ w.ownsRow base 44 2 r.pv x.pairs.length (x.pairs.flatMap Pr.cells)) rs xs
def LJ (base : Nat) (w : World) (v : Value) (xs : List In) : Prop := ∃ rs, w.ownsRow base 85 5 v xs.length (rs.flatMap Raw.cells) ∧ InfX base w rs xs
theorem InfX.on {base : Nat} {w w' : World} {rs : List Raw} {xs : List In} (h : InfX base w rs xs) (hb : Below w.heap.size w w') : InfX base w' rs xs := h.imp fun _ _ ⟨h1, h2, h3, h4, h5⟩ => ⟨h1, h2, h3, own_below' h4 hb, own_below' h5 hb⟩
theorem LJ.on {base : Nat} {w w' : World} {v : Value} {xs : List In} (h : LJ base w v xs) (hb : Below w.heap.size w w') : LJ base w' v xs := let ⟨rs, h1, h2⟩ := h; ⟨rs, own_below' h1 hb, h2.on hb⟩
theorem LJ.nil (w : World) (base : Nat) : LJ base w (.slice none 0 0) [] := ⟨[], World.ownsRow_nil _ _ _ _, trivial⟩
theorem own_grownT {base b2 n m k k2 : Nat} {e e2 : TypeId} {w w' : World} {u v : Value} {ys xs : List Value} (h : w.ownsRow base e k u n ys) (hr : w.ownsRow b2 e2 k2 v m xs) (he : e ≠ e2) (hg : w.grownBy w' v.ownBlock) : w'.ownsRow base e k u n ys := by
  obtain ⟨A, c, rfl⟩ := own_shape h
  refine h.kept hg ?_
  cases e1 : Value.ownBlock (.slice A n c) with
  | none => exact .inl rfl
  | some g => exact .inr fun e2 => own_apartN h hr he g e1 e2.symm
theorem own_box {base n k g : Nat} {e t : TypeId} {w : World} {v : Value} {xs : List Value} {C : Array Value} (h : w.ownsRow base e k v n xs) (hb : Box w g t C) (he : e ≠ t) : some g ≠ v.ownBlock := by
  rcases h.2 with ⟨rfl, _⟩ | ⟨q, cap, cur, rfl, _, hh, _⟩
  · simp [Value.ownBlock]
  · intro e1
    simp [Value.ownBlock] at e1
    subst e1
    have h1 : w.heap[g]? = some (.cells C t (0, 0)) := hb
    rw [hh] at h1
    injection h1 with h1
    injection h1 with _ h1 _
    exact he h1
theorem raws_len (l : List Raw) : (l.flatMap Raw.cells).length = l.length * 5 := by
  induction l with
  | nil => rfl
  | cons x l ih => rw [List.flatMap_cons, List.length_append, ih, Raw.cells5, List.length_cons]; omega
/-- One more that is told of. -/
theorem append_info {base g q : Nat} {w0 wd wx : World} {v1 nv pv : Value} {d : Int} {n : Nat} {lo : ByteArray} {nl : List Nt} {pl : List Pr} {xs : List In} {C : Array Value} (hl : LJ base wd v1 xs) (hbd : Below wd.heap.size wd wx) (hb0 : Below base w0 wx) (hbase : base ≤ wd.heap.size)
    (hbq : Box wx q 85 #[.int .i64 d, .int .i64 n, .string lo, nv, pv]) (hn : wx.ownsRow base 52 4 nv nl.length (nl.flatMap Nt.cells)) (hp : wx.ownsRow base 44 2 pv pl.length (pl.flatMap Pr.cells)) (hbx : Box wx g 30 C) (hm : xs.length ≤ 100000000) {ty : Nat} :
    ∃ v2 w2, (Builtin.append_ #[57, 57] ty #[v1, .slice (some ⟨q, 0, none⟩) 1 1]).run Try.prog wx = .ok v2 w2 ∧ LJ base w2 v2 (xs ++ [⟨d, n, lo, nl, pl⟩]) ∧ Below base w0 w2 ∧ Box w2 g 30 C := by
  obtain ⟨i0, hi0, hz0, hz1, hz2⟩ := info_parts tinfo_info
  obtain ⟨rs, h1, h2⟩ := hl
  have hown := own_below' h1 hbd
  have hsz := hbd.size
  obtain ⟨An, cn, rfl⟩ := own_shape hn
  obtain ⟨Ap, cp, rfl⟩ := own_shape hp
  obtain ⟨v2, w2, hr, hown2, hg, _⟩ := run_append_own (P := Try.prog) wx base 57 ty 85 i0 (.agg #[.int .i64 0, .int .i64 0, .string ⟨#[]⟩, .slice none 0 0, .slice none 0 0]) 5 80 Try.underlying57 hi0 hz0 hz1 hz2 rfl (by decide) v1 xs.length (rs.flatMap Raw.cells) hown ⟨q, 0, none⟩ 1 1 [.int .i64 d, .int .i64 n, .string lo, .slice An nl.length cn, .slice Ap pl.length cp] rfl (fun j u hj => by
      match j, hj with
      | 0, hj => simp at hj; subst hj; simpa [Addr.add] using Box.cell hbq 0 rfl
      | 1, hj => simp at hj; subst hj; simpa [Addr.add] using Box.cell hbq 1 rfl
      | 2, hj => simp at hj; subst hj; simpa [Addr.add] using Box.cell hbq 2 rfl
      | 3, hj => simp at hj; subst hj; simpa [Addr.add] using Box.cell hbq 3 rfl
      | 4, hj => simp at hj; subst hj; simpa [Addr.add] using Box.cell hbq 4 rfl) (by intro u hu; simp at hu; rcases hu with rfl | rfl | rfl | rfl | rfl <;> rfl) (by unfold maxLen; omega) (by omega) (by omega)
  refine ⟨v2, w2, hr, ⟨rs ++ [⟨d, n, lo, .slice An nl.length cn, .slice Ap pl.length cp⟩], by simpa [Raw.cells] using hown2, AllN.app ((h2.on hbd).imp fun _ _ ⟨g1, g2, g3, g4, g5⟩ => ⟨g1, g2, g3, own_grownT g4 hown (by decide) hg, own_grownT g5 hown (by decide) hg⟩) ⟨⟨rfl, rfl, rfl, own_grownT hn hown (by decide) hg, own_grownT hp hown (by decide) hg⟩, trivial⟩⟩, ?_, hbx.grown hg (own_box hown hbx (by decide))⟩
  exact hb0.grown hg (by omega) fun k hk => (hown.lt k hk).1
/-- What holds while one more is told of. -/
def GrowB (base g : Nat) (w0 wd : World) (lo : ByteArray) (k n p : Sl) (q : Nat) (w : World) : Prop := Below base w0 w ∧ (q = 0 → Below wd.heap.size wd w) ∧ Box w g 30 #[.string lo, .slice k.a k.n k.c, .slice n.a n.n n.c, .slice p.a p.n p.c]
theorem GrowB.on {base g : Nat} {w0 wd wa wb : World} {lo : ByteArray} {k n p : Sl} {q : Nat} (hbase : base ≤ wa.heap.size) (h : GrowB base g w0 wd lo k n p q wa) (hb : Below wa.heap.size wa wb) : GrowB base g w0 wd lo k n p q wb :=
  ⟨h.1.trans (hb.mono hbase), fun e => (h.2.1 e).trans (hb.mono (h.2.1 e).size), h.2.2.on hb⟩

def InfV (base g : Nat) (U KS NS PS : Value) (d : Int) (n : Nat) (lo : ByteArray) (nl : List Nt) (pl : List Pr) (xs : List In) (p t : Nat) (v : Value) (w : World) : Prop :=
  match t with
  | 9 => v = U
  | 10 => v = .int .i64 d
  | 11 => v = .pointer (some ⟨g, 1, none⟩)
  | 12 => v = KS
  | 13 => v = .int .i64 n
  | 14 => v = .pointer (some ⟨g, 0, none⟩)
  | 15 => v = .string lo
  | 16 => v = .pointer (some ⟨g, 2, none⟩)
  | 17 => v = NS
  | 18 => p = 0 → w.ownsRow base 52 4 v nl.length (nl.flatMap Nt.cells)
  | 19 => v = .pointer (some ⟨g, 3, none⟩)
  | 20 => v = PS
  | 21 => p = 0 → w.ownsRow base 44 2 v pl.length (pl.flatMap Pr.cells)
  | 22 => p = 0 → ∃ nv pv, v = .agg #[.int .i64 d, .int .i64 n, .string lo, nv, pv] ∧ w.ownsRow base 52 4 nv nl.length (nl.flatMap Nt.cells) ∧ w.ownsRow base 44 2 pv pl.length (pl.flatMap Pr.cells)
  | 23 => p = 0 → ∃ q nv pv, v = .slice (some ⟨q, 0, none⟩) 1 1 ∧ Box w q 85 #[.int .i64 d, .int .i64 n, .string lo, nv, pv] ∧ w.ownsRow base 52 4 nv nl.length (nl.flatMap Nt.cells) ∧ w.ownsRow base 44 2 pv pl.length (pl.flatMap Pr.cells)
  | 24 => p = 1 → LJ base w v (xs ++ [⟨d, n, lo, nl, pl⟩])
  | 1 => p = 1 ∧ LJ base w v (xs ++ [⟨d, n, lo, nl, pl⟩])
  | _ => True
theorem InfV.on {base g : Nat} {U KS NS PS : Value} {d : Int} {n : Nat} {lo : ByteArray} {nl : List Nt} {pl : List Pr} {xs : List In} {p t : Nat} {v : Value} {w w' : World} (h : InfV base g U KS NS PS d n lo nl pl xs p t v w) (hb : Below w.heap.size w w') : InfV base g U KS NS PS d n lo nl pl xs p t v w' := by
  unfold InfV at *
  split at h <;> first | exact h | (exact fun e => own_below' (h e) hb) | (exact fun e => let ⟨a, b, e1, e2, e3⟩ := h e; ⟨a, b, e1, own_below' e2 hb, own_below' e3 hb⟩) | (exact fun e => let ⟨q, a, b, e1, e0, e2, e3⟩ := h e; ⟨q, a, b, e1, e0.on hb, own_below' e2 hb, own_below' e3 hb⟩) | exact fun e => (h e).on hb | exact ⟨h.1, h.2.on hb⟩

set_option maxHeartbeats 8000000 in
set_option maxRecDepth 100000 in
theorem infos_node (base : Nat) (r : Nr) (rs : List Nr) (nl : List Nt) (pl : List Pr) (I : Nat → List In) (d : Int) (v1 : Value) (xs : List In) (w : World) (S : Nat → Prop) (hS : ∀ b, S b → b < base) (hbase : base ≤ w.heap.size) (hk : SlB Nr.cells 4 w S r.k rs) (hn : SlB Nt.cells 4 w S r.n nl) (hp : SlB Pr.cells 2 w S r.p pl) (hl : LJ base w v1 xs) (hd0 : 0 ≤ d) (hd : d ≤ 1000000000) (hkb : rs.length ≤ 1000) (hnb : nl.length ≤ 100000) (hpb : pl.length ≤ 100000)
    (hm : xs.length + 1 + ((List.range rs.length).flatMap I).length ≤ 100000000)
    (hrec : ∀ i (hi : i < rs.length) (wx : World) (v : Value) (ys : List In), Below base w wx → base ≤ wx.heap.size → LJ base wx v ys → ys.length + (I i).length ≤ 100000000 → Calls Try.prog 33 #[(rs[i]'hi).v, v, .int .i64 (d + 1)] wx fun e w' => ∃ v', e = .returned v' ∧ LJ base w' v' (ys ++ I i) ∧ Below base wx w') :
    Calls Try.prog 33 #[r.v, v1, .int .i64 d] w fun e w' => ∃ v', e = .returned v' ∧ LJ base w' v' (xs ++ (⟨d, rs.length, r.low, nl, pl⟩ :: (List.range rs.length).flatMap I)) ∧ Below base w w' := by
  obtain ⟨n, hnn⟩ : ∃ n, n = rs.length := ⟨_, rfl⟩
  obtain ⟨lo, ⟨ka, kn, kc⟩, ⟨na, nn, nc⟩, ⟨pa, pn, pc⟩⟩ := r
  obtain ⟨k1, k2, k3, k4⟩ := hk
  obtain ⟨n1, n2, n3, n4⟩ := hn
  obtain ⟨p1, p2, p3, p4⟩ := hp
  simp only at k1 k2 n1 n2 p1 p2 ⊢
  rw [← hnn] at k1 hkb hm ⊢
  subst k1
  obtain ⟨g, hg⟩ : ∃ g, g = w.heap.size := ⟨_, rfl⟩
  obtain ⟨w0, hw0⟩ : ∃ w0, w0 = w.alloc (.cells #[.string lo, .slice ka kn kc, .slice na nn nc, .slice pa pn pc] 30) := ⟨_, rfl⟩
  have hb0 : Below w.heap.size w w0 := by rw [hw0]; exact (Below.refl _ _).alloc (Nat.le_refl _) _
  have HB0 := Lib.hid hb0
  have BX := Lib.hid (show NdB w0 g ⟨lo, ⟨ka, kn, kc⟩, ⟨na, nn, nc⟩, ⟨pa, pn, pc⟩⟩ from by rw [hw0]; exact Box.at_ w _ _ hg)
  have HLJ := Lib.hid (hl.on hb0)
  have HBASE := Lib.hid (show base ≤ w0.heap.size from Nat.le_trans hbase hb0.size)
  have HBASEW := Lib.hid hbase
  have HBW := Lib.hid (show Below base w w0 from hb0.mono hbase)
  have HMX := Lib.hid (show xs.length ≤ 100000000 from by omega)
  have HU := Lib.hid hS
  have HK := Lib.hid k2
  have HN := Lib.hid (And.intro n1 n2)
  have HP := Lib.hid (And.intro p1 p2)
  have HNN := Lib.hid hnn
  have HRC := Lib.hid hrec
  have HM := Lib.hid hm
  have HNB := Lib.hid (And.intro hnb hpb)
  have HKC := Lib.hid (show ∀ i (hi : i < rs.length), ∃ kd, ka = some kd ∧ ∀ wx, Below base w wx → wx.cell? (kd.add (i * 4)) = some (.string rs[i].low) ∧ wx.cell? ⟨(kd.add (i * 4)).block, (kd.add (i * 4)).off + 1, none⟩ = some (.slice rs[i].k.a rs[i].k.n rs[i].k.c) ∧ wx.cell? ⟨(kd.add (i * 4)).block, (kd.add (i * 4)).off + 2, none⟩ = some (.slice rs[i].n.a rs[i].n.n rs[i].n.c) ∧ wx.cell? ⟨(kd.add (i * 4)).block, (kd.add (i * 4)).off + 3, none⟩ = some (.slice rs[i].p.a rs[i].p.n rs[i].p.c) from fun i hi => by
    obtain ⟨kd, e, hB, hc⟩ := (k2.lies hS).seeK (by omega)
    refine ⟨kd, e, fun wx hb => ?_⟩
    have hlt : (kd.add (i * 4)).block < base := by rw [block_of_add]; exact hB
    obtain ⟨c0, c1, c2, c3⟩ := hc i hi
    exact ⟨(hb.cell hlt).trans c0, (hb.cell (p := ⟨(kd.add (i * 4)).block, (kd.add (i * 4)).off + 1, none⟩) hlt).trans c1, (hb.cell (p := ⟨(kd.add (i * 4)).block, (kd.add (i * 4)).off + 2, none⟩) hlt).trans c2, (hb.cell (p := ⟨(kd.add (i * 4)).block, (kd.add (i * 4)).off + 3, none⟩) hlt).trans c3⟩)
  show Calls Try.prog 33 #[.agg #[.string lo, .slice ka kn kc, .slice na nn nc, .slice pa pn pc], v1, .int .i64 d] w fun e w' => ∃ v', e = .returned v' ∧ LJ base w' v' (xs ++ (⟨d, kn, lo, nl, pl⟩ :: (List.range kn).flatMap I)) ∧ Below base w w'
  obtain ⟨n, hkn⟩ : ∃ n, n = kn := ⟨_, rfl⟩
  rw [← hkn] at BX HNN HM hkb hw0 ⊢
  clear hS hbase k2 k3 k4 n1 n2 n3 n4 p1 p2 p3 p4 hl hnb hpb hm hrec hnn hb0 hkn
  go_enter Try.func33, Try.ntmps33
  go_upto_region 1 with fail
  rw [← hg, ← hw0]
  clear hg hw0
  obtain ⟨wd, hwd⟩ : ∃ wz, wz = w0 := ⟨_, rfl⟩
  rw [← hwd] at HB0 BX HLJ HBASE HBW ⊢
  clear hwd
  have HST0 := Lib.hid (show GrowB base g w wd lo ⟨ka, n, kc⟩ ⟨na, nn, nc⟩ ⟨pa, pn, pc⟩ 0 wd.drew from ⟨below_drewN HBW.out 1, fun _ => below_drewN (Below.refl _ _) 1, BX.out⟩)
  have HCB := Lib.hid (show ∀ wx, Box wx g 30 #[.string lo, .slice ka n kc, .slice na nn nc, .slice pa pn pc] → wx.cell? ⟨g, 0, none⟩ = some (.string lo) ∧ wx.cell? ⟨g, 1, none⟩ = some (.slice ka n kc) ∧ wx.cell? ⟨g, 2, none⟩ = some (.slice na nn nc) ∧ wx.cell? ⟨g, 3, none⟩ = some (.slice pa pn pc) from fun wx h => ⟨Box.cell h 0 rfl, Box.cell h 1 rfl, Box.cell h 2 rfl, Box.cell h 3 rfl⟩)
  have HCN := Lib.hid (show ∀ wx, GrowB base g w wd lo ⟨ka, n, kc⟩ ⟨na, nn, nc⟩ ⟨pa, pn, pc⟩ 0 wx → Calls Try.prog 36 #[.slice na nn nc] wx fun e w' => ∃ v', e = .returned v' ∧ w'.ownsRow base 52 4 v' nl.length (nl.flatMap Nt.cells) ∧ Below wx.heap.size wx w' from fun wx hS => by
    have hbx : base ≤ wx.heap.size := Nat.le_trans HBASE.out (hS.2.1 rfl).size
    have h1 := clone_nt na nc nl wx (((HN.out.2.keep fun p hp => hS.1.cell (HU.out _ hp)).lies HU.out).more hbx) (by have := HNB.out.1; omega)
    rw [← HN.out.1] at h1
    refine h1.mono ?_
    rintro e w' ⟨v', rfl, ho, hb⟩
    rw [HN.out.1] at ho
    exact ⟨v', rfl, own_baseN ho hbx, hb⟩)
  have HCP := Lib.hid (show ∀ wx, GrowB base g w wd lo ⟨ka, n, kc⟩ ⟨na, nn, nc⟩ ⟨pa, pn, pc⟩ 0 wx → Calls Try.prog 63 #[.slice pa pn pc] wx fun e w' => ∃ v', e = .returned v' ∧ w'.ownsRow base 44 2 v' pl.length (pl.flatMap Pr.cells) ∧ Below wx.heap.size wx w' from fun wx hS => by
    have hbx : base ≤ wx.heap.size := Nat.le_trans HBASE.out (hS.2.1 rfl).size
    have h1 := clone_pr pa pc pl wx (((HP.out.2.keep fun p hp => hS.1.cell (HU.out _ hp)).lies HU.out).more hbx) (by have := HNB.out.2; omega)
    rw [← HP.out.1] at h1
    refine h1.mono ?_
    rintro e w' ⟨v', rfl, ho, hb⟩
    rw [HP.out.1] at ho
    exact ⟨v', rfl, own_baseN ho hbx, hb⟩)
  refine wp_region_phase 18 [9, 10, 11, 12, 13, 14, 15, 16, 17, 18, 19, 20, 21, 22, 23, 24, 1] (by kernel_rfl) [15] [] (fun _ _ => True) 1 rfl (by kernel_rfl) (GrowB base g w wd lo ⟨ka, n, kc⟩ ⟨na, nn, nc⟩ ⟨pa, pn, pc⟩) (fun wa wb => Below wa.heap.size wa wb) (InfV base g v1 (.slice ka n kc) (.slice na nn nc) (.slice pa pn pc) d n lo nl pl xs) (by kernel_rfl) (fun _ wa wb h1 h2 => GrowB.on (Nat.le_trans HBASEW.out h2.1.size) h2 h1) (fun _ t v wa wb h1 h2 => InfV.on h2 h1) (fun _ _ _ _ _ _ _ => trivial) HST0.out trivial (phase1 ?_ ?_) ?_
  · skip
    refine Steps1.cons (fun _ ax wx hS hJ hG => ?_) (Steps1.cons (fun _ ax wx hS hJ hG => ?_) (Steps1.cons (fun _ ax wx hS hJ hG => ?_) (Steps1.cons (fun _ ax wx hS hJ hG => ?_) (Steps1.cons (fun _ ax wx hS hJ hG => ?_) (Steps1.cons (fun _ ax wx hS hJ hG => ?_) (Steps1.cons (fun _ ax wx hS hJ hG => ?_) (Steps1.cons (fun _ ax wx hS hJ hG => ?_) (Steps1.cons (fun _ ax wx hS hJ hG => ?_) (Steps1.cons (fun _ ax wx hS hJ hG => ?_) (Steps1.cons (fun _ ax wx hS hJ hG => ?_) (Steps1.cons (fun _ ax wx hS hJ hG => ?_) (Steps1.cons (fun _ ax wx hS hJ hG => ?_) (Steps1.cons (fun _ ax wx hS hJ hG => ?_) (Steps1.cons (fun _ ax wx hS hJ hG => ?_) (Steps1.cons (fun _ ax wx hS hJ hG => ?_) (Steps1.cons (fun hin _ _ _ _ _ => out (by kernel_rfl) hin) Steps1.nil))))))))))))))))
    · have q1 := hG.old 1 (by kernel_rfl) (by kernel_rfl)
      refine step_slot rfl rfl rfl (step_value (v := v1) (w' := wx) rfl rfl ?_ (Below.refl _ _) (fun d hd => by cases hd; exact rfl))
      go_simp
    · have q2 := hG.old 2 (by kernel_rfl) (by kernel_rfl)
      refine step_slot rfl rfl rfl (step_value (v := .int .i64 d) (w' := wx) rfl rfl ?_ (Below.refl _ _) (fun d hd => by cases hd; exact rfl))
      go_simp
    · have q3 := hG.old 3 (by kernel_rfl) (by kernel_rfl)
      refine step_slot rfl rfl rfl (step_value (v := .pointer (some ⟨g, 1, none⟩)) (w' := wx) rfl rfl ?_ (Below.refl _ _) (fun d hd => by cases hd; exact rfl))
      go_simp
    · obtain ⟨_, q11, rfl⟩ := hG.new 11 (by kernel_rfl) (by kernel_rfl)
      obtain ⟨z0, z1, z2, z3⟩ := HCB.out wx hS.2.2
      refine step_slot rfl rfl rfl (step_value (v := .slice ka n kc) (w' := wx) rfl rfl ?_ (Below.refl _ _) (fun d hd => by cases hd; exact rfl))
      go_simp
    · obtain ⟨_, q12, rfl⟩ := hG.new 12 (by kernel_rfl) (by kernel_rfl)
      refine step_slot rfl rfl rfl (step_value (v := .int .i64 n) (w' := wx) rfl rfl ?_ (Below.refl _ _) (fun d hd => by cases hd; exact rfl))
      go_simp
    · have q3 := hG.old 3 (by kernel_rfl) (by kernel_rfl)
      refine step_slot rfl rfl rfl (step_value (v := .pointer (some ⟨g, 0, none⟩)) (w' := wx) rfl rfl ?_ (Below.refl _ _) (fun d hd => by cases hd; exact rfl))
      go_simp
    · obtain ⟨_, q14, rfl⟩ := hG.new 14 (by kernel_rfl) (by kernel_rfl)
      obtain ⟨z0, z1, z2, z3⟩ := HCB.out wx hS.2.2
      refine step_slot rfl rfl rfl (step_value (v := .string lo) (w' := wx) rfl rfl ?_ (Below.refl _ _) (fun d hd => by cases hd; exact rfl))
      go_simp
    · have q3 := hG.old 3 (by kernel_rfl) (by kernel_rfl)
      refine step_slot rfl rfl rfl (step_value (v := .pointer (some ⟨g, 2, none⟩)) (w' := wx) rfl rfl ?_ (Below.refl _ _) (fun d hd => by cases hd; exact rfl))
      go_simp
    · obtain ⟨_, q16, rfl⟩ := hG.new 16 (by kernel_rfl) (by kernel_rfl)
      obtain ⟨z0, z1, z2, z3⟩ := HCB.out wx hS.2.2
      refine step_slot rfl rfl rfl (step_value (v := .slice na nn nc) (w' := wx) rfl rfl ?_ (Below.refl _ _) (fun d hd => by cases hd; exact rfl))
      go_simp
    · obtain ⟨_, q17, rfl⟩ := hG.new 17 (by kernel_rfl) (by kernel_rfl)
      refine step_slot rfl rfl rfl (step_call (w1 := wx) (f := 36) (args := #[.slice na nn nc]) rfl rfl ?_ ((HCN.out wx hS).mono ?_))
      · go_simp
      · rintro e w' ⟨v', rfl, hv, hq⟩
        exact ⟨_, rfl, hq, fun d hd => by cases hd; exact fun _ => hv⟩
    · have q3 := hG.old 3 (by kernel_rfl) (by kernel_rfl)
      refine step_slot rfl rfl rfl (step_value (v := .pointer (some ⟨g, 3, none⟩)) (w' := wx) rfl rfl ?_ (Below.refl _ _) (fun d hd => by cases hd; exact rfl))
      go_simp
    · obtain ⟨_, q19, rfl⟩ := hG.new 19 (by kernel_rfl) (by kernel_rfl)
      obtain ⟨z0, z1, z2, z3⟩ := HCB.out wx hS.2.2
      refine step_slot rfl rfl rfl (step_value (v := .slice pa pn pc) (w' := wx) rfl rfl ?_ (Below.refl _ _) (fun d hd => by cases hd; exact rfl))
      go_simp
    · obtain ⟨_, q20, rfl⟩ := hG.new 20 (by kernel_rfl) (by kernel_rfl)
      refine step_slot rfl rfl rfl (step_call (w1 := wx) (f := 63) (args := #[.slice pa pn pc]) rfl rfl ?_ ((HCP.out wx hS).mono ?_))
      · go_simp
      · rintro e w' ⟨v', rfl, hv, hq⟩
        exact ⟨_, rfl, hq, fun d hd => by cases hd; exact fun _ => hv⟩
    · obtain ⟨_, q10, rfl⟩ := hG.new 10 (by kernel_rfl) (by kernel_rfl)
      obtain ⟨_, q13, rfl⟩ := hG.new 13 (by kernel_rfl) (by kernel_rfl)
      obtain ⟨_, q15, rfl⟩ := hG.new 15 (by kernel_rfl) (by kernel_rfl)
      obtain ⟨v18, q18, h18⟩ := hG.new 18 (by kernel_rfl) (by kernel_rfl)
      obtain ⟨v21, q21, h21⟩ := hG.new 21 (by kernel_rfl) (by kernel_rfl)
      have o18 := (show 0 = 0 → wx.ownsRow base 52 4 v18 nl.length (nl.flatMap Nt.cells) from h18) rfl
      have o21 := (show 0 = 0 → wx.ownsRow base 44 2 v21 pl.length (pl.flatMap Pr.cells) from h21) rfl
      obtain ⟨A18, c18, rfl⟩ := own_shape o18
      obtain ⟨A21, c21, rfl⟩ := own_shape o21
      refine step_slot rfl rfl rfl (step_value (v := .agg #[.int .i64 d, .int .i64 n, .string lo, .slice A18 nl.length c18, .slice A21 pl.length c21]) (w' := wx) rfl rfl ?_ (Below.refl _ _) (fun d hd => by cases hd; exact fun _ => ⟨_, _, rfl, o18, o21⟩))
      clear h18 h21 o18 o21
      generalize nl.length = qn at *
      generalize pl.length = qp at *
      go_simp
    · obtain ⟨v22, q22, h22⟩ := hG.new 22 (by kernel_rfl) (by kernel_rfl)
      obtain ⟨nv, pv, e22, o18, o21⟩ := (show 0 = 0 → ∃ nv pv, v22 = .agg #[.int .i64 d, .int .i64 n, .string lo, nv, pv] ∧ wx.ownsRow base 52 4 nv nl.length (nl.flatMap Nt.cells) ∧ wx.ownsRow base 44 2 pv pl.length (pl.flatMap Pr.cells) from h22) rfl
      obtain ⟨A18, c18, rfl⟩ := own_shape o18
      obtain ⟨A21, c21, rfl⟩ := own_shape o21
      subst e22
      refine step_slot rfl rfl rfl (step_value (v := .slice (some ⟨wx.heap.size, 0, none⟩) 1 1) (w' := wx.alloc (.cells #[.int .i64 d, .int .i64 n, .string lo, .slice A18 nl.length c18, .slice A21 pl.length c21] 85)) rfl rfl ?_ ((Below.refl _ _).alloc (Nat.le_refl _) _) (fun d hd => by cases hd; exact fun _ => ⟨_, _, _, rfl, Box.fresh _ _ _, o18.alloc _, o21.alloc _⟩))
      clear h22 o18 o21
      generalize nl.length = qn at *
      generalize pl.length = qp at *
      go_simp
    · obtain ⟨v9, q1, h9⟩ := hG.new 9 (by kernel_rfl) (by kernel_rfl)
      rw [show v9 = v1 from h9] at q1
      clear h9 v9
      obtain ⟨v23, q2, h2⟩ := hG.new 23 (by kernel_rfl) (by kernel_rfl)
      obtain ⟨q, nv, pv, rfl, hbq, o18, o21⟩ := (show 0 = 0 → ∃ q nv pv, v23 = .slice (some ⟨q, 0, none⟩) 1 1 ∧ Box wx q 85 #[.int .i64 d, .int .i64 n, .string lo, nv, pv] ∧ wx.ownsRow base 52 4 nv nl.length (nl.flatMap Nt.cells) ∧ wx.ownsRow base 44 2 pv pl.length (pl.flatMap Pr.cells) from h2) rfl
      obtain ⟨v2, w2, hr, hlj2, hbe2, hbx2⟩ := append_info HLJ.out (hS.2.1 rfl) hS.1 HBASE.out hbq o18 o21 hS.2.2 HMX.out (ty := 57)
      refine step_marked (v := v2) (w' := w2) rfl rfl rfl rfl ?_ ⟨hbe2, fun h => absurd h (by decide), hbx2⟩ trivial ?_ ?_
      · have e1 : ax.eval (.tmp 9) = v1 := by simp [Act.eval, q1]
        have e2 : ax.eval (.tmp 23) = .slice (some ⟨q, 0, none⟩) 1 1 := by simp [Act.eval, q2]
        unfold execOp
        simp only [resolve, invoke, builtin, Sem.run_bind, Sem.run_pure, Result.andThen_ok, List.map_toArray, List.map_cons, List.map_nil, e1, e2, hr]
      · exact fun _ => hlj2
      · intro t u _ ht hu hV
        unfold InfV at hV ⊢
        split at hV
        · exact hV
        · exact hV
        · exact hV
        · exact hV
        · exact hV
        · exact hV
        · exact hV
        · exact hV
        · exact hV
        · exact fun h => absurd h (by decide)
        · exact hV
        · exact hV
        · exact fun h => absurd h (by decide)
        · exact fun h => absurd h (by decide)
        · exact fun h => absurd h (by decide)
        · exact absurd rfl ht
        · exact absurd hV.1 (by decide)
        · trivial
  · skip
    refine Steps1.cons (fun hin _ _ _ _ _ => out (by kernel_rfl) hin) (Steps1.cons (fun hin _ _ _ _ _ => out (by kernel_rfl) hin) (Steps1.cons (fun hin _ _ _ _ _ => out (by kernel_rfl) hin) (Steps1.cons (fun hin _ _ _ _ _ => out (by kernel_rfl) hin) (Steps1.cons (fun hin _ _ _ _ _ => out (by kernel_rfl) hin) (Steps1.cons (fun hin _ _ _ _ _ => out (by kernel_rfl) hin) (Steps1.cons (fun hin _ _ _ _ _ => out (by kernel_rfl) hin) (Steps1.cons (fun hin _ _ _ _ _ => out (by kernel_rfl) hin) (Steps1.cons (fun hin _ _ _ _ _ => out (by kernel_rfl) hin) (Steps1.cons (fun hin _ _ _ _ _ => out (by kernel_rfl) hin) (Steps1.cons (fun hin _ _ _ _ _ => out (by kernel_rfl) hin) (Steps1.cons (fun hin _ _ _ _ _ => out (by kernel_rfl) hin) (Steps1.cons (fun hin _ _ _ _ _ => out (by kernel_rfl) hin) (Steps1.cons (fun hin _ _ _ _ _ => out (by kernel_rfl) hin) (Steps1.cons (fun hin _ _ _ _ _ => out (by kernel_rfl) hin) (Steps1.cons (fun hin _ _ _ _ _ => out (by kernel_rfl) hin) (Steps1.cons (fun _ ax wx hS hJ hG => ?_) Steps1.nil))))))))))))))))
    · obtain ⟨v24, q24, h24⟩ := hG.new 24 (by kernel_rfl) (by kernel_rfl)
      refine step_slot rfl rfl rfl (step_value (v := v24) (w' := wx) rfl rfl ?_ (Below.refl _ _) (fun d hd => by cases hd; exact ⟨rfl, (show 1 = 1 → _ from h24) rfl⟩))
      clear h24
      go_simp
  intro gg wa hSa _ hVa
  have e1 : 1 = 1 ∧ LJ base wa (gg 1) (xs ++ [⟨d, n, lo, nl, pl⟩]) := hVa 1 (by decide)
  simp only [puts, Act.put, List.setIfInBounds_toArray, List.set_cons_succ, List.set_cons_zero]
  clear hVa
  obtain ⟨hba, _, hbxa⟩ := hSa
  have HBA := Lib.hid hba
  have HLA := Lib.hid e1.2
  obtain ⟨b0, b1, b2, b3⟩ := HCB.out wa hbxa
  generalize gg 1 = f1 at *
  have HSZA := Lib.hid (show base ≤ wa.heap.size from Nat.le_trans HBASEW.out HBA.out.size)
  clear hba e1 hbxa HST0 HCN HCP HLJ
  go_wp2
  go_loopw [1, 28] (fun v1 vi wr => ∃ i : Nat, vi = .int .i64 i ∧ i ≤ n ∧ Hid (LJ base wr v1 (xs ++ (⟨d, n, lo, nl, pl⟩ :: (List.range i).flatMap I))) ∧ Hid (base ≤ wr.heap.size) ∧ Below base w wr) (fun _ vi _ => (n - intOf vi).toNat)
  case atStart => exact ⟨0, rfl, by omega, by show LJ _ _ _ _; simpa using HLA.out, by show _ ≤ _; exact HSZA.out, HBA.out⟩
  case round =>
    clear HLA HBA b0 b1 b2 b3
    obtain ⟨i, rfl, hin, HL, HBS, hbr⟩ := hrel
    by_cases hlt : i < n
    · have hir : i < rs.length := by rw [← HNN.out]; exact hlt
      obtain ⟨kd, hka, hkc⟩ := HKC.out i hir
      subst hka
      obtain ⟨c0, c1, c2, c3⟩ := hkc wr hbr
      have hcall := HRC.out i hir
      obtain ⟨y, hy⟩ : ∃ y, y = rs[i]'hir := ⟨_, rfl⟩
      rw [← hy] at c0 c1 c2 c3 hcall
      obtain ⟨xl, ⟨xa, xn, xc⟩, ⟨ya, yn, yc⟩, ⟨za, zn, zc⟩⟩ := y
      simp only at c0 c1 c2 c3
      have hms : (xs ++ (⟨d, n, lo, nl, pl⟩ :: (List.range i).flatMap I)).length + (I i).length ≤ 100000000 := by
        have h1 := HM.out
        have h2 : ((List.range (i + 1)).flatMap I).length ≤ ((List.range n).flatMap I).length := by
          obtain ⟨z, hz⟩ : ∃ z, n = i + 1 + z := ⟨n - (i + 1), by omega⟩
          have h4 : List.range n = List.range (i + 1) ++ (List.range z).map ((i + 1) + ·) := by rw [hz]; exact List.range_add
          rw [h4, List.flatMap_append, List.length_append]
          omega
        rw [List.range_succ, List.flatMap_append, List.length_append] at h2
        rw [List.length_append, List.length_cons]
        have h3 : ([i].flatMap I).length = (I i).length := by simp
        omega
      have HBR := Lib.hid hbr
      have w1d : IntKind.i64.wrap (d + 1) = d + 1 := by rw [IntKind.wrap_i64]; omega
      obtain ⟨w2, hw2⟩ : ∃ w2, w2 = wr.alloc (.cells #[.string xl, .slice xa xn xc, .slice ya yn yc, .slice za zn zc] 30) := ⟨_, rfl⟩
      have hb2 : Below wr.heap.size wr w2 := by rw [hw2]; exact (Below.refl _ _).alloc (Nat.le_refl _) _
      have HB2 := Lib.hid (show Below base w w2 from hbr.trans (hb2.mono HBS.out))
      have HBS2 := Lib.hid (show base ≤ w2.heap.size from Nat.le_trans HBS.out hb2.size)
      have hcl : Calls Try.prog 33 #[.agg #[.string xl, .slice xa xn xc, .slice ya yn yc, .slice za zn zc], u1, .int .i64 (d + 1)] w2 fun e w' => ∃ v', e = .returned v' ∧ LJ base w' v' ((xs ++ (⟨d, n, lo, nl, pl⟩ :: (List.range i).flatMap I)) ++ I i) ∧ Below base w2 w' := hcall w2 u1 _ HB2.out HBS2.out (HL.out.on hb2) hms
      clear hkc hcall hy hms hbr hb2
      go_wp2_with fail
      rw [← hw2]
      refine hcl.mono ?_
      clear hcl hw2 c0 c1 c2 c3
      rintro e w3 ⟨v3, rfl, hl3, hb3⟩
      have HL3 := Lib.hid (show LJ base w3 v3 (xs ++ (⟨d, n, lo, nl, pl⟩ :: (List.range (i + 1)).flatMap I)) from by
        rw [List.range_succ, List.flatMap_append]
        simpa using hl3)
      have HB3 := Lib.hid (HB2.out.trans hb3)
      have HBS3 := Lib.hid (Nat.le_trans HBS2.out hb3.size)
      clear hl3 hb3
      go_wp2
      go_roundw
      case rel => exact ⟨i + 1, by first | rfl | go_num, by omega, HL3, HBS3, HB3.out⟩
      case measure => simp [intOf]; omega
    · have hinn : i = n := by omega
      have HE := Lib.hid hinn
      clear hinn
      go_wp2
      go_ret
      have h1 := HL.out
      rw [HE.out] at h1
      exact ⟨_, rfl, h1, hbr⟩


end Go.Proofs.Yteddjmkoleclpaa
