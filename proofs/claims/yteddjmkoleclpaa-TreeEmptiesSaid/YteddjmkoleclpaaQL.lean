/- The walks of infos, Infos, and of what the statements make of them: infos, is. -/
import Derived.Test.YteddjmkoleclpaaQInfos
import Derived.Test.YteddjmkoleclpaaRW
import Derived.Test.YteddjmkoleclpaaRL
set_option linter.unusedVariables false
set_option linter.unusedSimpArgs false
namespace Go.Proofs.Yteddjmkoleclpaa
open Go.RowKit Go.Sort

/-- What is told of the i-th kid. -/
def kidI (h : Nat) (d : Int) (ks : List (ByteArray × TrH h)) (i : Nat) : List In := match ks[i]? with
  | some k => infosH h d k.1 k.2
  | none => []
theorem kidI_all (h : Nat) (d : Int) (ks : List (ByteArray × TrH h)) : (List.range ks.length).flatMap (kidI h d ks) = ks.flatMap fun k => infosH h d k.1 k.2 := by
  rw [List.flatMap_def, List.flatMap_def]
  congr 1
  refine List.ext_getElem (by simp) fun i h1 h2 => ?_
  have hi : i < ks.length := by simpa using h1
  simp only [List.getElem_map, List.getElem_range]
  unfold kidI
  rw [List.getElem?_eq_getElem hi]
theorem kidI_at {h : Nat} {d : Int} {ks : List (ByteArray × TrH h)} {i : Nat} (hi : i < ks.length) : kidI h d ks i = infosH h d ks[i].1 ks[i].2 := by
  unfold kidI
  rw [List.getElem?_eq_getElem hi]

theorem tinf_all : ∀ (h : Nat) (base : Nat) (r : Nr) (lo : ByteArray) (hi : Option ByteArray) (t : TrH h) (d : Int) (v : Value) (xs : List In) (w : World) (S : Nat → Prop), (∀ b, S b → b < base) → base ≤ w.heap.size → NodeB h w S r lo t → okG h lo hi t → LJ base w v xs → 0 ≤ d → d + h ≤ 1000000000 → xs.length + (infosH h d lo t).length ≤ 100000000 →
    Calls Try.prog 33 #[r.v, v, .int .i64 d] w fun e w' => ∃ v', e = .returned v' ∧ LJ base w' v' (xs ++ infosH h d lo t) ∧ Below base w w' := by
  intro h
  induction h with
  | zero =>
    intro base r lo hi t d v xs w S hS hbase hN hok hl hd0 hd hm
    obtain ⟨n1, n2, n3, n4⟩ := hN
    have h1 := infos_node base r [] [] t (fun _ => []) d v xs w S hS hbase (by rw [n2]; exact SlB.nil) (by rw [n3]; exact SlB.nil) n4 hl hd0 (by omega) (by simp) (by simp) (by have := hok.2.1; show List.length (α := Pr) t ≤ _; omega) (by have e : (infosH 0 d lo t).length = 1 := rfl; simp; omega) (fun i hi => absurd hi (by simp))
    refine h1.mono ?_
    rintro e w' ⟨v', rfl, hl', hb⟩
    refine ⟨v', rfl, ?_, hb⟩
    rw [n1] at hl'
    exact hl'
  | succ h ih =>
    intro base r lo hi t d v xs w S hS hbase hN hok hl hd0 hd hm
    obtain ⟨n1, n2, n3, rs, n4, n5⟩ := hN
    have hok2 : okN (h + 1) lo hi t := hok
    obtain ⟨k1, k2, k3, k4, ⟨x0, r0, e0⟩, k5⟩ := hok2
    have hrl : rs.length = t.2.length := n5.len
    have hfl : (List.range rs.length).flatMap (kidI h (d + 1) t.2) = t.2.flatMap fun k => infosH h (d + 1) k.1 k.2 := by rw [hrl, kidI_all]
    have hil : (infosH (h + 1) d lo t).length = 1 + (t.2.flatMap fun k => infosH h (d + 1) k.1 k.2).length := by
      show (_ :: _).length = _
      rw [List.length_cons]; omega
    have h1 := infos_node base r rs t.1 [] (kidI h (d + 1) t.2) d v xs w S hS hbase n4 n2 (by rw [n3]; exact SlB.nil) hl hd0 (by omega) (by omega) (by omega) (by simp) (by rw [hfl]; omega) (fun i hi wx v ys hb hbs hlx hmx => by
      have hit : i < t.2.length := by omega
      have hnd : NodeB h w S rs[i] t.2[i].1 t.2[i].2 := AllN.get n5 i hi hit
      rw [kidI_at hit] at hmx ⊢
      obtain ⟨b, hb2, _⟩ := (okNK_mem k5).1 t.2[i] (List.getElem_mem hit)
      exact ih base rs[i] t.2[i].1 b t.2[i].2 (d + 1) v ys wx S hS hbs (NodeB.keep (fun p hp => hb.cell (hS _ hp)) (fun _ h => h) _ _ _ _ hnd) (okG_of hb2) hlx (by omega) (by push_cast at hd ⊢; omega) hmx)
    refine h1.mono ?_
    rintro e w' ⟨v', rfl, hl', hb⟩
    refine ⟨v', rfl, ?_, hb⟩
    rw [n1, hfl, hrl] at hl'
    exact hl'

theorem LJ.iv {base : Nat} {w : World} {v : Value} {xs : List In} (h : LJ base w v xs) : IV w v xs := by
  obtain ⟨rs, h1, h2⟩ := h
  have hl := h2.len
  rw [← hl] at h1
  obtain ⟨A, c, rfl⟩ := own_shape h1
  refine ⟨A, c, rs, by rw [hl], hl, Lies.own Raw.cells5 h1, fun i hi => ?_⟩
  have hi2 : i < rs.length := by omega
  obtain ⟨g1, g2, g3, g4, g5⟩ := h2.get i hi2 hi
  exact ⟨rs[i], List.getElem?_eq_getElem hi2, g1, g2, g3, NV.own g4 rfl, PV.own g5 rfl⟩

/-! How many nodes there are, and how much they have. -/
theorem infos_count : ∀ (h : Nat) (d : Int) (lo : ByteArray) (hi : Option ByteArray) (t : TrH h), okN h lo hi t → (infosH h d lo t).length ≤ (h + 1) * szH h t
  | 0, d, lo, hi, t, hk => by
    have h1 : 0 < List.length (α := Pr) t := hk.2.1
    show 1 ≤ (0 + 1) * List.length (α := Pr) t
    omega
  | h + 1, d, lo, hi, t, hk => by
    obtain ⟨k1, k2, k3, k4, ⟨x0, r0, e0⟩, k5⟩ := hk
    have h1 : ∀ ks : List (ByteArray × TrH h), okK (okN h) hi ks → (ks.flatMap fun k => infosH h (d + 1) k.1 k.2).length ≤ (h + 1) * szK h ks := by
      intro ks
      induction ks with
      | nil => intro _; exact Nat.zero_le _
      | cons k ks ih =>
        intro hks
        rw [List.flatMap_cons, List.length_append]
        have h2 := infos_count h (d + 1) k.1 _ k.2 hks.1
        have h3 := ih hks.2
        show _ ≤ (h + 1) * (szH h k.2 + szK h ks)
        rw [Nat.mul_add]
        omega
    have h2 := h1 t.2 k5
    have h3 : 0 < szK h t.2 := by
      have h4 := len_szK k5
      rw [e0, List.length_cons] at h4
      have h5 : szK h t.2 = szK h ((lo, x0) :: r0) := by rw [← e0]
      omega
    show (_ :: (t.2.flatMap fun k => infosH h (d + 1) k.1 k.2)).length ≤ (h + 1 + 1) * (t.1.length + szK h t.2)
    rw [List.length_cons, Nat.add_mul (h + 1) 1, Nat.mul_add]
    omega
theorem top_count {h : Nat} {t : TrH h} (ht : Top h t) (d : Int) : (infosH h d noB t).length ≤ (h + 1) * szH h t + 1 := by
  cases h with
  | zero => exact Nat.succ_le_of_lt (Nat.lt_of_lt_of_le Nat.zero_lt_one (Nat.le_add_left _ _))
  | succ h => exact Nat.le_succ_of_le (infos_count (h + 1) d noB none t ht)
theorem infos_small : ∀ (h : Nat) (d : Int) (lo : ByteArray) (hi : Option ByteArray) (t : TrH h), okH h lo hi t → ∀ x ∈ infosH h d lo t, x.kids ≤ 4 ∧ x.notes.length ≤ 6 ∧ x.pairs.length ≤ 4
  | 0, d, lo, hi, t, hk, x, hx => by
    have e : x = ⟨d, 0, lo, [], t⟩ := List.mem_singleton.1 hx
    subst e
    exact ⟨(by show (0 : Int) ≤ 4; omega), by simp, hk.2.1⟩
  | h + 1, d, lo, hi, t, hk, x, hx => by
    rcases List.mem_cons.1 hx with rfl | hx
    · exact ⟨by have := hk.2.2.2.2.2.1; show (t.2.length : Int) ≤ 4; omega, hk.2.1, by simp⟩
    · obtain ⟨k, hkm, hx⟩ := List.mem_flatMap.1 hx
      obtain ⟨b, h1, _⟩ := (okK_mem (ok_lo h) hk.2.2.2.2.2.2.2.1).1 k hkm
      exact infos_small h (d + 1) k.1 b k.2 h1 x hx
theorem wait_all (l : List In) : waitTo l l.length = (l.map fun x => x.notes.length).sum := by unfold waitTo; rw [List.take_length]
theorem infos_wait : ∀ (h : Nat) (d : Int) (lo : ByteArray) (t : TrH h), ((infosH h d lo t).map fun x => x.notes.length).sum ≤ szH h t
  | 0, _, _, _ => Nat.zero_le _
  | h + 1, d, lo, t => by
    have h1 : ∀ ks : List (ByteArray × TrH h), ((ks.flatMap fun k => infosH h (d + 1) k.1 k.2).map fun x => x.notes.length).sum ≤ szK h ks := by
      intro ks
      induction ks with
      | nil => exact Nat.zero_le _
      | cons k ks ih =>
        rw [List.flatMap_cons, List.map_append, List.sum_append]
        have h2 := infos_wait h (d + 1) k.1 k.2
        show _ ≤ szH h k.2 + szK h ks
        omega
    have h2 := h1 t.2
    show (List.map _ (_ :: (t.2.flatMap fun k => infosH h (d + 1) k.1 k.2))).sum ≤ t.1.length + szK h t.2
    rw [List.map_cons, List.sum_cons]
    show t.1.length + _ ≤ _
    omega

/-- What Infos tells: it stands well, and has the pairs. -/
def TellI (p : List Pr) (l : List In) : Prop := wellI l = true ∧ pairsI l = p ∧ l.length ≤ 100000000 ∧ (∀ x ∈ l, x.kids ≤ 1000000) ∧ (∀ x ∈ l, x.notes.length ≤ 1000000 ∧ x.pairs.length ≤ 1000000) ∧ (l.flatMap In.pairs).length ≤ 1000 ∧ waitTo l l.length ≤ 1000 ∧ deepI l ≤ 1000000000
theorem tell_top {h : Nat} {t : TrH h} (ht : Top h t) {M H : Nat} (hm : szH h t ≤ M) (hh : h ≤ H) (hM : M ≤ 1000) (hH : H ≤ 90000) : TellI (pairsH h t) (infosH h 0 noB t) := by
  have hk := top_ok ht
  have h1 := top_count ht 0
  have h2 : (h + 1) * szH h t ≤ 90001 * 1000 := Nat.mul_le_mul (by omega) (by omega)
  refine ⟨well_infos hk, pairs_infos hk, by omega, fun x hx => by have := (infos_small h 0 noB none t hk x hx).1; omega, fun x hx => by have := (infos_small h 0 noB none t hk x hx).2; omega, ?_, ?_, ?_⟩
  · rw [infos_pairs]; have := leaves_len h t; omega
  · rw [wait_all]; have := infos_wait h 0 noB t; omega
  · rw [deep_infos hk]; omega

set_option maxHeartbeats 1000000 in
set_option maxRecDepth 100000 in
theorem tinfos_any (v : Value) (p : List Pr) (M H : Nat) (w : World) (hV : TreeV w v p M H) (hM : M ≤ 1000) (hH : H ≤ 90000) :
    Calls Try.prog 20 #[v] w fun e w' => ∃ v' l, e = .returned v' ∧ IV w' v' l ∧ TellI p l ∧ Below w.heap.size w w' := by
  obtain ⟨h, r, t, rfl, hN, hT, hp, hm, hh⟩ := hV
  have htl := tell_top hT hm hh hM hH
  rw [hp] at htl
  have hg0 : Calls Try.prog 33 #[r.v, .slice none 0 0, .int .i64 0] (w.alloc (.cells #[.string r.low, .slice r.k.a r.k.n r.k.c, .slice r.n.a r.n.n r.n.c, .slice r.p.a r.p.n r.p.c] 32)) fun e w' => ∃ v' l, e = .returned v' ∧ IV w' v' l ∧ TellI p l ∧ Below w.heap.size w w' := by
    have hb : Below w.heap.size w (w.alloc (.cells #[.string r.low, .slice r.k.a r.k.n r.k.c, .slice r.n.a r.n.n r.n.c, .slice r.p.a r.p.n r.p.c] 32)) := (Below.refl _ _).alloc (Nat.le_refl _) _
    refine (tinf_all h w.heap.size r noB none t 0 (.slice none 0 0) [] _ (All w) (fun b hb => hb) hb.size (NodeB.on hN (fun b h => h) hb) (okG_top hT) (LJ.nil _ _) (by omega) (by omega) (by simp; exact htl.2.2.1)).mono ?_
    rintro e w' ⟨v', rfl, hl, hb2⟩
    exact ⟨v', _, rfl, hl.iv, htl, hb.trans hb2⟩
  have HG0 := Lib.hid hg0
  clear hN hT hp hm hh hg0 hM hH htl
  obtain ⟨lo, ⟨ka, kn, kc⟩, ⟨na, nn, nc⟩, ⟨pa, pn, pc⟩⟩ := r
  have hg1 : Calls Try.prog 33 #[.agg #[.string lo, .slice ka kn kc, .slice na nn nc, .slice pa pn pc], .slice none 0 0, .int .i64 0] (w.alloc (.cells #[.string lo, .slice ka kn kc, .slice na nn nc, .slice pa pn pc] 32)) fun e w' => ∃ v' l, e = .returned v' ∧ IV w' v' l ∧ TellI p l ∧ Below w.heap.size w w' := HG0.out
  show Calls Try.prog 20 #[.agg #[.string lo, .slice ka kn kc, .slice na nn nc, .slice pa pn pc]] w fun e w' => ∃ v' l, e = .returned v' ∧ IV w' v' l ∧ TellI p l ∧ Below w.heap.size w w'
  clear HG0
  go_enter Try.func20, Try.ntmps20
  go_wp2_with fail
  refine hg1.mono ?_
  clear hg1
  rintro e w1 ⟨v1, l, rfl, hv1, hl, hb1⟩
  have HR := Lib.hid (And.intro hv1 (And.intro hl hb1))
  clear hv1 hl hb1
  go_wp2
  go_ret
  exact ⟨_, l, rfl, HR.out⟩

end Go.Proofs.Yteddjmkoleclpaa

namespace Go.Proofs.Yteddjmkoleclpaa
open Go.RowKit Go.Sort

theorem rinfo_info : (Try.prog.info? 86).map (fun i => (i.zero, i.size, i.bytes)) = some (some (.agg #[.int .i64 0, .int .i64 0, .string ⟨#[]⟩, .slice none 0 0, .slice none 0 0]), 5, 80) := by kernel_rfl
theorem pick_all (p : List Pr) : pickL ⟨noS, noS, true⟩ p = p := by
  unfold pickL
  rw [List.filter_eq_self]
  intro x _
  exact in_all x.k
theorem pv_shape {w : World} {v : Value} {l : List Pr} (h : PV w v l) : ∃ B d, v = .slice B l.length d := let ⟨B, d, e, _⟩ := h; ⟨B, d, e⟩
theorem nv_shape {w : World} {v : Value} {l : List Nt} (h : NV w v l) : ∃ B d, v = .slice B l.length d := let ⟨B, d, e, _⟩ := h; ⟨B, d, e⟩

set_option maxHeartbeats 2000000 in
set_option maxRecDepth 100000 in
theorem linfos_any (v : Value) (p : List Pr) (M H : Nat) (w : World) (hV : TreeV w v p M H) (hM : M ≤ 1000) (hH : H ≤ 90000) :
    Calls Try.prog 27 #[v] w fun e w' => ∃ v' l, e = .returned v' ∧ IV w' v' l ∧ TellI p l ∧ Below w.heap.size w w' := by
  obtain ⟨i0, hi0, hz0, hz1, hz2⟩ := info_parts rinfo_info
  have hti := fun wx (hb : Below w.heap.size w wx) => tinfos_any v p M H wx (hV.on hb) hM hH
  obtain ⟨h, r, t, rfl, _⟩ := hV
  have HTI := Lib.hid hti
  clear hti hM hH
  obtain ⟨lo, ⟨ka, kn, kc⟩, ⟨na, nn, nc⟩, ⟨pa, pn, pc⟩⟩ := r
  have hti1 : ∀ wx, Below w.heap.size w wx → Calls Try.prog 20 #[.agg #[.string lo, .slice ka kn kc, .slice na nn nc, .slice pa pn pc]] wx fun e w' => ∃ v' l, e = .returned v' ∧ IV w' v' l ∧ TellI p l ∧ Below wx.heap.size wx w' := HTI.out
  have HT1 := Lib.hid hti1
  show Calls Try.prog 27 #[.agg #[.string lo, .slice ka kn kc, .slice na nn nc, .slice pa pn pc]] w fun e w' => ∃ v' l, e = .returned v' ∧ IV w' v' l ∧ TellI p l ∧ Below w.heap.size w w'
  clear hti1 HTI
  go_enter Try.func27, Try.ntmps27
  go_wp2_with fail
  refine (HT1.out _ ((Below.refl _ _).alloc (Nat.le_refl _) _)).mono ?_
  rintro e w1 ⟨v1, l, rfl, hiv, htl, hb1⟩
  have HB1 := Lib.hid (below1 hb1)
  have HTL := Lib.hid htl
  have HIV := Lib.hid hiv
  obtain ⟨A, c, rs, rfl, hrl, hli, hra⟩ := hiv
  obtain ⟨n, hn⟩ : ∃ n, n = l.length := ⟨_, rfl⟩
  rw [← hn]
  have HN := Lib.hid (And.intro hn hrl)
  have HLI := Lib.hid hli
  have HRA := Lib.hid hra
  have hnb : n ≤ 100000000 := by rw [hn]; exact htl.2.2.1
  clear htl hb1 hrl hli hra hn HT1 HIV
  go_wp2
  go_loopw [3, 9] (fun ov iv wr => ∃ k : Nat, iv = .int .i64 k ∧ k ≤ n ∧ Hid (wr.ownsRow w1.heap.size 86 5 ov k ((rs.take k).flatMap Raw.cells)) ∧ Below w1.heap.size w1 wr) (fun _ iv _ => (n - intOf iv).toNat)
  case atStart => exact ⟨0, rfl, by omega, by show World.ownsRow _ _ _ _ _ _ _; exact World.ownsRow_nil _ _ _ _, Below.refl _ _⟩
  case round =>
    obtain ⟨k, rfl, hk, HO, hbr⟩ := hrel
    have hbs := hbr.size
    by_cases hlt : k < n
    · have hkl : k < l.length := by rw [← HN.out.1]; exact hlt
      have hkr : k < rs.length := by rw [HN.out.2]; exact hkl
      obtain ⟨ad, rfl, hab, hca⟩ := HLI.out (by omega)
      obtain ⟨x, hx1, hx2⟩ := HRA.out k hkl
      rw [List.getElem?_eq_getElem hkr] at hx1
      injection hx1 with hx1
      have c0 := hca k hkr 0 (.int .i64 x.depth) (by rw [hx1]; rfl)
      have c1 := hca k hkr 1 (.int .i64 x.kids) (by rw [hx1]; rfl)
      have c2 := hca k hkr 2 (.string x.low) (by rw [hx1]; rfl)
      have c3 := hca k hkr 3 x.nv (by rw [hx1]; rfl)
      have c4 := hca k hkr 4 x.pv (by rw [hx1]; rfl)
      rw [Addr.add_zero'] at c0
      rw [Addr.add_succ'] at c1 c2 c3 c4
      replace c0 := (hbr.cell (lt_of_cell c0)).trans c0
      replace c1 := (hbr.cell (lt_of_cell c1)).trans c1
      replace c2 := (hbr.cell (lt_of_cell c2)).trans c2
      replace c3 := (hbr.cell (lt_of_cell c3)).trans c3
      replace c4 := (hbr.cell (lt_of_cell c4)).trans c4
      obtain ⟨B1, d1, en⟩ := nv_shape hx2.2.2.2.1
      obtain ⟨B2, d2, ep⟩ := pv_shape hx2.2.2.2.2
      rw [en] at c3
      rw [ep] at c4
      obtain ⟨q1, hq1⟩ : ∃ q, q = (l[k]'hkl).notes.length := ⟨_, rfl⟩
      obtain ⟨q2, hq2⟩ : ∃ q, q = (l[k]'hkl).pairs.length := ⟨_, rfl⟩
      rw [← hq1] at c3
      rw [← hq2] at c4
      have HX := Lib.hid (show (rs.take (k + 1)).flatMap Raw.cells = (rs.take k).flatMap Raw.cells ++ [.int .i64 x.depth, .int .i64 x.kids, .string x.low, .slice B1 q1 d1, .slice B2 q2 d2] from by
        rw [List.take_succ_eq_append_getElem hkr, List.flatMap_append, hx1]
        simp [Raw.cells, en, ep, hq1, hq2])
      obtain ⟨xd, xk, xl, xnv, xpv⟩ := x
      simp only at c0 c1 c2 HX
      have hown := HO.out
      clear hx1 hx2 hca en ep hq1 hq2 HO
      go_wp2_with (at_builtin; refine wpList_append_own _ rfl _ _ 66 rfl w1.heap.size 86 i0 (.agg #[.int .i64 0, .int .i64 0, .string ⟨#[]⟩, .slice none 0 0, .slice none 0 0]) 5 80 Try.underlying66 hi0 hz0 hz1 hz2 rfl (by decide) _ _ _ rfl ((hown.alloc _).alloc _) ⟨wr.heap.size + 1, 0, none⟩ 1 1 [.int .i64 xd, .int .i64 xk, .string xl, .slice B1 q1 d1, .slice B2 q2 d2] rfl rfl ?a1 ?a2 ?a3 ?a4 ?a5 ?_)
      case a1 =>
        intro j u hj
        match j, hj with
        | 0, hj => simp at hj; subst hj; simp [Addr.add]
        | 1, hj => simp at hj; subst hj; simp [Addr.add]
        | 2, hj => simp at hj; subst hj; simp [Addr.add]
        | 3, hj => simp at hj; subst hj; simp [Addr.add]
        | 4, hj => simp at hj; subst hj; simp [Addr.add]
      case a2 => intro u hu; simp at hu; rcases hu with rfl | rfl | rfl | rfl | rfl <;> rfl
      case a3 => unfold maxLen; omega
      case a4 => omega
      case a5 => simp; omega
      intro v' w5 hown5 hg5 _
      have hb5 : Below w1.heap.size w1 w5 := ((hbr.alloc hbs _).alloc (by simp; omega) _).grown hg5 (by simp; omega) (fun k hk => (hown.lt k hk).1)
      have HO5 := Lib.hid (show w5.ownsRow w1.heap.size 86 5 v' (k + 1) ((rs.take (k + 1)).flatMap Raw.cells) from by rw [HX.out]; exact hown5)
      clear hown hown5 hg5 HX c0 c1 c2 c3 c4
      go_wp2
      go_roundw
      case rel => exact ⟨k + 1, by first | rfl | go_num, by omega, HO5, hb5⟩
      case measure => simp [intOf]; omega
    · have hkn : k = n := by omega
      have HK := Lib.hid hkn
      clear hkn
      go_wp2
      go_ret
      have h1 := HO.out
      have hrl := HN.out.2
      rw [List.take_of_length_le (by rw [hrl, HK.out, ← HN.out.1]; omega), HK.out, HN.out.1, ← hrl] at h1
      obtain ⟨A9, c9, e9⟩ := own_shape h1
      refine ⟨_, l, rfl, ?_, HTL.out, HB1.out.trans (hbr.mono HB1.out.size)⟩
      rw [e9] at h1 ⊢
      refine ⟨A9, c9, rs, (by rw [hrl]; rfl), hrl, Lies.own Raw.cells5 h1, fun i hi => ?_⟩
      obtain ⟨x, h3, h4⟩ := HRA.out i hi
      exact ⟨x, h3, h4.on hbr⟩

set_option maxHeartbeats 2000000 in
set_option maxRecDepth 100000 in
theorem is_any (v u : Value) (p q : List Pr) (M H : Nat) (w : World) (hV : TreeV w v p M H) (hU : PV w u q) (hM : M ≤ 1000) (hH : H ≤ 90000) (hp : p.length ≤ 1000) :
    Calls Try.prog 13 #[v, u] w fun e w' => e = .returned (.bool (decide (p = q))) ∧ Below w.heap.size w w' := by
  have hli := fun wx (hb : Below w.heap.size w wx) => linfos_any v p M H wx (hV.on hb) hM hH
  have hsc := fun wx (hb : Below w.heap.size w wx) => tscan_any v p M H ⟨noS, noS, true⟩ wx (hV.on hb) hM
  rw [pick_all] at hsc
  obtain ⟨h, r, t, rfl, _⟩ := hV
  obtain ⟨lo, ⟨ka, kn, kc⟩, ⟨na, nn, nc⟩, ⟨pa, pn, pc⟩⟩ := r
  have hli1 : ∀ wx, Below w.heap.size w wx → Calls Try.prog 27 #[.agg #[.string lo, .slice ka kn kc, .slice na nn nc, .slice pa pn pc]] wx fun e w' => ∃ v' l, e = .returned v' ∧ IV w' v' l ∧ TellI p l ∧ Below wx.heap.size wx w' := hli
  have hsc1 : ∀ wx, Below w.heap.size w wx → Calls Try.prog 17 #[.agg #[.string lo, .slice ka kn kc, .slice na nn nc, .slice pa pn pc], .agg #[.string noB, .string noB, .bool true]] wx fun e w' => ∃ v', e = .returned v' ∧ PV w' v' p ∧ Below wx.heap.size wx w' := hsc
  have HLI := Lib.hid hli1
  have HSC := Lib.hid hsc1
  have HU := Lib.hid hU
  have HSA := Lib.hid (show ∀ wx x, PV wx x p → Below w.heap.size w wx → Calls Try.prog 16 #[x, u] wx fun e w' => e = .returned (.bool (decide (p = q))) ∧ Below wx.heap.size wx w' from fun wx x h hb => same_v h (hU.on hb) (by unfold maxLen; omega))
  show Calls Try.prog 13 #[.agg #[.string lo, .slice ka kn kc, .slice na nn nc, .slice pa pn pc], u] w fun e w' => e = .returned (.bool (decide (p = q))) ∧ Below w.heap.size w w'
  clear hli hsc hli1 hsc1 hU hM hH hp
  obtain ⟨R, hR⟩ : ∃ R, R = decide (p = q) := ⟨_, rfl⟩
  rw [← hR] at HSA ⊢
  clear hR
  obtain ⟨g, hg⟩ : ∃ g, g = w.heap.size := ⟨_, rfl⟩
  obtain ⟨w0, hw0⟩ : ∃ w0, w0 = w.alloc (.cells #[.string lo, .slice ka kn kc, .slice na nn nc, .slice pa pn pc] 32) := ⟨_, rfl⟩
  have HB0 := Lib.hid (show Below w.heap.size w w0 from by rw [hw0]; exact (Below.refl _ _).alloc (Nat.le_refl _) _)
  have BX := Lib.hid (show Box w0 g 32 #[.string lo, .slice ka kn kc, .slice na nn nc, .slice pa pn pc] from by rw [hw0]; exact Box.at_ w _ _ hg)
  go_enter Try.func13, Try.ntmps13
  go_upto_region 1 with fail
  rw [← hg, ← hw0]
  clear hg hw0
  have b0 := Box.cell BX.out 0 rfl
  have b1 := Box.cell BX.out 1 rfl
  have b2 := Box.cell BX.out 2 rfl
  have b3 := Box.cell BX.out 3 rfl
  go_wp2_with fail
  refine (HLI.out w0 HB0.out).mono ?_
  clear b0 b1 b2 b3
  rintro e w1 ⟨v1, l, rfl, hiv, htl, hb1⟩
  have HB1 := Lib.hid (HB0.out.trans (hb1.mono HB0.out.size))
  have BX1 := Lib.hid (BX.out.on hb1)
  have HIV := Lib.hid hiv
  have HTL := Lib.hid htl
  have hwl := twell_v hiv htl.2.2.1 htl.2.2.2.1 htl.2.2.2.2.1
  rw [htl.1] at hwl
  clear hiv htl hb1 BX
  go_wp2_with fail
  refine hwl.mono ?_
  clear hwl
  rintro e w2 ⟨rfl, hb2⟩
  have HB2 := Lib.hid (HB1.out.trans (hb2.mono HB1.out.size))
  have BX2 := Lib.hid (BX1.out.on hb2)
  have hpr := tpairs_v (HIV.out.on hb2) HTL.out.2.2.1 HTL.out.2.2.2.2.2.1 HTL.out.2.2.2.2.2.2.1 HTL.out.2.2.2.2.2.2.2
  rw [HTL.out.2.1] at hpr
  clear hb2 BX1 HIV
  go_wp2_with fail
  refine hpr.mono ?_
  clear hpr
  rintro e w3 ⟨v3, rfl, hv3, hb3⟩
  have HB3 := Lib.hid (HB2.out.trans (hb3.mono HB2.out.size))
  have BX3 := Lib.hid (BX2.out.on hb3)
  have hsm := HSA.out w3 v3 hv3 HB3.out
  clear hb3 hv3 BX2
  go_wp2_with fail
  refine hsm.mono ?_
  clear hsm
  rintro e w4 ⟨rfl, hb4⟩
  have HB4 := Lib.hid (HB3.out.trans (hb4.mono HB3.out.size))
  have BX4 := Lib.hid (BX3.out.on hb4)
  clear hb4 BX3
  cases R with
  | false =>
    go_wp2
    go_ret
    exact ⟨rfl, HB4.out⟩
  | true =>
    have b0 := Box.cell BX4.out 0 rfl
    have b1 := Box.cell BX4.out 1 rfl
    have b2 := Box.cell BX4.out 2 rfl
    have b3 := Box.cell BX4.out 3 rfl
    go_wp2_with fail
    refine (HSC.out w4 HB4.out).mono ?_
    clear b0 b1 b2 b3
    rintro e w5 ⟨v5, rfl, hv5, hb5⟩
    have HB5 := Lib.hid (HB4.out.trans (hb5.mono HB4.out.size))
    have hsm := HSA.out w5 v5 hv5 HB5.out
    clear hb5 hv5
    go_wp2_with fail
    refine hsm.mono ?_
    clear hsm
    rintro e w6 ⟨rfl, hb6⟩
    have HB6 := Lib.hid (HB5.out.trans (hb6.mono HB5.out.size))
    clear hb6
    go_wp2
    go_ret
    exact ⟨rfl, HB6.out⟩

end Go.Proofs.Yteddjmkoleclpaa

namespace Go.Proofs.Yteddjmkoleclpaa
open Go.RowKit Go.Sort

/-- A tree, in a block of its own. -/
abbrev TBox (w : World) (g : Nat) (r : Nr) : Prop := Box w g 32 #[.string r.low, .slice r.k.a r.k.n r.k.c, .slice r.n.a r.n.n r.n.c, .slice r.p.a r.p.n r.p.c]
theorem TBox.cells {w : World} {g : Nat} {r : Nr} (h : TBox w g r) : w.cell? ⟨g, 0, none⟩ = some (.string r.low) ∧ w.cell? ⟨g, 1, none⟩ = some (.slice r.k.a r.k.n r.k.c) ∧ w.cell? ⟨g, 2, none⟩ = some (.slice r.n.a r.n.n r.n.c) ∧ w.cell? ⟨g, 3, none⟩ = some (.slice r.p.a r.p.n r.p.c) :=
  ⟨Box.cell h 0 rfl, Box.cell h 1 rfl, Box.cell h 2 rfl, Box.cell h 3 rfl⟩
theorem tree_none (w : World) : TreeV w (.agg #[.string noB, .slice none 0 0, .slice none 0 0, .slice none 0 0]) [] 0 0 :=
  ⟨0, ⟨noB, nilS, nilS, nilS⟩, ([] : List Pr), rfl, ⟨rfl, rfl, rfl, SlB.nil⟩, .inl rfl, rfl, Nat.le_refl _, Nat.le_refl _⟩
theorem tree_shape {w : World} {v : Value} {p : List Pr} {M H : Nat} (h : TreeV w v p M H) : ∃ lo ka kn kc na nn nc pa pn pc, v = .agg #[.string lo, .slice ka kn kc, .slice na nn nc, .slice pa pn pc] := by
  obtain ⟨_, r, _, e, _⟩ := h
  exact ⟨_, _, _, _, _, _, _, _, _, _, e⟩
theorem tree_len {w : World} {v : Value} {p : List Pr} {M H : Nat} (h : TreeV w v p M H) : p.length ≤ M ∧ wellL p = true := by
  obtain ⟨n, r, t, e, h1, h2, h3, h4, h5⟩ := h
  have := pairs_len n t
  exact ⟨by rw [← h3]; omega, by rw [← h3]; exact pairs_well (top_ok h2)⟩
set_option maxHeartbeats 1000000 in
set_option maxRecDepth 100000 in
theorem tinfos_none (w : World) :
    Calls Try.prog 20 #[.agg #[.string noB, .slice none 0 0, .slice none 0 0, .slice none 0 0]] w fun e w' => ∃ A c, e = .returned (.slice A 1 c) ∧ Below w.heap.size w w' := by
  have hg0 : Calls Try.prog 33 #[.agg #[.string noB, .slice none 0 0, .slice none 0 0, .slice none 0 0], .slice none 0 0, .int .i64 0] (w.alloc (.cells #[.string noB, .slice none 0 0, .slice none 0 0, .slice none 0 0] 32)) fun e w' => ∃ A c, e = .returned (.slice A 1 c) ∧ Below w.heap.size w w' := by
    have hb : Below w.heap.size w (w.alloc (.cells #[.string noB, .slice none 0 0, .slice none 0 0, .slice none 0 0] 32)) := (Below.refl _ _).alloc (Nat.le_refl _) _
    refine (tinf_all 0 w.heap.size ⟨noB, nilS, nilS, nilS⟩ noB none ([] : List Pr) 0 (.slice none 0 0) [] _ (All w) (fun b hb => hb) hb.size ⟨rfl, rfl, rfl, SlB.nil⟩ (okG_top (h := 0) (t := ([] : List Pr)) (.inl rfl)) (LJ.nil _ _) (by omega) (by omega) (by simp [infosH])).mono ?_
    rintro e w' ⟨v', rfl, ⟨rs, hl, _⟩, hb2⟩
    obtain ⟨A, c, rfl⟩ := own_shape hl
    exact ⟨A, c, rfl, hb.trans hb2⟩
  go_enter Try.func20, Try.ntmps20
  go_wp2_with fail
  refine hg0.mono ?_
  clear hg0
  rintro e w1 ⟨A, c, rfl, hb1⟩
  go_wp2
  go_ret
  exact ⟨A, c, rfl, hb1⟩

def aB : ByteArray := ⟨#[98]⟩
def aA : ByteArray := ⟨#[97]⟩
def a2 : ByteArray := ⟨#[50]⟩
def a1 : ByteArray := ⟨#[49]⟩
def aN : List Nt := [⟨1, aB, a2, 0⟩, ⟨1, aA, a1, 0⟩]
def aP : List Pr := [⟨aA, a1⟩, ⟨aB, a2⟩]
theorem aw_r : aN.all rightN = true := by decide +kernel
theorem aw_p : foldOne [] aN = aP := by decide +kernel
theorem aw_g : hasOf (getL aP aB) = (a2, true) := by decide +kernel
theorem aw_s : pickL ⟨aB, noS, true⟩ aP = [⟨aB, a2⟩] := by decide +kernel
theorem aw_0 : rightN ⟨0, noB, noB, 0⟩ = false := by decide +kernel
theorem app_aw : tAppE aN = 0 ∧ tAppP [] aN = aP := by unfold tAppE tAppP; rw [aw_r]; exact ⟨rfl, aw_p⟩
theorem app_0 (p : List Pr) : tAppE [⟨0, noB, noB, 0⟩] = 1 ∧ tAppP p [⟨0, noB, noB, 0⟩] = p := by
  unfold tAppE tAppP
  have e : [(⟨0, noB, noB, 0⟩ : Nt)].all rightN = false := by rw [List.all_cons, aw_0]; rfl
  rw [e]; exact ⟨rfl, rfl⟩

set_option maxHeartbeats 4000000 in
set_option maxRecDepth 100000 in
theorem awake_true (w : World) : Calls Try.prog 9 #[] w fun e w' => e = .returned (.bool true) ∧ Below w.heap.size w w' := by
  obtain ⟨w0, hw0⟩ : ∃ w0, w0 = w.alloc (.cells #[.int .i64 1, .string aB, .string a2, .int .u64 0, .int .i64 1, .string aA, .string a1, .int .u64 0] 52) := ⟨_, rfl⟩
  obtain ⟨g, hg⟩ : ∃ g, g = w.heap.size := ⟨_, rfl⟩
  have HB0 := Lib.hid (show Below w.heap.size w w0 from by rw [hw0]; exact (Below.refl _ _).alloc (Nat.le_refl _) _)
  have hnv : NV w0 (.slice (some ⟨g, 0, none⟩) 2 2) aN := by rw [hw0]; exact NV.lit hg rfl rfl
  have hc0 := tapply_any (.agg #[.string noB, .slice none 0 0, .slice none 0 0, .slice none 0 0]) _ [] aN 0 0 w0 (tree_none w0) hnv (by simp [aN])
  rw [app_aw.1, app_aw.2] at hc0
  clear hnv
  go_enter Try.func9, Try.ntmps9
  go_wp2_with fail
  rw [← hg]
  have hw0' : w0 = w.alloc (.cells #[.int .i64 1, .string ⟨#[98]⟩, .string ⟨#[50]⟩, .int .u64 0, .int .i64 1, .string ⟨#[97]⟩, .string ⟨#[49]⟩, .int .u64 0] 52) := hw0
  rw [← hw0']
  refine hc0.mono ?_
  clear hc0 hw0 hw0' hg
  rintro e w1 ⟨v1, rfl, ht1, hb1⟩
  obtain ⟨lo, ka, kn, kc, na, nn, nc, pa, pn, pc, rfl⟩ := tree_shape ht1
  obtain ⟨w2, hw2⟩ : ∃ w2, w2 = w1.alloc (.cells #[.string lo, .slice ka kn kc, .slice na nn nc, .slice pa pn pc] 32) := ⟨_, rfl⟩
  obtain ⟨g1, hg1⟩ : ∃ g1, g1 = w1.heap.size := ⟨_, rfl⟩
  have hb12 : Below w1.heap.size w1 w2 := by rw [hw2]; exact (Below.refl _ _).alloc (Nat.le_refl _) _
  have HT := Lib.hid (ht1.on hb12)
  have HB2 := Lib.hid (HB0.out.trans ((hb1.trans (hb12.mono hb1.size)).mono HB0.out.size))
  have BX := Lib.hid (show TBox w2 g1 ⟨lo, ⟨ka, kn, kc⟩, ⟨na, nn, nc⟩, ⟨pa, pn, pc⟩⟩ from by rw [hw2]; exact Box.at_ w1 _ _ hg1)
  clear ht1 hb1 hb12
  go_upto_region 2 with fail
  rw [← hg1, ← hw2]
  clear hg1 hw2
  obtain ⟨b0, b1, b2, b3⟩ := TBox.cells BX.out
  simp only at b0 b1 b2 b3
  have hc1 := tget_any _ _ _ _ aB w2 HT.out
  rw [aw_g] at hc1
  replace hc1 : Calls Try.prog 14 #[.agg #[.string lo, .slice ka kn kc, .slice na nn nc, .slice pa pn pc], .string ⟨#[98]⟩] w2 fun e w' => e = .returned (.tuple #[.string ⟨#[50]⟩, .bool true]) ∧ Below w2.heap.size w2 w' := hc1
  go_wp2_with fail
  refine hc1.mono ?_
  clear hc1 b0 b1 b2 b3
  rintro e w3 ⟨rfl, hb3⟩
  have HT3 := Lib.hid (HT.out.on hb3)
  have HB3 := Lib.hid (HB2.out.trans (hb3.mono HB2.out.size))
  have BX3 := Lib.hid (show TBox w3 g1 ⟨lo, ⟨ka, kn, kc⟩, ⟨na, nn, nc⟩, ⟨pa, pn, pc⟩⟩ from BX.out.on hb3)
  clear hb3 HT BX HB2
  obtain ⟨b0, b1, b2, b3⟩ := TBox.cells BX3.out
  simp only at b0 b1 b2 b3
  have hc1 : Calls Try.prog 17 #[.agg #[.string lo, .slice ka kn kc, .slice na nn nc, .slice pa pn pc], .agg #[.string noB, .string noB, .bool true]] w3 fun e w' => ∃ v', e = .returned v' ∧ PV w' v' aP ∧ Below w3.heap.size w3 w' := by
    have h1 := tscan_any _ _ _ _ ⟨noS, noS, true⟩ w3 HT3.out (by simp [aN])
    rw [pick_all] at h1
    exact h1
  go_wp2_with fail
  refine hc1.mono ?_
  clear hc1 b0 b1 b2 b3
  rintro e w4 ⟨v4, rfl, hv4, hb4⟩
  have HT4 := Lib.hid (HT3.out.on hb4)
  have HB4 := Lib.hid (HB3.out.trans (hb4.mono HB3.out.size))
  have BX4 := Lib.hid (show TBox w4 g1 ⟨lo, ⟨ka, kn, kc⟩, ⟨na, nn, nc⟩, ⟨pa, pn, pc⟩⟩ from BX3.out.on hb4)
  have HV4 := Lib.hid hv4
  obtain ⟨AS, cs, rfl, _⟩ := hv4
  clear hb4 HT3 BX3 HB3
  obtain ⟨b0, b1, b2, b3⟩ := TBox.cells BX4.out
  simp only at b0 b1 b2 b3
  obtain ⟨w5, hw5⟩ : ∃ w5, w5 = w4.alloc (.cells #[.int .i64 0, .string noB, .string noB, .int .u64 0] 52) := ⟨_, rfl⟩
  obtain ⟨g4, hg4⟩ : ∃ g4, g4 = w4.heap.size := ⟨_, rfl⟩
  have hb45 : Below w4.heap.size w4 w5 := by rw [hw5]; exact (Below.refl _ _).alloc (Nat.le_refl _) _
  have hnv : NV w5 (.slice (some ⟨g4, 0, none⟩) 1 1) [⟨0, noB, noB, 0⟩] := by rw [hw5]; exact NV.lit hg4 rfl rfl
  have hc1 := tapply_any _ _ _ _ _ _ w5 (HT4.out.on hb45) hnv (by simp [aN])
  rw [(app_0 aP).1, (app_0 aP).2] at hc1
  have HB5 := Lib.hid (HB4.out.trans (hb45.mono HB4.out.size))
  have HV5 := Lib.hid (HV4.out.on hb45)
  clear hnv hb45 HT4 HB4 HV4
  go_wp2_with fail
  rw [← hg4]
  have hw5' : w5 = w4.alloc (.cells #[.int .i64 0, .string ⟨#[]⟩, .string ⟨#[]⟩, .int .u64 0] 52) := hw5
  rw [← hw5']
  refine hc1.mono ?_
  clear hc1 b0 b1 b2 b3 hw5 hw5' hg4
  rintro e w6 ⟨v6, rfl, ht6, hb6⟩
  obtain ⟨lo2, ka2, kn2, kc2, na2, nn2, nc2, pa2, pn2, pc2, rfl⟩ := tree_shape ht6
  obtain ⟨w7, hw7⟩ : ∃ w7, w7 = w6.alloc (.cells #[.string lo2, .slice ka2 kn2 kc2, .slice na2 nn2 nc2, .slice pa2 pn2 pc2] 32) := ⟨_, rfl⟩
  obtain ⟨g6, hg6⟩ : ∃ g6, g6 = w6.heap.size := ⟨_, rfl⟩
  have hb67 : Below w6.heap.size w6 w7 := by rw [hw7]; exact (Below.refl _ _).alloc (Nat.le_refl _) _
  have HT7 := Lib.hid (ht6.on hb67)
  have HB7 := Lib.hid (HB5.out.trans ((hb6.trans (hb67.mono hb6.size)).mono HB5.out.size))
  have HV7 := Lib.hid (HV5.out.on (hb6.trans (hb67.mono hb6.size)))
  have BX7 := Lib.hid (show TBox w7 g6 ⟨lo2, ⟨ka2, kn2, kc2⟩, ⟨na2, nn2, nc2⟩, ⟨pa2, pn2, pc2⟩⟩ from by rw [hw7]; exact Box.at_ w6 _ _ hg6)
  clear ht6 hb6 hb67 HB5 HV5
  go_upto_region 5 with fail
  rw [← hg6, ← hw7]
  clear hg6 hw7
  obtain ⟨b0, b1, b2, b3⟩ := TBox.cells BX7.out
  simp only at b0 b1 b2 b3
  obtain ⟨A7, c7, e7, hp7, _⟩ := HV7.out
  injection e7 with e7 _ e8
  subst e7 e8
  obtain ⟨ad, rfl, hab, hca⟩ := hp7.seeP (by simp [aP])
  obtain ⟨c0, _⟩ := hca 0 (by simp [aP])
  rw [Nat.zero_mul, Addr.add_zero'] at c0
  have c0' : w7.cell? ad = some (.string ⟨#[97]⟩) := c0
  have hl2 : aP.length = 2 := rfl
  rw [hl2]
  have hc1 : Calls Try.prog 17 #[.agg #[.string lo2, .slice ka2 kn2 kc2, .slice na2 nn2 nc2, .slice pa2 pn2 pc2], .agg #[.string ⟨#[98]⟩, .string ⟨#[]⟩, .bool true]] w7 fun e w' => ∃ v', e = .returned v' ∧ PV w' v' [⟨aB, a2⟩] ∧ Below w7.heap.size w7 w' := by
    have h1 := tscan_any _ _ _ _ ⟨aB, noS, true⟩ w7 HT7.out (by simp [aN])
    rw [aw_s] at h1
    exact h1
  clear c0 hca hab hp7 hl2
  go_wp2_with fail
  refine hc1.mono ?_
  clear hc1 b0 b1 b2 b3 c0'
  rintro e w8 ⟨v8, rfl, hv8, hb8⟩
  obtain ⟨A8, c8, rfl, _⟩ := hv8
  have HB8 := Lib.hid (HB7.out.trans (hb8.mono HB7.out.size))
  clear hb8
  have hl1 : [(⟨aB, a2⟩ : Pr)].length = 1 := rfl
  rw [hl1]
  clear hl1
  go_wp2_with fail
  refine (tinfos_none w8).mono ?_
  rintro e w9 ⟨A9, c9, rfl, hb9⟩
  have HB9 := Lib.hid (HB8.out.trans (hb9.mono HB8.out.size))
  clear hb9
  go_wp2
  go_ret
  exact ⟨rfl, HB9.out⟩

end Go.Proofs.Yteddjmkoleclpaa
