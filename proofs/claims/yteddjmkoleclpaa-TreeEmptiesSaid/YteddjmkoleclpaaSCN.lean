/- The walk of reach. -/
import Derived.Test.YteddjmkoleclpaaQRng
import Derived.Test.YteddjmkoleclpaaQGet
set_option linter.unusedVariables false
set_option linter.unusedSimpArgs false
namespace Go.Proofs.Yteddjmkoleclpaa
open Go.RowKit

/-- The keys from the first one of lows on, up to the next one. -/
def reachR : List ByteArray → Rng
  | [] => ⟨noS, noS, false⟩
  | [a] => ⟨a, noS, true⟩
  | a :: b :: _ => ⟨a, b, false⟩

set_option maxHeartbeats 2000000 in
set_option maxRecDepth 100000 in
theorem reach_any (A : Option Addr) (c : Nat) (ls : List ByteArray) (w : World) (hA : Strs w w.heap.size A ls) (h0 : 0 < ls.length) :
    Calls Try.prog 62 #[.slice A ls.length c] w fun e w' => e = .returned (.agg #[.string (reachR ls).lo, .string (reachR ls).hi, .bool (reachR ls).op]) ∧ Below w.heap.size w w' := by
  obtain ⟨ad, rfl, hab, hca⟩ := hA h0
  cases ls with
  | nil => simp at h0
  | cons a ls =>
  have c0 : w.cell? ad = some (.string a) := by have := hca 0 (by simp); rwa [Addr.add_zero'] at this
  cases ls with
  | nil =>
    have hgt : decide ((1 : Int) < ((1 : Nat) : Int)) = false := rfl
    clear hca
    show Calls Try.prog 62 #[.slice (some ad) 1 c] w fun e w' => e = .returned (.agg #[.string a, .string noS, .bool true]) ∧ Below w.heap.size w w'
    go_enter Try.func62, Try.ntmps62
    go_wp2
    exact bodyPost_ret (v := .agg #[.string a, .string noS, .bool true]) (by simp [results, Try.results62, go_sem, noS]) rfl ⟨rfl, by (repeat (first | exact Below.refl _ _ | refine Below.setCell ?_ (by simp) _ | refine Below.alloc ?_ (by simp <;> omega) _))⟩
  | cons b ls =>
    have c1 : w.cell? (ad.add 1) = some (.string b) := hca 1 (by simp)
    have c2 : w.cell? ⟨ad.block, ad.off + 1, none⟩ = some (.string b) := by rw [Addr.add_succ'] at c1; exact c1
    obtain ⟨n, hn⟩ : ∃ n, n = (a :: b :: ls).length := ⟨_, rfl⟩
    have hn2 : 1 < n := by rw [hn]; simp
    have hgt : decide ((1 : Int) < (n : Int)) = true := by simp; omega
    have hn0 : 0 < n := by omega
    rw [← hn]
    clear hca hn h0
    show Calls Try.prog 62 #[.slice (some ad) n c] w fun e w' => e = .returned (.agg #[.string a, .string b, .bool false]) ∧ Below w.heap.size w w'
    go_enter Try.func62, Try.ntmps62
    go_upto_region 2 with fail
    go_region
    all_goals go_wp2
    all_goals exact bodyPost_ret (v := .agg #[.string a, .string b, .bool false]) (by simp [results, Try.results62, go_sem]) rfl ⟨rfl, by (repeat (first | exact Below.refl _ _ | refine Below.drew ?_ | refine Below.setCell ?_ (by simp) _ | refine Below.alloc ?_ (by simp <;> omega) _))⟩

end Go.Proofs.Yteddjmkoleclpaa

namespace Go.Proofs.Yteddjmkoleclpaa
open Go.RowKit Go.Sort

theorem own_below' {w w' : World} {base n k : Nat} {e : TypeId} {v : Value} {xs : List Value} (h : w.ownsRow base e k v n xs) (hb : Below w.heap.size w w') : w'.ownsRow base e k v n xs := by
  obtain ⟨A, c, rfl⟩ := own_shape h
  exact own_below h hb
/-- append of pairs onto a row of the call's own, as an equation. -/
theorem run_append_prs (w : World) (ty base : Nat) (v : Value) (n : Nat) (xs : List Value) (hown : w.ownsRow base 44 2 v n xs) (B : Nat) (A : Option Addr) (m c : Nat) (l : List Pr) (hm : l.length = m) (hr : Prs w B A l) (hA : A = none → c = 0) (hn : n + m ≤ 1000000) (hbase : base ≤ w.heap.size) :
    ∃ v' w', (Builtin.append_ #[28, 28] ty #[v, .slice A m c]).run Try.prog w = .ok v' w' ∧ w'.ownsRow base 44 2 v' (n + m) (xs ++ l.flatMap Pr.cells) ∧ w.grownBy w' v.ownBlock := by
  obtain ⟨i0, hi0, hz0, hz1, hz2⟩ := info_parts pair_info
  rcases A with _ | ad
  · obtain rfl := hA rfl
    obtain rfl := prs_none hr
    obtain rfl : m = 0 := hm.symm
    exact ⟨v, w, run_append_owned_none w base 28 ty 44 i0 2 Try.underlying28 hi0 v n xs hown, by simpa using hown, World.grownBy.refl w _⟩
  · obtain ⟨v', w', h1, h2, h3, _⟩ := run_append_own (P := Try.prog) w base 28 ty 44 i0 (.agg #[.string ⟨#[]⟩, .string ⟨#[]⟩]) 2 32 Try.underlying28 hi0 hz0 hz1 hz2 rfl (by decide) v n xs hown ad m c (l.flatMap Pr.cells) (by rw [prs_len, hm]) (prs_cells hr) (prs_plain l) (by unfold maxLen; omega) (by omega) hbase
    exact ⟨v', w', h1, h2, h3⟩

/-! What scan tells, in plain words. -/
def okP {α : Type} (hi : Option ByteArray) : List (ByteArray × α) → List (List Nt) → Prop
  | [], [] => True
  | k :: ks, p :: ps => (∀ n ∈ p, inLow k.1 (nextLo hi ks) n.key = true) ∧ okP hi ks ps
  | _, _ => False
theorem okP_of {α : Type} {hi : Option ByteArray} : ∀ {ks : List (ByteArray × α)} {ps : List (List Nt)}, ps.length = ks.length → (∀ i (h1 : i < ks.length) (h2 : i < ps.length), ∀ n ∈ ps[i], inLow ks[i].1 (nextLo hi (ks.drop (i + 1))) n.key = true) → okP hi ks ps
  | [], [], _, _ => trivial
  | k :: ks, p :: ps, hl, h => ⟨h 0 (by simp) (by simp), okP_of (by simpa using hl) fun i h1 h2 => h (i + 1) (by rw [List.length_cons]; omega) (by rw [List.length_cons]; omega)⟩
theorem okP_mem {α : Type} {hi : Option ByteArray} : ∀ {ks : List (ByteArray × α)} {ps : List (List Nt)}, okP hi ks ps → ∀ n ∈ ps.flatten, ∃ k ∈ ks, ∃ b, inLow k.1 b n.key = true
  | [], [], _, n, hn => by cases hn
  | k :: ks, p :: ps, h, n, hn => by
    rw [List.flatten_cons] at hn
    rcases List.mem_append.1 hn with hn | hn
    · exact ⟨k, List.mem_cons_self, _, h.1 n hn⟩
    · obtain ⟨k2, h2, h3⟩ := okP_mem h.2 n hn
      exact ⟨k2, List.mem_cons_of_mem _ h2, h3⟩
theorem kp_zip {h : Nat} {hi : Option ByteArray} : ∀ {ks : List (ByteArray × TrH h)} {ps : List (List Nt)}, okK (okN h) hi ks → okP hi ks ps → (List.zipWith (fun k p => foldOne (pairsH h k.2) p) ks ps).flatten = foldOne (kp h ks) ps.flatten
  | [], [], _, _ => rfl
  | k :: ks, p :: ps, hk, hp => by
    have h1 := okNK hk
    show foldOne (pairsH h k.2) p ++ (List.zipWith (fun k p => foldOne (pairsH h k.2) p) ks ps).flatten = foldOne (pairsH h k.2 ++ kp h ks) (p ++ ps.flatten)
    rw [kp_zip hk.2 hp.2]
    refine (fold_join (pairs_sorted h _ _ _ h1.1) (kp_sorted h1.2) (fun x hx y hy => ?_) (fun x hx n hn => ?_) (fun n hn y hy => ?_) (fun n hn m hm => ?_)).symm
    · obtain ⟨z, hz, hy⟩ := List.mem_flatMap.1 hy
      obtain ⟨b, h3, _⟩ := (okK_mem (ok_lo h) h1.2).1 z hz
      exact kid_less (ok_lo h) h1 hz (pairs_in h _ _ _ h1.1 x hx) (pairs_in h _ _ _ h3 y hy)
    · obtain ⟨z, hz, b, h3⟩ := okP_mem hp.2 n hn
      exact kid_less (ok_lo h) h1 hz (pairs_in h _ _ _ h1.1 x hx) h3
    · obtain ⟨z, hz, hy⟩ := List.mem_flatMap.1 hy
      obtain ⟨b, h3, _⟩ := (okK_mem (ok_lo h) h1.2).1 z hz
      exact kid_less (ok_lo h) h1 hz (hp.1 n hn) (pairs_in h _ _ _ h3 y hy)
    · obtain ⟨z, hz, b, h3⟩ := okP_mem hp.2 m hm
      exact kid_less (ok_lo h) h1 hz (hp.1 n hn) h3
/-- What the i-th kid tells. -/
def quK (h : Nat) (rg : Rng) (ks : List (ByteArray × TrH h)) (ps : List (List Nt)) (i : Nat) : List Pr := match ks[i]?, ps[i]? with
  | some k, some p => pickL rg (foldOne (pairsH h k.2) p)
  | _, _ => []
theorem pick_append (rg : Rng) (a b : List Pr) : pickL rg (a ++ b) = pickL rg a ++ pickL rg b := by unfold pickL; rw [List.filter_append]
theorem pick_flatten (rg : Rng) : ∀ (l : List (List Pr)), pickL rg l.flatten = (l.map (pickL rg)).flatten
  | [] => rfl
  | x :: l => by rw [List.flatten_cons, pick_append, pick_flatten rg l, List.map_cons, List.flatten_cons]
theorem qu_all {h : Nat} {rg : Rng} {ks : List (ByteArray × TrH h)} {ps : List (List Nt)} (hl : ps.length = ks.length) : (List.range ks.length).flatMap (quK h rg ks ps) = pickL rg (List.zipWith (fun k p => foldOne (pairsH h k.2) p) ks ps).flatten := by
  rw [pick_flatten]
  rw [List.flatMap_def]
  congr 1
  refine List.ext_getElem (by simp [hl]) fun i h1 h2 => ?_
  have hi : i < ks.length := by simpa using h1
  have hi2 : i < ps.length := by omega
  simp only [List.getElem_map, List.getElem_range, List.getElem_zipWith]
  unfold quK
  rw [List.getElem?_eq_getElem hi, List.getElem?_eq_getElem hi2]
/-- What is empty with the keys of a kid has none of its pairs. -/
theorem qu_none {h : Nat} {hi : Option ByteArray} {rg : Rng} {ks : List (ByteArray × TrH h)} {ps : List (List Nt)} (hk : okK (okN h) hi ks) (hps : ∀ i (h1 : i < ks.length) (h2 : i < ps.length), ∀ n ∈ ps[i], inLow ks[i].1 (nextLo hi (ks.drop (i + 1))) n.key = true) {i : Nat} (hi1 : i < ks.length) (he : emptyB (meetL [rg, reachR ((lowsOf ks).drop i)]) = true) : quK h rg ks ps i = [] := by
  unfold quK
  rw [List.getElem?_eq_getElem hi1]
  by_cases hi2 : i < ps.length
  case neg => rw [List.getElem?_eq_none (by omega)]
  rw [List.getElem?_eq_getElem hi2]
  show (foldOne (pairsH h ks[i].2) ps[i]).filter _ = []
  rw [List.filter_eq_nil_iff]
  intro p hp
  have eks : ks = ks.take i ++ ks[i] :: ks.drop (i + 1) := by rw [← List.drop_eq_getElem_cons hi1, List.take_append_drop]
  have hk2 := hk
  rw [eks] at hk2
  have hki := (okK_append.1 hk2).2.1
  have hin : inLow ks[i].1 (nextLo hi (ks.drop (i + 1))) p.k = true := by
    rcases mem_keys hp (pairs_sorted h _ _ _ (okN_okH h _ _ _ hki).1) with ⟨q, hq, e⟩ | ⟨n, hn, e⟩
    · rw [← e]; exact pairs_in h _ _ _ (okN_okH h _ _ _ hki).1 q hq
    · rw [← e]; exact hps i hi1 hi2 n hn
  have hre : inB (reachR ((lowsOf ks).drop i)) p.k = true := by
    have hd : (lowsOf ks).drop i = ks[i].1 :: (lowsOf (ks.drop (i + 1))) := by
      show (ks.map Prod.fst).drop i = ks[i].1 :: (ks.drop (i + 1)).map Prod.fst
      rw [← List.map_drop, List.drop_eq_getElem_cons hi1, List.map_cons]
    rw [hd]
    have h3 := inLow_iff.1 hin
    by_cases hj : i + 1 < ks.length
    · rw [List.drop_eq_getElem_cons hj] at h3 ⊢
      have h4 : p.k < ks[i + 1].1 := of_decide_eq_true h3.2
      show inB ⟨ks[i].1, ks[i + 1].1, false⟩ p.k = true
      rw [inB_iff]
      exact ⟨by have := h3.1; grind, .inr h4⟩
    · rw [List.drop_of_length_le (by omega)]
      show inB ⟨ks[i].1, noS, true⟩ p.k = true
      rw [inB_iff]
      exact ⟨by have := h3.1; grind, .inl rfl⟩
  have h5 := empty_in p.k he
  rw [in_meetL] at h5
  simp [hre] at h5
  simp [h5]
theorem pick_len (rg : Rng) (l : List Pr) : (pickL rg l).length ≤ l.length := List.length_filter_le _ _

theorem leaves_len : ∀ (h : Nat) (t : TrH h), (leavesH h t).length ≤ szH h t
  | 0, _ => Nat.le_refl _
  | h + 1, t => by
    show (t.2.flatMap fun k => leavesH h k.2).length ≤ t.1.length + szK h t.2
    have h1 : ∀ ks : List (ByteArray × TrH h), (ks.flatMap fun k => leavesH h k.2).length ≤ szK h ks := by
      intro ks
      induction ks with
      | nil => exact Nat.le_refl _
      | cons k ks ih =>
        have h2 := leaves_len h k.2
        rw [List.flatMap_cons, List.length_append]
        show _ ≤ szH h k.2 + szK h ks
        omega
    have := h1 t.2
    omega
theorem pairs_len : ∀ (h : Nat) (t : TrH h), (pairsH h t).length ≤ szH h t
  | 0, _ => Nat.le_refl _
  | h + 1, t => by
    have h1 : ∀ ks : List (ByteArray × TrH h), (kp h ks).length ≤ szK h ks := by
      intro ks
      induction ks with
      | nil => exact Nat.le_refl _
      | cons k ks ih =>
        have h2 := pairs_len h k.2
        show (pairsH h k.2 ++ kp h ks).length ≤ szH h k.2 + szK h ks
        rw [List.length_append]
        omega
    have h2 := len_fold (kp h t.2) t.1
    have h3 := h1 t.2
    show (foldOne (kp h t.2) t.1).length ≤ t.1.length + szK h t.2
    omega
theorem qu_len {h : Nat} {hi : Option ByteArray} {t : TrH (h + 1)} {ns Wt : List Nt} {PS : List (List Nt)} {rg : Rng} (hsz : szH (h + 1) t + ns.length ≤ 1000 ∧ szH (h + 1) t = t.1.length + szK h t.2) (hw : Wt.length ≤ t.1.length + ns.length)
    (hp : ∀ i (h1 : i < t.2.length) (h2 : i < PS.length), wellN PS[i] = true ∧ PS[i].length ≤ Wt.length ∧ ∀ n ∈ PS[i], inLow t.2[i].1 (nextLo hi (t.2.drop (i + 1))) n.key = true) {j : Nat} : (quK h rg t.2 PS j).length ≤ 100000 := by
  unfold quK
  by_cases h1 : j < t.2.length
  · by_cases h2 : j < PS.length
    · rw [List.getElem?_eq_getElem h1, List.getElem?_eq_getElem h2]
      have h3 := (hp j h1 h2).2.1
      have h4 := pick_len rg (foldOne (pairsH h t.2[j].2) PS[j])
      have h5 := len_fold (pairsH h t.2[j].2) PS[j]
      have h6 := pairs_len h t.2[j].2
      have h7 : szK h t.2 = szK h (t.2.take j) + (szH h t.2[j].2 + szK h (t.2.drop (j + 1))) := by
        conv => lhs; rw [show t.2 = t.2.take j ++ t.2[j] :: t.2.drop (j + 1) from by rw [← List.drop_eq_getElem_cons h1, List.take_append_drop]]
        rw [szK, szS_append, szS_cons]
      show (pickL rg (foldOne (pairsH h t.2[j].2) PS[j])).length ≤ 100000
      omega
    · rw [List.getElem?_eq_none (l := PS) (by omega)]
      cases t.2[j]? <;> exact Nat.zero_le _
  · rw [List.getElem?_eq_none (by omega)]; exact Nat.zero_le _

def LitR (a b : Rng) (v : Value) (w : World) : Prop := ∃ g, v = .slice (some ⟨g, 0, none⟩) 2 2 ∧ Box w g 24 #[.string a.lo, .string a.hi, .bool a.op, .string b.lo, .string b.hi, .bool b.op]
theorem LitR.on {a b : Rng} {v : Value} {w w' : World} (h : LitR a b v w) (hb : Below w.heap.size w w') : LitR a b v w' := let ⟨g, e, h1⟩ := h; ⟨g, e, h1.on hb⟩
theorem meet_lit {a b : Rng} {v : Value} {w : World} (h : LitR a b v w) : Calls Try.prog 61 #[v] w fun e w' => e = .returned (.agg #[.string (meetL [a, b]).lo, .string (meetL [a, b]).hi, .bool (meetL [a, b]).op]) ∧ Below w.heap.size w w' := by
  obtain ⟨g, rfl, hb⟩ := h
  refine meet_any (some ⟨g, 0, none⟩) 2 [a, b] w (fun _ => ⟨_, rfl, Box.lt hb, fun i hi j x hx => ?_⟩) (by simp [maxLen])
  match i, hi, j, hx with
  | 0, _, 0, hx => simp [Rng.cells] at hx; subst hx; simpa [Addr.add] using Box.cell hb 0 rfl
  | 0, _, 1, hx => simp [Rng.cells] at hx; subst hx; simpa [Addr.add] using Box.cell hb 1 rfl
  | 0, _, 2, hx => simp [Rng.cells] at hx; subst hx; simpa [Addr.add] using Box.cell hb 2 rfl
  | 1, _, 0, hx => simp [Rng.cells] at hx; subst hx; simpa [Addr.add] using Box.cell hb 3 rfl
  | 1, _, 1, hx => simp [Rng.cells] at hx; subst hx; simpa [Addr.add] using Box.cell hb 4 rfl
  | 1, _, 2, hx => simp [Rng.cells] at hx; subst hx; simpa [Addr.add] using Box.cell hb 5 rfl

/-- What scan does, h above the leaves. -/
def ScanC (h : Nat) : Prop := ∀ (r : Nr) (lo : ByteArray) (hi : Option ByteArray) (t : TrH h) (rg : Rng) (u : Value) (ns : List Nt) (w : World) (S : Nat → Prop), Und w S → NodeB h w S r lo t → okG h lo hi t → NV w u ns → wellN ns = true → (∀ n ∈ ns, inLow lo hi n.key = true) → szH h t + ns.length ≤ 1000 →
  Calls Try.prog 31 #[r.v, .agg #[.string rg.lo, .string rg.hi, .bool rg.op], u] w fun e w' => ∃ v', e = .returned v' ∧ PV w' v' (pickL rg (foldOne (pairsH h t) ns)) ∧ Below w.heap.size w w'

set_option maxHeartbeats 2000000 in
set_option maxRecDepth 100000 in
theorem scan_zero : ScanC 0 := by
  intro r lo hi t rg u ns w S hS hN hok hB hw hin hsz
  have hap : ∀ wx, Below w.heap.size w wx → Calls Try.prog 56 #[.slice r.p.a r.p.n r.p.c, u] wx fun e w' => ∃ v', e = .returned (.tuple #[v', .int .i64 0]) ∧ PV w' v' (foldOne t ns) ∧ Below wx.heap.size wx w' := fun wx hb => by
    have h1 := apply_v ((hN.2.2.2.pv hS).on hb) (hB.on hb) (by have : szH 0 t = List.length (α := Pr) t := rfl; show List.length (α := Pr) t + ns.length ≤ _; omega)
    have e1 : applyL t ns = foldOne t ns ∧ applyE t ns = 0 := by unfold applyL applyE; rw [hok.1, wellN_right hw]; exact ⟨rfl, rfl⟩
    rw [e1.1, e1.2] at h1
    exact h1
  have hpk : ∀ (wx : World) (v : Value), PV wx v (foldOne t ns) → Calls Try.prog 57 #[.agg #[.string rg.lo, .string rg.hi, .bool rg.op], v] wx fun e w' => ∃ v', e = .returned v' ∧ PV w' v' (pickL rg (foldOne (pairsH 0 t) ns)) ∧ Below wx.heap.size wx w' := fun wx v h =>
    pick_v rg h (by
      have h3 : (foldOne (show List Pr from t) ns).length ≤ List.length (α := Pr) t + ns.length := len_fold _ _
      have h4 : List.length (α := Pr) t + ns.length ≤ 1000 := hsz
      exact Nat.le_trans h3 (by omega))
  have hlf := fun wx => isleaf_any r wx
  rw [show r.k.n = 0 from by rw [hN.2.1]; rfl] at hlf
  have HAP := Lib.hid hap
  have HPK := Lib.hid hpk
  clear hS hN hok hB hw hin hsz hap hpk
  obtain ⟨Q, hQ⟩ : ∃ Q, Q = pickL rg (foldOne (pairsH 0 t) ns) := ⟨_, rfl⟩
  obtain ⟨F, hF⟩ : ∃ F, F = foldOne t ns := ⟨_, rfl⟩
  rw [← hQ, ← hF] at HPK
  rw [← hF] at HAP
  rw [← hQ]
  clear hQ hF
  obtain ⟨rl, rh, ro⟩ := rg
  obtain ⟨lo', ⟨ka, kn, kc⟩, ⟨na, nn, nc⟩, ⟨pa, pn, pc⟩⟩ := r
  simp only at HAP HPK ⊢
  have hl0 : ∀ wx, Calls Try.prog 43 #[.agg #[.string lo', .slice ka kn kc, .slice na nn nc, .slice pa pn pc]] wx fun e w' => e = .returned (.bool true) ∧ Below wx.heap.size wx w' := hlf
  obtain ⟨w0, hw0⟩ : ∃ w0, w0 = (w.alloc (.cells #[.string lo', .slice ka kn kc, .slice na nn nc, .slice pa pn pc] 30)).alloc (.cells #[.string rl, .string rh, .bool ro] 24) := ⟨_, rfl⟩
  obtain ⟨g, hg⟩ : ∃ g, g = w.heap.size := ⟨_, rfl⟩
  obtain ⟨g2, hg2⟩ : ∃ g2, g2 = g + 1 := ⟨_, rfl⟩
  have HB0 := Lib.hid (show Below w.heap.size w w0 from by rw [hw0]; exact ((Below.refl _ _).alloc (Nat.le_refl _) _).alloc (by simp) _)
  have BX := Lib.hid (show NdB w0 g ⟨lo', ⟨ka, kn, kc⟩, ⟨na, nn, nc⟩, ⟨pa, pn, pc⟩⟩ from by rw [hw0]; exact (Box.at_ w _ _ hg).push _)
  have BR := Lib.hid (show RBlk w0 g2 ⟨rl, rh, ro⟩ from by rw [hw0]; exact Box.at_ _ _ _ (by rw [hg2, hg]; simp))
  have HL0 := Lib.hid hl0
  clear hl0 hlf
  show Calls Try.prog 31 #[.agg #[.string lo', .slice ka kn kc, .slice na nn nc, .slice pa pn pc], .agg #[.string rl, .string rh, .bool ro], u] w fun e w' => ∃ v', e = .returned v' ∧ PV w' v' Q ∧ Below w.heap.size w w'
  go_enter Try.func31, Try.ntmps31
  go_upto_region 1 with fail
  rw [← hg, ← hg2, ← hw0]
  clear hg hg2 hw0
  obtain ⟨b0, b1, b2, b3⟩ := NdB.cells BX.out
  simp only at b0 b1 b2 b3
  go_wp2_with fail
  refine (HL0.out w0).mono ?_
  clear b0 b1 b2 b3
  rintro e w1 ⟨rfl, hb1⟩
  have HB1 := Lib.hid (HB0.out.trans (hb1.mono HB0.out.size))
  have BX1 := Lib.hid (show NdB w1 g ⟨lo', ⟨ka, kn, kc⟩, ⟨na, nn, nc⟩, ⟨pa, pn, pc⟩⟩ from BX.out.on hb1)
  have BR1 := Lib.hid (cells_of BR.out hb1)
  obtain ⟨b0, b1, b2, b3⟩ := NdB.cells BX1.out
  simp only at b0 b1 b2 b3
  clear hb1 BX BR
  go_wp2_with fail
  refine (HAP.out w1 HB1.out).mono ?_
  clear b0 b1 b2 b3
  rintro e w2 ⟨v2, rfl, hv2, hb2⟩
  have HB2 := Lib.hid (HB1.out.trans (hb2.mono HB1.out.size))
  have BR2 := Lib.hid (cells_of BR1.out hb2)
  obtain ⟨r1, r2, r3⟩ := RBlk.cells BR2.out
  simp only at r1 r2 r3
  have hc2 := HPK.out w2 v2 hv2
  clear hb2 hv2 BX1 BR1
  go_wp2_with fail
  refine hc2.mono ?_
  clear hc2 r1 r2 r3
  rintro e w3 ⟨v3, rfl, hv3, hb3⟩
  have HB3 := Lib.hid (HB2.out.trans (hb3.mono HB2.out.size))
  have HV3 := Lib.hid hv3
  clear hb3 hv3
  go_wp2
  go_ret
  exact ⟨_, rfl, HV3.out, HB3.out⟩

def ScanV (RG SS SI RR MM : Value) (rl rh ql qh ml mh : ByteArray) (ro qo mo : Bool) (i : Nat) (t : Nat) (v : Value) (w : World) : Prop :=
  match t with
  | 46 => v = RG
  | 47 => v = SS
  | 48 => v = .int .i64 i
  | 49 => v = SI
  | 50 => v = RR
  | 51 => LitR ⟨rl, rh, ro⟩ ⟨ql, qh, qo⟩ v w
  | 52 => v = MM
  | 53 => v = .bool (emptyB ⟨ml, mh, mo⟩)
  | 54 => v = .bool (!emptyB ⟨ml, mh, mo⟩)
  | _ => True
theorem ScanV.on {RG SS SI RR MM : Value} {rl rh ql qh ml mh : ByteArray} {ro qo mo : Bool} {i : Nat} {t : Nat} {v : Value} {w w' : World} (g : ScanV RG SS SI RR MM rl rh ql qh ml mh ro qo mo i t v w) (hb : Below w.heap.size w w') : ScanV RG SS SI RR MM rl rh ql qh ml mh ro qo mo i t v w' := by
  unfold ScanV at *
  split at g <;> first | exact g | exact LitR.on g hb

def ScanU (base : Nat) (U KS PK PN ND RG PV0 : Value) (i m : Nat) (Q : List Pr) (xs : List Value) (p t : Nat) (v : Value) (w : World) : Prop :=
  match t with
  | 55 => v = U
  | 56 => v = PK
  | 57 => v = KS
  | 58 => v = .int .i64 i
  | 59 => v = PN
  | 60 => v = ND
  | 61 => v = RG
  | 62 => v = PV0
  | 63 => p = 0 → PV w v Q
  | 64 => p = 1 → w.ownsRow base 44 2 v (m + Q.length) (xs ++ Q.flatMap Pr.cells)
  | 12 => p = 1 ∧ w.ownsRow base 44 2 v (m + Q.length) (xs ++ Q.flatMap Pr.cells)
  | _ => True
theorem ScanU.on {base : Nat} {U KS PK PN ND RG PV0 : Value} {i m : Nat} {Q : List Pr} {xs : List Value} {p t : Nat} {v : Value} {w w' : World} (h : ScanU base U KS PK PN ND RG PV0 i m Q xs p t v w) (hb : Below w.heap.size w w') : ScanU base U KS PK PN ND RG PV0 i m Q xs p t v w' := by
  unfold ScanU at *
  split at h <;> first | exact h | exact fun e => (h e).on hb | (exact fun e => own_below' (h e) hb) | exact ⟨h.1, own_below' h.2 hb⟩

set_option maxHeartbeats 8000000 in
set_option maxRecDepth 100000 in
theorem scan_succ (h : Nat) (IH : ScanC h) : ScanC (h + 1) := by
  intro r lo hi t rg u ns w S hS hN hok hB hw hin hsz
  have hok0 : okN (h + 1) lo hi t := hok
  obtain ⟨ok1, ok2, ok3, ok4, ⟨x0, r0, e0⟩, ok5⟩ := hok0
  have hszt : szH (h + 1) t = t.1.length + szK h t.2 := rfl
  have hkb : t.2.length ≤ 4 := ok4
  obtain ⟨Wt, hWt⟩ : ∃ Wt, Wt = pushL t.1 ns := ⟨_, rfl⟩
  have hpu : ∀ wx, Below w.heap.size w wx → Calls Try.prog 22 #[.slice r.n.a r.n.n r.n.c, u] wx fun e w' => ∃ v', e = .returned (.tuple #[v', .int .i64 0]) ∧ NV w' v' Wt ∧ Below wx.heap.size wx w' := fun wx hb => by
    have h3 := ppush_v ((hN.2.1.nv hS).on hb) (hB.on hb) (by omega)
    have e1 : pushA t.1 ns = Wt ∧ pushE t.1 ns = 0 := by unfold pushA pushE; rw [ok1, wellN_right hw, hWt]; exact ⟨rfl, rfl⟩
    rw [e1.1, e1.2] at h3
    exact h3
  have hWw : wellN Wt = true := by rw [hWt]; exact well_pushL ok1 (wellN_right hw)
  have hWl : Wt.length ≤ t.1.length + ns.length := by rw [hWt]; exact len_pushL (wellN_sorted ok1) ns
  have hWin : ∀ n ∈ Wt, inLow lo hi n.key = true := fun n hn => by
    rw [hWt] at hn
    rcases push_keys (wellN_sorted ok1) hn with ⟨m, hm, e⟩ | ⟨m, hm, e⟩
    · rw [← e]; exact ok3 m hm
    · rw [← e]; exact hin m hm
  have hrise := lows_rise ok5
  have hspl := split_at hWw hrise
  have hll : (lowsOf t.2).length = t.2.length := by simp
  have hpl : (splitA Wt (lowsOf t.2)).length = t.2.length := by rw [hspl, split_len, hll]
  have hpos : 0 < t.2.length := by rw [e0]; simp
  have hfirst : ∀ n ∈ Wt, ¬ n.key < (lowsOf t.2)[0]'(by omega) := fun n hn => by
    have h7 : (lowsOf t.2)[0]'(by omega) = lo := by simp only [List.getElem_map, e0, List.getElem_cons_zero]
    rw [h7]; exact (inLow_iff.1 (hWin n hn)).1
  have hparts : ∀ i (h1 : i < t.2.length) (h2 : i < (splitA Wt (lowsOf t.2)).length), wellN (splitA Wt (lowsOf t.2))[i] = true ∧ (splitA Wt (lowsOf t.2))[i].length ≤ Wt.length ∧ ∀ n ∈ (splitA Wt (lowsOf t.2))[i], inLow t.2[i].1 (nextLo hi (t.2.drop (i + 1))) n.key = true := fun i h1 h2 => by
    have h3 := splitL_get (W := Wt) (lows := lowsOf t.2) (i := i) (by omega)
    rw [← hspl, List.getElem?_eq_getElem h2] at h3
    injection h3 with h3
    rw [h3]
    refine ⟨wellN_sub hWw List.filter_sublist, List.length_filter_le _ _, fun n hn => ?_⟩
    have h4 := part_in (by omega) hfirst hn
    refine inLow_iff.2 ⟨?_, ?_⟩
    · have h5 := h4.1
      simp only [List.getElem_map] at h5
      exact h5
    · by_cases hj : i + 1 < t.2.length
      · rw [List.drop_eq_getElem_cons hj]
        have h5 := h4.2 (by omega)
        simp only [List.getElem_map] at h5
        exact decide_eq_true h5
      · rw [List.drop_of_length_le (by omega)]
        exact (inLow_iff.1 (hWin n (List.mem_filter.1 hn).1)).2
  have hall : (List.range t.2.length).flatMap (quK h rg t.2 (splitA Wt (lowsOf t.2))) = pickL rg (foldOne (pairsH (h + 1) t) ns) := by
    rw [qu_all hpl, kp_zip ok5 (okP_of hpl fun i h1 h2 => (hparts i h1 h2).2.2)]
    congr 1
    rw [hspl, split_flat (wellN_sorted hWw) (by omega), hWt, push_does (kp_sorted (okNK ok5)) (wellN_sorted ok1), foldOne_append]
    rfl
  rw [← hall]
  obtain ⟨n1, n2, n3, rs, n4, n5⟩ := hN
  have hkn : r.k.n ≠ 0 := by
    have h1 := n4.1
    have h2 := n5.len
    omega
  have hlf := fun wx => isleaf_any r wx
  rw [decide_eq_false hkn] at hlf
  have hlows : rs.map Nr.low = lowsOf t.2 := NodesR.lows n5
  have hrl : rs.length = t.2.length := n5.len
  obtain ⟨n, hn⟩ : ∃ n, n = t.2.length := ⟨_, rfl⟩
  have hkn2 : r.k.n = n := by rw [hn, ← hrl]; exact n4.1
  obtain ⟨kd, hkd, hkdb, hkc⟩ := (n4.2.1.lies hS).seeK (by omega)
  rw [← hn]
  have hlo : ∀ wx, Below w.heap.size w wx → Calls Try.prog 58 #[.slice (some kd) n r.k.c] wx fun e w' => ∃ A' c', e = .returned (.slice A' n c') ∧ Strs w' w'.heap.size A' (lowsOf t.2) ∧ n ≤ c' ∧ (A' = none → c' = 0) ∧ Below wx.heap.size wx w' := fun wx hb => by
    have h1 := lows_cap (some kd) r.k.c rs wx (by rw [← hkd]; exact ((n4.2.1.lies hS).on hb)) (by omega)
    rw [hlows, hrl, ← hn] at h1
    exact h1
  have HLO := Lib.hid hlo
  have HPU := Lib.hid hpu
  have HU := Lib.hid hS
  have HN5 := Lib.hid n5
  have HKC := Lib.hid hkc
  have HPA := Lib.hid hparts
  have HOK := Lib.hid (And.intro ok5 (And.intro hpl (And.intro hrl (And.intro hn hWl))))
  have HSZ := Lib.hid (And.intro hsz hszt)
  have hn4 : n ≤ 4 := by omega
  have hn0 : 0 < n := by omega
  have HWW := Lib.hid hWw
  clear hS hok hB hw hin hsz ok1 ok2 ok3 ok4 e0 ok5 hszt hkb hWt hpu hWw hWl hWin hrise hspl hll hpl hpos hfirst hparts hall n1 n2 n3 n4 n5 hkn hlows hrl hn hkc hlo hkdb
  obtain ⟨rl, rh, ro⟩ := rg
  obtain ⟨lo', ⟨ka, kn, kc⟩, ⟨na, nn, nc⟩, ⟨za', zn', zc'⟩⟩ := r
  simp only at hkd hkn2 HPU HLO ⊢
  subst hkd
  replace hkn2 := hkn2.symm
  subst hkn2
  have hl0 : ∀ wx, Calls Try.prog 43 #[.agg #[.string lo', .slice (some kd) n kc, .slice na nn nc, .slice za' zn' zc']] wx fun e w' => e = .returned (.bool false) ∧ Below wx.heap.size wx w' := hlf
  obtain ⟨w0, hw0⟩ : ∃ w0, w0 = (w.alloc (.cells #[.string lo', .slice (some kd) n kc, .slice na nn nc, .slice za' zn' zc'] 30)).alloc (.cells #[.string rl, .string rh, .bool ro] 24) := ⟨_, rfl⟩
  obtain ⟨g, hg⟩ : ∃ g, g = w.heap.size := ⟨_, rfl⟩
  obtain ⟨g2, hg2⟩ : ∃ g2, g2 = g + 1 := ⟨_, rfl⟩
  have HB0 := Lib.hid (show Below w.heap.size w w0 from by rw [hw0]; exact ((Below.refl _ _).alloc (Nat.le_refl _) _).alloc (by simp) _)
  have BX := Lib.hid (show NdB w0 g ⟨lo', ⟨some kd, n, kc⟩, ⟨na, nn, nc⟩, ⟨za', zn', zc'⟩⟩ from by rw [hw0]; exact (Box.at_ w _ _ hg).push _)
  have BR := Lib.hid (show RBlk w0 g2 ⟨rl, rh, ro⟩ from by rw [hw0]; exact Box.at_ _ _ _ (by rw [hg2, hg]; simp))
  have HL0 := Lib.hid hl0
  clear hl0 hlf
  obtain ⟨PS, hPS⟩ : ∃ PS, PS = splitA Wt (lowsOf t.2) := ⟨_, rfl⟩
  rw [← hPS] at HPA HOK ⊢
  show Calls Try.prog 31 #[.agg #[.string lo', .slice (some kd) n kc, .slice na nn nc, .slice za' zn' zc'], .agg #[.string rl, .string rh, .bool ro], u] w fun e w' => ∃ v', e = .returned v' ∧ PV w' v' ((List.range n).flatMap (quK h ⟨rl, rh, ro⟩ t.2 PS)) ∧ Below w.heap.size w w'
  have HPSE := Lib.hid hPS
  clear hPS
  go_enter Try.func31, Try.ntmps31
  go_upto_region 1 with fail
  rw [← hg, ← hg2, ← hw0]
  clear hg hg2 hw0
  obtain ⟨b0, b1, b2, b3⟩ := NdB.cells BX.out
  simp only at b0 b1 b2 b3
  go_wp2_with fail
  refine (HL0.out w0).mono ?_
  clear b0 b1 b2 b3
  rintro e w1 ⟨rfl, hb1⟩
  have HB1 := Lib.hid (HB0.out.trans (hb1.mono HB0.out.size))
  have BX1 := Lib.hid (show NdB w1 g ⟨lo', ⟨some kd, n, kc⟩, ⟨na, nn, nc⟩, ⟨za', zn', zc'⟩⟩ from BX.out.on hb1)
  have BR1 := Lib.hid (cells_of BR.out hb1)
  obtain ⟨b0, b1, b2, b3⟩ := NdB.cells BX1.out
  simp only at b0 b1 b2 b3
  clear hb1 BX BR HB0
  go_wp2_with fail
  refine (HPU.out w1 HB1.out).mono ?_
  clear b0 b1 b2 b3
  rintro e w2 ⟨v2, rfl, hv2, hb2⟩
  have HB2 := Lib.hid (HB1.out.trans (hb2.mono HB1.out.size))
  have BX2 := Lib.hid (show NdB w2 g ⟨lo', ⟨some kd, n, kc⟩, ⟨na, nn, nc⟩, ⟨za', zn', zc'⟩⟩ from BX1.out.on hb2)
  have BR2 := Lib.hid (cells_of BR1.out hb2)
  obtain ⟨b0, b1, b2, b3⟩ := NdB.cells BX2.out
  simp only at b0 b1 b2 b3
  have HV2 := Lib.hid hv2
  clear hb2 hv2 BX1 BR1 HB1
  go_wp2_with fail
  refine (HLO.out w2 HB2.out).mono ?_
  clear b0 b1 b2 b3
  rintro e w3 ⟨SA, sc, rfl, hst, hsc, hsz3, hb3⟩
  have HB3 := Lib.hid (HB2.out.trans (hb3.mono HB2.out.size))
  have BX3 := Lib.hid (show NdB w3 g ⟨lo', ⟨some kd, n, kc⟩, ⟨na, nn, nc⟩, ⟨za', zn', zc'⟩⟩ from BX2.out.on hb3)
  have BR3 := Lib.hid (cells_of BR2.out hb3)
  obtain ⟨sd, rfl, _, _⟩ := hst (by rw [List.length_map]; have := HOK.out.2.2.2.1; omega)
  have HST := Lib.hid hst
  obtain ⟨B, d, rfl, hBn, hBc, hBz⟩ := HV2.out.on hb3
  have hsp := psplit_own B d Wt (some sd) sc (lowsOf t.2) w3 hBn hBc hBz hst (by have := HOK.out.2.2.2.2; have := HSZ.out; omega) (by rw [List.length_map]; have := HOK.out.2.2.2.1; omega)
  have hml0 : (lowsOf t.2).length = n := by rw [List.length_map]; exact HOK.out.2.2.2.1.symm
  rw [hml0, ← HPSE.out] at hsp
  obtain ⟨nw, hnw⟩ : ∃ nw, Wt.length = nw := ⟨_, rfl⟩
  rw [hnw] at hsp ⊢
  clear hb3 hst hBn hBc hBz hml0 hnw BX2 BR2 HV2 HB2
  go_wp2_with fail
  refine hsp.mono ?_
  clear hsp
  rintro e w4 ⟨v4, rfl, ⟨vs4, h4o, h4p⟩, hb4⟩
  have HB4 := Lib.hid (HB3.out.trans (hb4.mono HB3.out.size))
  have BX4 := Lib.hid (show NdB w4 g ⟨lo', ⟨some kd, n, kc⟩, ⟨na, nn, nc⟩, ⟨za', zn', zc'⟩⟩ from BX3.out.on hb4)
  have BR4 := Lib.hid (cells_of BR3.out hb4)
  have HST4 := Lib.hid (Strs.on HST.out hb4)
  obtain ⟨A4, c4, psl, rfl, hpsl, hpli, _⟩ := OwnX.all (T := 52) (T2 := 27) Nt.cells4 ⟨vs4, h4o, h4p⟩
  have hpn : PS.length = n := by rw [HOK.out.2.1]; exact HOK.out.2.2.2.1.symm
  rw [hpn]
  have HPSL := Lib.hid hpsl
  have HPLI := Lib.hid hpli
  have HPLN := Lib.hid (show psl.length = n from by rw [hpsl.len, hpn])
  have HGS := Lib.hid (And.intro (Box.lt BX4.out) (Box.lt BR4.out))
  clear h4o h4p hb4 hpsl hpli hpn BX3 BR3 HST HB3
  obtain ⟨wl, hw1⟩ : ∃ wz, wz = w4 := ⟨_, rfl⟩
  go_wp2
  rw [← hw1] at HB4 BX4 BR4 HST4 HPSL HPLI HGS ⊢
  clear hw1
  rename_i w1old
  go_loopw [12, 41] (fun v12 v41 wr => ∃ i m : Nat, v41 = .int .i64 i ∧ i ≤ n ∧ Hid (m = ((List.range i).flatMap (quK h ⟨rl, rh, ro⟩ t.2 PS)).length) ∧ Hid (wr.ownsRow wl.heap.size 44 2 v12 m (((List.range i).flatMap (quK h ⟨rl, rh, ro⟩ t.2 PS)).flatMap Pr.cells)) ∧ Below wl.heap.size wl wr) (fun _ v41 _ => (n - intOf v41).toNat)
  case atStart => exact ⟨0, 0, rfl, by omega, by show _ = _; rfl, by show World.ownsRow _ _ _ _ _ _ _; exact World.ownsRow_nil _ _ _ _, Below.refl _ _⟩
  case round =>
    obtain ⟨i, m, rfl, hin, HM, HO, hbr⟩ := hrel
    have hbs := hbr.size
    have HBR := Lib.hid hbr
    by_cases hlt : i < n
    · have hit : i < t.2.length := by rw [← HOK.out.2.2.2.1]; exact hlt
      have hir : i < rs.length := by rw [HOK.out.2.2.1]; exact hit
      have hip : i < PS.length := by rw [HOK.out.2.1]; exact hit
      have his : i < psl.length := by rw [HPLN.out]; exact hlt
      have HBW := Lib.hid (HB4.out.trans (hbr.mono HB4.out.size))
      obtain ⟨adp, rfl, hadp, hpc⟩ := HPLI.out (by omega)
      have c0 := hpc i his 0 _ rfl
      rw [Addr.add_zero', Nat.mul_one] at c0
      have hps := HPSL.out.get i his hip
      obtain ⟨q0, hq0⟩ : ∃ q, q = psl[i]'his := ⟨_, rfl⟩
      rw [← hq0] at c0 hps
      obtain ⟨pa, pn, pc⟩ := q0
      simp only at c0
      have c1 : wr.cell? (adp.add i) = some (.slice pa pn pc) := (hbr.cell (lt_of_cell c0)).trans c0
      have hnv : NV wl (.slice pa pn pc) PS[i] := hps.nv fun b hb => hb.2
      obtain ⟨pt, hpt⟩ : ∃ pt, pt = PS[i]'hip := ⟨_, rfl⟩
      rw [← hpt] at hnv
      obtain ⟨hpw, hplen, hpin⟩ := HPA.out i hit hip
      rw [← hpt] at hpw hplen hpin
      have hnd := AllN.get HN5.out i hir hit
      obtain ⟨k0, k1, k2, k3⟩ := HKC.out i hir
      obtain ⟨y, hy⟩ : ∃ y, y = rs[i]'hir := ⟨_, rfl⟩
      rw [← hy] at hnd k0 k1 k2 k3
      have hokk : okN h t.2[i].1 (nextLo hi (t.2.drop (i + 1))) t.2[i].2 := by
        have h1 := HOK.out.1
        rw [show t.2 = t.2.take i ++ t.2[i] :: t.2.drop (i + 1) from by rw [← List.drop_eq_getElem_cons hit, List.take_append_drop]] at h1
        exact (okK_append.1 h1).2.1
      have hszk : szH h t.2[i].2 + pt.length ≤ 1000 := by
        have h1 : szK h t.2 = szK h (t.2.take i) + (szH h t.2[i].2 + szK h (t.2.drop (i + 1))) := by
          conv => lhs; rw [show t.2 = t.2.take i ++ t.2[i] :: t.2.drop (i + 1) from by rw [← List.drop_eq_getElem_cons hit, List.take_append_drop]]
          rw [szK, szS_append, szS_cons]
        have h2 := HSZ.out
        have h3 := HOK.out.2.2.2.2
        omega
      obtain ⟨Q, hQ⟩ : ∃ Q, Q = quK h ⟨rl, rh, ro⟩ t.2 PS i := ⟨_, rfl⟩
      have hQ2 : Q = pickL ⟨rl, rh, ro⟩ (foldOne (pairsH h t.2[i].2) pt) := by
        rw [hQ, hpt]; unfold quK; rw [List.getElem?_eq_getElem hit, List.getElem?_eq_getElem hip]
      have hrange : (List.range (i + 1)).flatMap (quK h ⟨rl, rh, ro⟩ t.2 PS) = (List.range i).flatMap (quK h ⟨rl, rh, ro⟩ t.2 PS) ++ Q := by
        rw [List.range_succ, List.flatMap_append, hQ]; simp
      have HRG := Lib.hid hrange
      have hqb : m + Q.length ≤ 1000000 := by
        have h1 : Q.length ≤ 2000 := by
          rw [hQ2]
          have h2 := pick_len ⟨rl, rh, ro⟩ (foldOne (pairsH h t.2[i].2) pt)
          have h3 := len_fold (pairsH h t.2[i].2) pt
          have h4 := pairs_len h t.2[i].2
          omega
        have h5 : ∀ j, j ≤ n → ((List.range j).flatMap (quK h ⟨rl, rh, ro⟩ t.2 PS)).length ≤ j * 100000 := by
          intro j
          induction j with
          | zero => intro _; simp
          | succ j ih =>
            intro hj
            rw [List.range_succ, List.flatMap_append, List.length_append]
            have h6 := ih (by omega)
            have h7 := qu_len HSZ.out HOK.out.2.2.2.2 HPA.out (rg := ⟨rl, rh, ro⟩) (j := j)
            have h8 : ([j].flatMap (quK h ⟨rl, rh, ro⟩ t.2 PS)).length = (quK h ⟨rl, rh, ro⟩ t.2 PS j).length := by simp
            rw [h8]
            omega
        have h9 := h5 i (by omega)
        have h10 := HM.out
        have h11 : i ≤ 4 := by omega
        have h12 : i * 100000 ≤ 4 * 100000 := Nat.mul_le_mul_right _ h11
        omega
      have HMB := Lib.hid hqb
      have HSC := Lib.hid (show ∀ wx, Below wl.heap.size wl wx → Calls Try.prog 31 #[.agg #[.string y.low, .slice y.k.a y.k.n y.k.c, .slice y.n.a y.n.n y.n.c, .slice y.p.a y.p.n y.p.c], .agg #[.string rl, .string rh, .bool ro], .slice pa pn pc] wx fun e w' => ∃ v', e = .returned v' ∧ PV w' v' Q ∧ Below wx.heap.size wx w' from fun wx hS => by
        have hbx := HB4.out.trans (hS.mono HB4.out.size)
        rw [hQ2]
        exact IH y t.2[i].1 (nextLo hi (t.2.drop (i + 1))) t.2[i].2 ⟨rl, rh, ro⟩ _ pt wx S (HU.out.on hbx) (NodeB.on hnd HU.out hbx) (okG_of hokk) (hnv.on hS) hpw hpin hszk)
      have HCN := Lib.hid (show ∀ wx, Below wl.heap.size wl wx → wx.cell? (kd.add (i * 4)) = some (.string y.low) ∧ wx.cell? ⟨(kd.add (i * 4)).block, (kd.add (i * 4)).off + 1, none⟩ = some (.slice y.k.a y.k.n y.k.c) ∧ wx.cell? ⟨(kd.add (i * 4)).block, (kd.add (i * 4)).off + 2, none⟩ = some (.slice y.n.a y.n.n y.n.c) ∧ wx.cell? ⟨(kd.add (i * 4)).block, (kd.add (i * 4)).off + 3, none⟩ = some (.slice y.p.a y.p.n y.p.c) from fun wx hS => by
        have hbx := HB4.out.trans (hS.mono HB4.out.size)
        exact ⟨(hbx.cell (lt_of_cell k0)).trans k0, (hbx.cell (lt_of_cell k1)).trans k1, (hbx.cell (lt_of_cell k2)).trans k2, (hbx.cell (lt_of_cell k3)).trans k3⟩)
      obtain ⟨xl, ⟨xa, xn, xc⟩, ⟨ya, yn, yc⟩, ⟨za, zn, zc⟩⟩ := y
      simp only at HSC HCN
      have HCB := Lib.hid (show ∀ wx, Below wl.heap.size wl wx → wx.cell? ⟨g, 1, none⟩ = some (.slice (some kd) n kc) ∧ True from fun wx hS => ⟨(NdB.cells (r := ⟨lo', ⟨some kd, n, kc⟩, ⟨na, nn, nc⟩, ⟨za', zn', zc'⟩⟩) (Box.below (B := wl.heap.size) BX4.out hS HGS.out.1)).2.1, trivial⟩)
      have HCS := Lib.hid (show ∀ wx, Below wl.heap.size wl wx → wx.cell? ⟨g2, 0, none⟩ = some (.string rl) ∧ wx.cell? ⟨g2, 1, none⟩ = some (.string rh) ∧ wx.cell? ⟨g2, 2, none⟩ = some (.bool ro) from fun wx hS => RBlk.cells (r := ⟨rl, rh, ro⟩) (RBlk.below BR4.out hS HGS.out.2))
      have HCR := Lib.hid (show ∀ wx, Below wr.heap.size wr wx → wx.cell? ⟨g2, 0, none⟩ = some (.string rl) ∧ wx.cell? ⟨g2, 1, none⟩ = some (.string rh) ∧ wx.cell? ⟨g2, 2, none⟩ = some (.bool ro) from fun wx hS => HCS.out wx (HBR.out.trans (hS.mono HBR.out.size)))
      obtain ⟨RR, hRR⟩ : ∃ RR, RR = reachR ((lowsOf t.2).drop i) := ⟨_, rfl⟩
      obtain ⟨MM, hMM⟩ : ∃ MM, MM = meetL [⟨rl, rh, ro⟩, RR] := ⟨_, rfl⟩
      have hscn : ¬ sc = i := by omega
      have HRE := Lib.hid (show ∀ wx, Below wr.heap.size wr wx → Calls Try.prog 62 #[.slice (some (sd.add i)) (n - i) (sc - i)] wx fun e w' => e = .returned (.agg #[.string RR.lo, .string RR.hi, .bool RR.op]) ∧ Below wx.heap.size wx w' from fun wx hS => by
        have h1 := Strs.on HST4.out (HBR.out.trans (hS.mono HBR.out.size))
        have hll : (lowsOf t.2).length = n := by rw [List.length_map]; exact HOK.out.2.2.2.1.symm
        have h2 : Strs wx wx.heap.size (some (sd.add i)) ((lowsOf t.2).drop i) := fun hl => by
          obtain ⟨ad', e, hB, hc⟩ := h1 (by omega)
          injection e with e
          subst e
          refine ⟨_, rfl, by rw [block_of_add]; exact hB, fun j hj => ?_⟩
          rw [List.length_drop] at hj
          have h3 := hc (i + j) (by omega)
          rw [List.getElem_drop, Go.Addr.add_add]
          exact h3
        have h4 : ((lowsOf t.2).drop i).length = n - i := by rw [List.length_drop, hll]
        have h5 := reach_any (some (sd.add i)) (sc - i) _ wx h2 (by omega)
        rw [h4, ← hRR] at h5
        exact h5)
      have HME := Lib.hid (show ∀ wx v, Below wr.heap.size wr wx → LitR ⟨rl, rh, ro⟩ ⟨RR.lo, RR.hi, RR.op⟩ v wx → Calls Try.prog 61 #[v] wx fun e w' => e = .returned (.agg #[.string MM.lo, .string MM.hi, .bool MM.op]) ∧ Below wx.heap.size wx w' from fun wx v _ hl => by
        rw [hMM]; exact meet_lit hl)
      have HEM := Lib.hid (show emptyB MM = true → Q = [] from fun he => by
        rw [hQ]
        exact qu_none HOK.out.1 (fun i h1 h2 => (HPA.out i h1 h2).2.2) hit (by rw [← hRR, ← hMM]; exact he))
      obtain ⟨ql, qh, qo⟩ := RR
      obtain ⟨ml, mh, mo⟩ := MM
      simp only at HRE HME
      have HIN := Lib.hid (show i < n ∧ ¬ sc = i ∧ i ≤ sc from ⟨hlt, hscn, by omega⟩)
      have hp1 : 0 < n := by omega
      clear hpc hadp hps hq0 hnv hpt hpw hplen hpin hnd k0 k1 k2 k3 hy hokk hszk hQ hQ2 hrange hqb hRR hMM hit hir hip his c0 hbr
      go_upto_region 10 with fail
      refine wp_region_inv [46, 47, 48, 49, 50, 51, 52, 53, 54] (by kernel_rfl) (by kernel_rfl) (fun w' => Below wr.heap.size wr w') (fun wa wb => Below wa.heap.size wa wb) (ScanV (.agg #[.string rl, .string rh, .bool ro]) (.slice (some sd) n sc) (.slice (some (sd.add i)) (n - i) (sc - i)) (.agg #[.string ql, .string qh, .bool qo]) (.agg #[.string ml, .string mh, .bool mo]) rl rh ql qh ml mh ro qo mo i) (by kernel_rfl) (fun wa wb h1 h2 => h2.trans (h1.mono h2.size)) (fun t v wa wb h1 h2 => ScanV.on h2 h1) (Below.refl _ _).drew (steps_of ?_) ?_
      · skip
        refine Steps1.cons (fun ax wx hS hG => ?_) (Steps1.cons (fun ax wx hS hG => ?_) (Steps1.cons (fun ax wx hS hG => ?_) (Steps1.cons (fun ax wx hS hG => ?_) (Steps1.cons (fun ax wx hS hG => ?_) (Steps1.cons (fun ax wx hS hG => ?_) (Steps1.cons (fun ax wx hS hG => ?_) (Steps1.cons (fun ax wx hS hG => ?_) (Steps1.cons (fun ax wx hS hG => ?_) Steps1.nil))))))))
        · have q4 := hG.old 4 (by kernel_rfl) (by kernel_rfl)
          obtain ⟨z0, z1, z2⟩ := HCR.out wx hS
          refine step_value (v := .agg #[.string rl, .string rh, .bool ro]) (w' := wx) rfl rfl ?_ (Below.refl _ _) (fun d hd => by cases hd; exact rfl)
          go_simp
        · have q11 := hG.old 11 (by kernel_rfl) (by kernel_rfl)
          refine step_value (v := .slice (some sd) n sc) (w' := wx) rfl rfl ?_ (Below.refl _ _) (fun d hd => by cases hd; exact rfl)
          go_simp
        · have q13 := hG.old 13 (by kernel_rfl) (by kernel_rfl)
          refine step_value (v := .int .i64 i) (w' := wx) rfl rfl ?_ (Below.refl _ _) (fun d hd => by cases hd; exact rfl)
          go_simp
        · obtain ⟨_, q47, rfl⟩ := hG.new 47 (by kernel_rfl) (by kernel_rfl)
          obtain ⟨_, q48, rfl⟩ := hG.new 48 (by kernel_rfl) (by kernel_rfl)
          refine step_value (v := .slice (some (sd.add i)) (n - i) (sc - i)) (w' := wx) rfl rfl ?_ (Below.refl _ _) (fun d hd => by cases hd; exact rfl)
          have hin := HIN.out.1
          have hin1 := HIN.out.2.1
          have hin2 := HIN.out.2.2
          go_simp
        · obtain ⟨_, q49, rfl⟩ := hG.new 49 (by kernel_rfl) (by kernel_rfl)
          refine step_call (w1 := wx) (f := 62) (args := #[.slice (some (sd.add i)) (n - i) (sc - i)]) rfl rfl ?_ ((HRE.out wx hS).mono ?_)
          · skip
            go_simp
          · rintro e w' ⟨rfl, hq⟩
            exact ⟨_, rfl, hq, fun d hd => by cases hd; exact rfl⟩
        · obtain ⟨_, q46, rfl⟩ := hG.new 46 (by kernel_rfl) (by kernel_rfl)
          obtain ⟨_, q50, rfl⟩ := hG.new 50 (by kernel_rfl) (by kernel_rfl)
          refine step_value (v := .slice (some ⟨wx.heap.size, 0, none⟩) 2 2) (w' := wx.alloc (.cells #[.string rl, .string rh, .bool ro, .string ql, .string qh, .bool qo] 24)) rfl rfl ?_ ((Below.refl _ _).alloc (Nat.le_refl _) _) (fun d hd => by cases hd; exact ⟨_, rfl, Box.fresh _ _ _⟩)
          go_simp
        · obtain ⟨v51, q51, h51⟩ := hG.new 51 (by kernel_rfl) (by kernel_rfl)
          have p51 : LitR ⟨rl, rh, ro⟩ ⟨ql, qh, qo⟩ v51 wx := h51
          refine step_call (w1 := wx) (f := 61) (args := #[v51]) rfl rfl ?_ ((HME.out wx v51 hS p51).mono ?_)
          · clear h51 p51
            go_simp
          · rintro e w' ⟨rfl, hq⟩
            exact ⟨_, rfl, hq, fun d hd => by cases hd; exact rfl⟩
        · obtain ⟨_, q52, rfl⟩ := hG.new 52 (by kernel_rfl) (by kernel_rfl)
          refine step_call (w1 := wx) (f := 60) (args := #[.agg #[.string ml, .string mh, .bool mo]]) rfl rfl ?_ ((empty_any ml mh mo wx).mono ?_)
          · skip
            go_simp
          · rintro e w' ⟨rfl, hq⟩
            exact ⟨_, rfl, hq, fun d hd => by cases hd; exact rfl⟩
        · obtain ⟨_, q53, rfl⟩ := hG.new 53 (by kernel_rfl) (by kernel_rfl)
          refine step_value (v := .bool (!emptyB ⟨ml, mh, mo⟩)) (w' := wx) rfl rfl ?_ (Below.refl _ _) (fun d hd => by cases hd; exact rfl)
          go_simp
      intro fv w8 hS8 hV8
      have e54 : fv 54 = .bool (!emptyB ⟨ml, mh, mo⟩) := hV8 54 (by decide)
      simp only [puts, Act.put, List.setIfInBounds_toArray, List.set_cons_succ, List.set_cons_zero]
      clear hV8
      rw [e54]
      have HB8 := Lib.hid (HBR.out.trans (hS8.mono HBR.out.size))
      have HO8 := Lib.hid (own_below' HO.out hS8)
      clear HCR HRE HME
      cases hem : emptyB ⟨ml, mh, mo⟩ with
      | true =>
        have HQ0 := Lib.hid (HEM.out hem)
        clear hem hS8 HEM HSC HCN HCB HCS
        go_wp2
        go_roundw
        case rel => exact ⟨i + 1, m, by first | rfl | go_num, by omega, by show _ = _; rw [HRG.out, HQ0.out, List.append_nil]; exact HM.out, by show World.ownsRow _ _ _ _ _ _ _; rw [HRG.out, HQ0.out, List.append_nil]; exact HO8.out, HB8.out⟩
        case measure => simp [intOf]; omega
      | false =>
        clear hem HEM
        go_upto_region 11 with fail
        obtain ⟨wd, hwd⟩ : ∃ wz, wz = w8 := ⟨_, rfl⟩
        have hbd : Below wl.heap.size wl wd := by rw [hwd]; exact HB8.out
        have HOD := Lib.hid (show wd.ownsRow wl.heap.size 44 2 u12 m (((List.range i).flatMap (quK h ⟨rl, rh, ro⟩ t.2 PS)).flatMap Pr.cells) from by rw [hwd]; exact HO8.out)
        rw [← hwd]
        obtain ⟨XS, hXS⟩ : ∃ XS, XS = ((List.range i).flatMap (quK h ⟨rl, rh, ro⟩ t.2 PS)).flatMap Pr.cells := ⟨_, rfl⟩
        rw [← hXS] at HOD
        have HXS := Lib.hid hXS
        clear hXS hwd hS8 HO8
        refine wp_region_phase 12 [55, 56, 57, 58, 59, 60, 61, 62, 63, 64, 12] (by kernel_rfl) [9] [] (fun _ _ => True) 1 rfl (by kernel_rfl) (GrowS wl wd) (fun wa wb => Below wa.heap.size wa wb) (ScanU wl.heap.size u12 (.slice (some kd) n kc) (.pointer (some ⟨g, 1, none⟩)) (.pointer (some (kd.add (i * 4)))) (.agg #[.string xl, .slice xa xn xc, .slice ya yn yc, .slice za zn zc]) (.agg #[.string rl, .string rh, .bool ro]) (.slice pa pn pc) i m Q XS) (by kernel_rfl) (fun _ wa wb h1 h2 => h2.on h1) (fun _ t v wa wb h1 h2 => ScanU.on h2 h1) (fun _ _ _ _ _ _ _ => trivial) ⟨below_drewN hbd _, fun _ => below_drewN (Below.refl _ _) _⟩ trivial (phase1 ?_ ?_) ?_
        · skip
          refine Steps1.cons (fun _ ax wx hS hJ hG => ?_) (Steps1.cons (fun _ ax wx hS hJ hG => ?_) (Steps1.cons (fun _ ax wx hS hJ hG => ?_) (Steps1.cons (fun _ ax wx hS hJ hG => ?_) (Steps1.cons (fun _ ax wx hS hJ hG => ?_) (Steps1.cons (fun _ ax wx hS hJ hG => ?_) (Steps1.cons (fun _ ax wx hS hJ hG => ?_) (Steps1.cons (fun _ ax wx hS hJ hG => ?_) (Steps1.cons (fun _ ax wx hS hJ hG => ?_) (Steps1.cons (fun _ ax wx hS hJ hG => ?_) (Steps1.cons (fun hin _ _ _ _ _ => out (by kernel_rfl) hin) Steps1.nil))))))))))
          · have q12 := hG.old 12 (by kernel_rfl) (by kernel_rfl)
            refine step_slot rfl rfl rfl (step_value (v := u12) (w' := wx) rfl rfl ?_ (Below.refl _ _) (fun d hd => by cases hd; exact rfl))
            go_simp
          · have q3 := hG.old 3 (by kernel_rfl) (by kernel_rfl)
            refine step_slot rfl rfl rfl (step_value (v := .pointer (some ⟨g, 1, none⟩)) (w' := wx) rfl rfl ?_ (Below.refl _ _) (fun d hd => by cases hd; exact rfl))
            go_simp
          · obtain ⟨_, q56, rfl⟩ := hG.new 56 (by kernel_rfl) (by kernel_rfl)
            obtain ⟨z0, z1⟩ := HCB.out wx hS.1
            refine step_slot rfl rfl rfl (step_value (v := .slice (some kd) n kc) (w' := wx) rfl rfl ?_ (Below.refl _ _) (fun d hd => by cases hd; exact rfl))
            go_simp
          · have q13 := hG.old 13 (by kernel_rfl) (by kernel_rfl)
            refine step_slot rfl rfl rfl (step_value (v := .int .i64 i) (w' := wx) rfl rfl ?_ (Below.refl _ _) (fun d hd => by cases hd; exact rfl))
            go_simp
          · obtain ⟨_, q57, rfl⟩ := hG.new 57 (by kernel_rfl) (by kernel_rfl)
            obtain ⟨_, q58, rfl⟩ := hG.new 58 (by kernel_rfl) (by kernel_rfl)
            refine step_slot rfl rfl rfl (step_value (v := .pointer (some (kd.add (i * 4)))) (w' := wx) rfl rfl ?_ (Below.refl _ _) (fun d hd => by cases hd; exact rfl))
            have hin := HIN.out.1
            go_simp
          · obtain ⟨_, q59, rfl⟩ := hG.new 59 (by kernel_rfl) (by kernel_rfl)
            obtain ⟨z0, z1, z2, z3⟩ := HCN.out wx hS.1
            refine step_slot rfl rfl rfl (step_value (v := .agg #[.string xl, .slice xa xn xc, .slice ya yn yc, .slice za zn zc]) (w' := wx) rfl rfl ?_ (Below.refl _ _) (fun d hd => by cases hd; exact rfl))
            go_simp
          · have q4 := hG.old 4 (by kernel_rfl) (by kernel_rfl)
            obtain ⟨z0, z1, z2⟩ := HCS.out wx hS.1
            refine step_slot rfl rfl rfl (step_value (v := .agg #[.string rl, .string rh, .bool ro]) (w' := wx) rfl rfl ?_ (Below.refl _ _) (fun d hd => by cases hd; exact rfl))
            go_simp
          · have q14 := hG.old 14 (by kernel_rfl) (by kernel_rfl)
            refine step_slot rfl rfl rfl (step_value (v := .slice pa pn pc) (w' := wx) rfl rfl ?_ (Below.refl _ _) (fun d hd => by cases hd; exact rfl))
            go_simp
          · obtain ⟨_, q60, rfl⟩ := hG.new 60 (by kernel_rfl) (by kernel_rfl)
            obtain ⟨_, q61, rfl⟩ := hG.new 61 (by kernel_rfl) (by kernel_rfl)
            obtain ⟨_, q62, rfl⟩ := hG.new 62 (by kernel_rfl) (by kernel_rfl)
            refine step_slot rfl rfl rfl (step_call (w1 := wx) (f := 31) (args := #[.agg #[.string xl, .slice xa xn xc, .slice ya yn yc, .slice za zn zc], .agg #[.string rl, .string rh, .bool ro], .slice pa pn pc]) rfl rfl ?_ ((HSC.out wx hS.1).mono ?_))
            · go_simp
            · rintro e w' ⟨v', rfl, hv, hq⟩
              exact ⟨_, rfl, hq, fun d hd => by cases hd; exact fun _ => hv⟩
          · obtain ⟨v55, q1, h55⟩ := hG.new 55 (by kernel_rfl) (by kernel_rfl)
            rw [show v55 = u12 from h55] at q1
            clear h55 v55
            obtain ⟨v63, q2, h2⟩ := hG.new 63 (by kernel_rfl) (by kernel_rfl)
            have hown := own_below' HOD.out (hS.2 rfl)
            obtain ⟨A5, d5, rfl, hl5, hc5, hz5⟩ := (show 0 = 0 → PV wx v63 Q from h2) rfl
            obtain ⟨v2, w2, hr, hown2, hg⟩ := run_append_prs wx 28 wl.heap.size u12 m _ hown wx.heap.size A5 Q.length d5 Q rfl hl5 hz5 (by have := HMB.out; omega) hS.1.size
            have hS2 : Below wl.heap.size wl w2 := hS.1.grown hg hS.1.size (fun k hk => (own_lt hown hk).1)
            refine step_marked (v := v2) (w' := w2) rfl rfl rfl rfl ?_ ⟨hS2, fun h => absurd h (by decide)⟩ trivial ?_ ?_
            · have e1 : ax.eval (.tmp 55) = u12 := by simp [Act.eval, q1]
              have e2 : ax.eval (.tmp 63) = .slice A5 Q.length d5 := by simp [Act.eval, q2]
              unfold execOp
              simp only [resolve, invoke, builtin, Sem.run_bind, Sem.run_pure, Result.andThen_ok, List.map_toArray, List.map_cons, List.map_nil, e1, e2, hr]
            · exact fun _ => hown2
            · intro t u _ ht hu hV
              unfold ScanU at hV ⊢
              split at hV
              · exact hV
              · exact hV
              · exact hV
              · exact hV
              · exact hV
              · exact hV
              · exact hV
              · exact hV
              · exact fun h => absurd h (by decide)
              · exact absurd rfl ht
              · exact absurd hV.1 (by decide)
              · trivial
        · skip
          refine Steps1.cons (fun hin _ _ _ _ _ => out (by kernel_rfl) hin) (Steps1.cons (fun hin _ _ _ _ _ => out (by kernel_rfl) hin) (Steps1.cons (fun hin _ _ _ _ _ => out (by kernel_rfl) hin) (Steps1.cons (fun hin _ _ _ _ _ => out (by kernel_rfl) hin) (Steps1.cons (fun hin _ _ _ _ _ => out (by kernel_rfl) hin) (Steps1.cons (fun hin _ _ _ _ _ => out (by kernel_rfl) hin) (Steps1.cons (fun hin _ _ _ _ _ => out (by kernel_rfl) hin) (Steps1.cons (fun hin _ _ _ _ _ => out (by kernel_rfl) hin) (Steps1.cons (fun hin _ _ _ _ _ => out (by kernel_rfl) hin) (Steps1.cons (fun hin _ _ _ _ _ => out (by kernel_rfl) hin) (Steps1.cons (fun _ ax wx hS hJ hG => ?_) Steps1.nil))))))))))
          · obtain ⟨v64, q64, h64⟩ := hG.new 64 (by kernel_rfl) (by kernel_rfl)
            refine step_slot rfl rfl rfl (step_value (v := v64) (w' := wx) rfl rfl ?_ (Below.refl _ _) (fun d hd => by cases hd; exact ⟨rfl, (show 1 = 1 → _ from h64) rfl⟩))
            clear h64
            go_simp
        intro gg wa hSa _ hVa
        have e12 : 1 = 1 ∧ wa.ownsRow wl.heap.size 44 2 (gg 12) (m + Q.length) (XS ++ Q.flatMap Pr.cells) := hVa 12 (by decide)
        simp only [puts, Act.put, List.setIfInBounds_toArray, List.set_cons_succ, List.set_cons_zero]
        clear hVa
        have HBA := Lib.hid hSa.1
        have HOA := Lib.hid e12.2
        generalize gg 12 = f12 at *
        clear hSa e12 hbd
        go_wp2
        go_roundw
        case rel => exact ⟨i + 1, m + Q.length, by first | rfl | go_num, by omega, by show _ = _; rw [HRG.out, List.length_append, ← HM.out], by show World.ownsRow _ _ _ _ _ _ _; rw [HRG.out, List.flatMap_append, ← HXS.out]; exact HOA.out, HBA.out⟩
        case measure => simp [intOf]; omega
    · have hinn : i = n := by omega
      have HE := Lib.hid hinn
      clear hinn
      go_wp2
      go_ret
      have h1 := HO.out
      have h2 := HM.out
      rw [HE.out] at h1 h2
      exact ⟨_, rfl, PV.own h1 h2, HB4.out.trans (hbr.mono HB4.out.size)⟩
theorem scan_all : ∀ h, ScanC h
  | 0 => scan_zero
  | h + 1 => scan_succ h (scan_all h)

set_option maxHeartbeats 1000000 in
set_option maxRecDepth 100000 in
theorem tscan_any (v : Value) (p : List Pr) (M H : Nat) (rg : Rng) (w : World) (hV : TreeV w v p M H) (hM : M ≤ 1000) :
    Calls Try.prog 17 #[v, .agg #[.string rg.lo, .string rg.hi, .bool rg.op]] w fun e w' => ∃ v', e = .returned v' ∧ PV w' v' (pickL rg p) ∧ Below w.heap.size w w' := by
  obtain ⟨h, r, t, rfl, hN, hT, hp, hm, hh⟩ := hV
  have hg0 := fun wx (hb : Below w.heap.size w wx) => scan_all h r noB none t rg (.slice none 0 0) [] wx (All w) (fun b hb2 => by have h3 : b < w.heap.size := hb2; have := hb.size; show b < wx.heap.size; omega) (NodeB.on hN (fun b h => h) hb) (okG_top hT) (NV.nil wx) rfl (fun n hn => by cases hn) (by simp; omega)
  have e1 : foldOne (pairsH h t) [] = p := hp
  rw [e1] at hg0
  have HG0 := Lib.hid hg0
  clear hN hT hp hm hh hg0 e1 hM
  obtain ⟨Q, hQ⟩ : ∃ Q, Q = pickL rg p := ⟨_, rfl⟩
  rw [← hQ] at HG0 ⊢
  clear hQ
  obtain ⟨rl, rh, ro⟩ := rg
  obtain ⟨lo, ⟨ka, kn, kc⟩, ⟨na, nn, nc⟩, ⟨pa, pn, pc⟩⟩ := r
  have hg1 : ∀ wx, Below w.heap.size w wx → Calls Try.prog 31 #[.agg #[.string lo, .slice ka kn kc, .slice na nn nc, .slice pa pn pc], .agg #[.string rl, .string rh, .bool ro], .slice none 0 0] wx fun e w' => ∃ v', e = .returned v' ∧ PV w' v' Q ∧ Below wx.heap.size wx w' := HG0.out
  have HG1 := Lib.hid hg1
  show Calls Try.prog 17 #[.agg #[.string lo, .slice ka kn kc, .slice na nn nc, .slice pa pn pc], .agg #[.string rl, .string rh, .bool ro]] w fun e w' => ∃ v', e = .returned v' ∧ PV w' v' Q ∧ Below w.heap.size w w'
  clear hg1 HG0
  go_enter Try.func17, Try.ntmps17
  go_wp2_with fail
  refine (HG1.out _ (((Below.refl _ _).alloc (Nat.le_refl _) _).alloc (by simp) _)).mono ?_
  rintro e w1 ⟨v1, rfl, hv1, hb1⟩
  have HB1 := Lib.hid ((((Below.refl _ w).alloc (Nat.le_refl _) (.cells #[.string lo, .slice ka kn kc, .slice na nn nc, .slice pa pn pc] 32)).alloc (by simp) (.cells #[.string rl, .string rh, .bool ro] 24)).trans (hb1.mono (by simp; omega)))
  have HV1 := Lib.hid hv1
  clear hb1 hv1
  go_wp2
  go_ret
  exact ⟨_, rfl, HV1.out, HB1.out⟩

end Go.Proofs.Yteddjmkoleclpaa
