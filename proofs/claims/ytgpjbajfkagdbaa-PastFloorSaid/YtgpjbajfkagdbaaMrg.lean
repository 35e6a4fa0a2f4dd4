/- The walk of merged. -/
import Derived.Test.YtgpjbajfkagdbaaFN
import Derived.Test.YtgpjbajfkagdbaaFew
import Derived.Test.YtgpjbajfkagdbaaSK
import Derived.Test.YtgpjbajfkagdbaaInv
set_option linter.unusedVariables false
set_option linter.unusedSimpArgs false
namespace Go.Proofs.Ytgpjbajfkagdbaa
open Go.RowKit

/-- 'append(v, x...)', v a row of pairs of the call's own, x whatever slice of pairs. -/
theorem append_prs (w : World) {ops : Array Oper} {rest : List Oper} {o : Oper} {a : Act} {Q : Exit → Act → World → Prop} (hgd : o.guard = none) (s x : Operand)
    (ho : o.op = .call { callee := .builtin .append, args := #[s, x], argTypes := #[22, 22] })
    (base : Nat) (v : Value) (n : Nat) (xs : List Value) (hs : a.eval s = v) (hown : w.ownsRow base 41 2 v n xs)
    (B : Nat) (A : Option Addr) (m c : Nat) (l : List Pr) (hx : a.eval x = .slice A m c) (hm : l.length = m) (hr : Prs w B A l) (hA : A = none → c = 0) (hn : n + m ≤ 1000000) (hbase : base ≤ w.heap.size)
    (h : ∀ v' w', w'.ownsRow base 41 2 v' (n + m) (xs ++ l.flatMap Pr.cells) → w.grownBy w' v.ownBlock → wpList Try.prog ops Q rest (a.put o.dst v') w') : wpList Try.prog ops Q (o :: rest) a w := by
  obtain ⟨i0, hi0, hz0, hz1, hz2⟩ := info_parts pair_info
  rcases A with _ | ad
  · obtain rfl := hA rfl
    obtain rfl := prs_none hr
    obtain rfl : m = 0 := hm.symm
    exact wpList_append_own_none hgd s x 22 ho base 41 i0 2 Try.underlying22 hi0 v n xs hs hown hx (h v w (by simpa using hown) (World.grownBy.refl w _))
  · exact wpList_append_own w hgd s x 22 ho base 41 i0 (.agg #[.string ⟨#[]⟩, .string ⟨#[]⟩]) 2 32 Try.underlying22 hi0 hz0 hz1 hz2 rfl (by decide) v n xs hs hown ad m c (l.flatMap Pr.cells) hx (by rw [prs_len, hm]) (prs_cells hr) (prs_plain l) (by unfold maxLen; omega) (by omega) hbase (fun v' w' h1 h2 _ => h v' w' h1 h2)

/-- The length of a slice. -/
def lenV : Value → Nat
  | .slice _ n _ => n
  | _ => 0

section
variable {α : Type} {cs : α → List Value} {k : Nat} {w w' : World} {B : Nat} {A : Option Addr} {l : List α}
theorem Lies.take (h : Lies cs k w B A l) (n : Nat) : Lies cs k w B A (l.take n) := fun hl => by
  obtain ⟨ad, e, hB, hc⟩ := h (by simp at hl; omega)
  refine ⟨ad, e, hB, fun i hi j v hv => ?_⟩
  simp at hi
  rw [List.getElem_take] at hv
  exact hc i (by omega) j v hv
theorem Lies.drop {ad : Addr} (h : Lies cs k w B (some ad) l) (n : Nat) : Lies cs k w B (some (ad.add (n * k))) (l.drop n) := fun hl => by
  simp at hl
  obtain ⟨ad', e, hB, hc⟩ := h (by omega)
  injection e with e
  subst e
  refine ⟨_, rfl, by rw [block_of_add]; exact hB, fun i hi j v hv => ?_⟩
  simp at hi
  rw [List.getElem_drop] at hv
  have h1 := hc (n + i) (by omega) j v hv
  rw [Nat.add_mul, ← Go.Addr.add_add] at h1
  exact h1
theorem Lies.empty (hl : l = []) : Lies cs k w B A l := by subst hl; exact Lies.nil
end

/-- What alike answers. -/
def AlikeV (l : List Nt) (v : Value) : Prop := ∃ m : Nat, v = .int .i64 m ∧ 0 < m ∧ m ≤ l.length ∧ ∃ h0 : 0 < l.length, (∀ i (h : i < l.length), i < m → l[i].key = (l[0]'h0).key) ∧ (∀ h : m < l.length, l[m].key ≠ (l[0]'h0).key)
theorem alike_v (A : Option Addr) (c : Nat) (l : List Nt) (w : World) (B : Nat) (hA : Nts w B A l) (hn : l.length ≤ maxLen) (h0 : 0 < l.length) :
    Calls Try.prog 73 #[.slice A l.length c] w fun e w' => ∃ v', e = .returned v' ∧ AlikeV l v' ∧ Below w.heap.size w w' :=
  (alike_any A c l w B hA hn h0).mono fun _ _ ⟨⟨m, h1, h2, h3, h4, h5⟩, h6⟩ => ⟨_, h1, ⟨m, rfl, h2, h3, h0, h4, h5⟩, h6⟩

/-- One round of merged, in plain words. -/
theorem merged_step {l1 : List Pr} {l2 : List Nt} {m : Nat} (hs : Sorted l1) (hr : Rising l2) (h0 : 0 < m) (hm : m ≤ l2.length) (hl0 : 0 < l2.length) (h1 : ∀ i (h : i < l2.length), i < m → l2[i].key = (l2[0]'hl0).key) (h2 : ∀ h : m < l2.length, l2[m].key ≠ (l2[0]'hl0).key) {key : ByteArray} (hk : key = (l2[0]'hl0).key) :
    foldOne l1 l2 = l1.take (lessL l1 key) ++ pairOf key (stepsO (getL l1 key) (l2.take m)) ++ foldOne (l1.filter fun p => decide (key < p.k)) (l2.drop m) ∧ Sorted (l1.filter fun p => decide (key < p.k)) ∧ Rising (l2.drop m) ∧ (l1.take (lessL l1 key)).length + (l1.filter fun p => decide (key < p.k)).length ≤ l1.length := by
  have hp := rising_split hr h0 hm (fun i h => h1 i (by omega) h) (fun h => h2 h)
  rw [← hk] at hp
  have hG : l2.take m ≠ [] := by
    intro e
    have h : (l2.take m).length = m := by simp; omega
    rw [e] at h
    simp at h
    omega
  have hf := fold_split hs hp.1 hG hp.2
  rw [List.take_append_drop] at hf
  rw [take_less hs]
  exact ⟨hf, hs.sublist List.filter_sublist, hr.sublist (List.drop_sublist _ _), parts_len l1 key⟩

def MrgV (key : ByteArray) (l2 : List Nt) (SL PA PB : Value) (t : Nat) (v : Value) (w : World) : Prop :=
  match t with
  | 14 => v = SL
  | 15 => v = PA
  | 16 => v = PB
  | 17 => v = .string key
  | 18 => v = SL
  | 19 => AlikeV l2 v
  | 6 => v = .string key
  | 7 => AlikeV l2 v
  | _ => True
theorem MrgV.on {key : ByteArray} {l2 : List Nt} {SL PA PB : Value} {t : Nat} {v : Value} {w w' : World} (h : MrgV key l2 SL PA PB t v w) (_ : Below w.heap.size w w') : MrgV key l2 SL PA PB t v w' := by
  unfold MrgV at *
  split at h <;> exact h

set_option maxHeartbeats 4000000 in
set_option maxRecDepth 100000 in
theorem merged_any (A : Option Addr) (c : Nat) (l : List Pr) (B : Option Addr) (d : Nat) (ns : List Nt) (w : World) (hA : Prs w w.heap.size A l) (hB : Nts w w.heap.size B ns) (hc : l.length ≤ c) (hd : ns.length ≤ d) (hz : A = none → c = 0) (hmax : l.length + ns.length ≤ 1000000) (hs : Sorted l) (hr : Rising ns) :
    Calls Try.prog 64 #[.slice A l.length c, .slice B ns.length d] w fun e w' => ∃ v, e = .returned v ∧ w'.ownsRow w.heap.size 41 2 v (foldOne l ns).length ((foldOne l ns).flatMap Pr.cells) ∧ Below w.heap.size w w' := by
  obtain ⟨F, hF⟩ : ∃ F, F = foldOne l ns := ⟨_, rfl⟩
  rw [← hF]
  obtain ⟨n1, hn1⟩ : ∃ n1, l.length = n1 := ⟨_, rfl⟩
  obtain ⟨n2, hn2⟩ : ∃ n2, ns.length = n2 := ⟨_, rfl⟩
  rw [hn1] at hc hmax ⊢
  rw [hn2] at hd hmax ⊢
  have H0 := Lib.hid (show l.length = n1 ∧ ns.length = n2 ∧ ([] : List Pr).length = 0 ∧ n1 + n2 + 0 ≤ 1000000 from ⟨hn1, hn2, rfl, by omega⟩)
  have H1 := Lib.hid (show Sorted l ∧ Rising ns ∧ [] ++ foldOne l ns = F from ⟨hs, hr, hF.symm⟩)
  have HA := Lib.hid hA
  have HB := Lib.hid hB
  have HZ := Lib.hid hz
  have HC := Lib.hid hc
  have HDD := Lib.hid hd
  clear hF hn1 hn2 hA hB hz hmax hs hr hc hd
  go_enter Try.func64, Try.ntmps64
  go_wp2
  go_loopw [0, 1, 5] (fun v0 v1 v5 wr => ∃ (A1 : Option Addr) (n1 c1 : Nat) (l1 : List Pr) (B1 : Option Addr) (n2 c2 : Nat) (l2 : List Nt) (n5 : Nat) (all : List Pr), v0 = .slice A1 n1 c1 ∧ v1 = .slice B1 n2 c2 ∧ n1 ≤ c1 ∧ n2 ≤ c2 ∧ Hid (l1.length = n1 ∧ l2.length = n2 ∧ all.length = n5 ∧ n1 + n2 + n5 ≤ 1000000) ∧ Hid (A1 = none → c1 = 0) ∧ Hid (Prs wr w.heap.size A1 l1) ∧ Hid (Nts wr w.heap.size B1 l2) ∧ Hid (wr.ownsRow w.heap.size 41 2 v5 n5 (all.flatMap Pr.cells)) ∧ Hid (Sorted l1 ∧ Rising l2 ∧ all ++ foldOne l1 l2 = F) ∧ Below w.heap.size w wr) (fun _ v1 _ _ => lenV v1)
  case atStart => exact ⟨A, n1, c, l, B, n2, d, ns, 0, [], rfl, rfl, HC.out, HDD.out, H0, HZ, HA, HB, World.ownsRow_nil _ _ _ _, H1, Below.refl _ _⟩
  case round =>
    clear HA HB HZ HC HDD H0 H1
    obtain ⟨A1, n1, c1, l1, B1, n2, c2, l2, n5, all, rfl, rfl, hc1, hc2, HNUM, HZA, HPA, HPB, HOWN, HPL, hbr⟩ := hrel
    have hbs := hbr.size
    by_cases hlt : 0 < n2
    · have hl0 : 0 < l2.length := by rw [HNUM.out.2.1]; exact hlt
      obtain ⟨ad, rfl, hab, hca⟩ := HPB.out.seeN hl0
      obtain ⟨key, hkey⟩ : ∃ key, key = (l2[0]'hl0).key := ⟨_, rfl⟩
      have HKEY := Lib.hid (show ∃ h0 : 0 < l2.length, key = (l2[0]'h0).key from ⟨hl0, hkey⟩)
      have HCK := Lib.hid (show ∀ wx, Below wr.heap.size wr wx → wx.cell? ⟨ad.block, ad.off + 1, none⟩ = some (.string key) ∧ True from fun wx hS => by
        have h1 := (hca 0 hl0).2.1
        rw [add0, ← hkey] at h1
        exact ⟨(hS.cell (lt_of_cell h1)).trans h1, trivial⟩)
      have HAK := Lib.hid (show ∀ wx, Below wr.heap.size wr wx → Calls Try.prog 73 #[.slice (some ad) n2 c2] wx fun e w' => ∃ v', e = .returned v' ∧ AlikeV l2 v' ∧ Below wx.heap.size wx w' from fun wx hS => by
        have h1 := alike_v (some ad) c2 l2 wx w.heap.size (HPB.out.below (hS.mono hbs)) (by have := HNUM.out; unfold maxLen; omega) hl0
        rw [HNUM.out.2.1] at h1
        exact h1)
      have HN0 := Lib.hid hlt
      clear hca hkey
      go_upto_region 3 with fail
      refine wp_region_inv [14, 15, 16, 17, 18, 19, 6, 7] (by kernel_rfl) (by kernel_rfl) (fun w' => Below wr.heap.size wr w') (fun wa wb => Below wa.heap.size wa wb) (MrgV key l2 (.slice (some ad) n2 c2) (.pointer (some ad)) (.pointer (some ⟨ad.block, ad.off + 1, none⟩))) (by kernel_rfl) (fun wa wb h1 h2 => h2.trans (h1.mono h2.size)) (fun t v wa wb h1 h2 => h2.on h1) (Below.refl _ _).drew (steps_of ?_) ?_
      · skip
        refine Steps1.cons (fun ax wx hS hG => ?_) (Steps1.cons (fun ax wx hS hG => ?_) (Steps1.cons (fun ax wx hS hG => ?_) (Steps1.cons (fun ax wx hS hG => ?_) (Steps1.cons (fun ax wx hS hG => ?_) (Steps1.cons (fun ax wx hS hG => ?_) (Steps1.cons (fun ax wx hS hG => ?_) (Steps1.cons (fun ax wx hS hG => ?_) Steps1.nil)))))))
        · have q1 := hG.old 1 (by kernel_rfl) (by kernel_rfl)
          refine step_value (v := .slice (some ad) n2 c2) (w' := wx) rfl rfl ?_ (Below.refl _ _) (fun d hd => by cases hd; exact rfl)
          go_simp
        · obtain ⟨_, q14, rfl⟩ := hG.new 14 (by kernel_rfl) (by kernel_rfl)
          refine step_value (v := .pointer (some ad)) (w' := wx) rfl rfl ?_ (Below.refl _ _) (fun d hd => by cases hd; exact rfl)
          have h0n := HN0.out
          go_simp
        · obtain ⟨_, q15, rfl⟩ := hG.new 15 (by kernel_rfl) (by kernel_rfl)
          refine step_value (v := .pointer (some ⟨ad.block, ad.off + 1, none⟩)) (w' := wx) rfl rfl ?_ (Below.refl _ _) (fun d hd => by cases hd; exact rfl)
          go_simp
        · obtain ⟨_, q16, rfl⟩ := hG.new 16 (by kernel_rfl) (by kernel_rfl)
          obtain ⟨z0, z1⟩ := HCK.out wx hS
          refine step_value (v := .string key) (w' := wx) rfl rfl ?_ (Below.refl _ _) (fun d hd => by cases hd; exact rfl)
          go_simp
        · have q1 := hG.old 1 (by kernel_rfl) (by kernel_rfl)
          refine step_value (v := .slice (some ad) n2 c2) (w' := wx) rfl rfl ?_ (Below.refl _ _) (fun d hd => by cases hd; exact rfl)
          go_simp
        · obtain ⟨_, q18, rfl⟩ := hG.new 18 (by kernel_rfl) (by kernel_rfl)
          refine step_call (w1 := wx) (f := 73) (args := #[.slice (some ad) n2 c2]) rfl rfl ?_ ((HAK.out wx hS).mono ?_)
          · skip
            go_simp
          · rintro e w' ⟨v', rfl, hv, hq⟩
            exact ⟨_, rfl, hq, fun d hd => by cases hd; exact hv⟩
        · obtain ⟨_, q17, rfl⟩ := hG.new 17 (by kernel_rfl) (by kernel_rfl)
          refine step_value (v := .string key) (w' := wx) rfl rfl ?_ (Below.refl _ _) (fun d hd => by cases hd; exact rfl)
          go_simp
        · obtain ⟨v19, q19, h19⟩ := hG.new 19 (by kernel_rfl) (by kernel_rfl)
          have p19 : AlikeV l2 v19 := h19
          refine step_value (v := v19) (w' := wx) rfl rfl ?_ (Below.refl _ _) (fun d hd => by cases hd; exact p19)
          clear h19 p19
          go_simp
      intro fv w8 hS8 hV8
      have e6 : fv 6 = .string key := hV8 6 (by decide)
      have e7 : AlikeV l2 (fv 7) := hV8 7 (by decide)
      simp only [puts, Act.put, List.setIfInBounds_toArray, List.set_cons_succ, List.set_cons_zero]
      clear hV8
      rw [e6]
      obtain ⟨m, em, hm0, hm1, hm2⟩ := e7
      rw [em]
      have HM := Lib.hid (And.intro hm0 (And.intro hm1 hm2))
      have hmc : m ≤ c2 := by have := HNUM.out.2.1; omega
      have hmn : m ≤ n2 := by have := HNUM.out.2.1; omega
      have hb8 := hbr.trans (hS8.mono hbs)
      have HP8 := Lib.hid (HPA.out.below (hS8.mono hbs))
      have HN8 := Lib.hid (HPB.out.below (hS8.mono hbs))
      have HO8 := Lib.hid (own_below HOWN.out hS8)
      clear e6 em hm0 hm1 hm2 hS8 HCK HAK HPA HPB HOWN
      -- where the key belongs
      obtain ⟨Z, hZ⟩ : ∃ Z, Z = lessL l1 key := ⟨_, rfl⟩
      obtain ⟨T, hT⟩ : ∃ T, T = hasL l1 key := ⟨_, rfl⟩
      have hfd := find_any A1 c1 l1 key w8 (HP8.out.more hb8.size) (by have := HNUM.out; omega) HPL.out.1
      rw [← hZ, ← hT, HNUM.out.1] at hfd
      have hZn : Z ≤ n1 := by rw [hZ, ← HNUM.out.1]; exact lessL_le _ _
      have HZZ := Lib.hid hZ
      have HTT := Lib.hid hT
      clear hZ hT
      have hZc : Z ≤ c1 := by omega
      go_wp2_with fail
      refine hfd.mono ?_
      clear hfd
      rintro e w1 ⟨rfl, hb1⟩
      have hbw1 := hb8.trans (hb1.mono hb8.size)
      have HP1 := Lib.hid (HP8.out.below (hb1.mono hb8.size))
      have HN1 := Lib.hid (HN8.out.below (hb1.mono hb8.size))
      have hown1 := own_below HO8.out hb1
      have hbs1 := hbw1.size
      clear hb1 hb8 HP8 HN8 HO8 hbr hbs
      go_upto_region 5 with fail
      go_cut [5] (fun v wx => Hid (wx.ownsRow w.heap.size 41 2 v (n5 + Z) ((all ++ l1.take Z).flatMap Pr.cells)) ∧ Hid (Prs wx w.heap.size A1 l1) ∧ Hid (Nts wx w.heap.size (some ad) l2) ∧ Below w.heap.size w wx)
      case first =>
        have htk : (l1.take Z).length = Z := by have := HNUM.out.1; simp; omega
        go_wp2_with (at_builtin; refine append_prs _ rfl _ _ rfl w.heap.size _ n5 _ rfl hown1 w.heap.size A1 Z c1 (l1.take Z) rfl ?c1 ?c2 ?c3 ?c4 hbs1 ?_)
        case c1 => exact htk
        case c2 => exact HP1.out.take Z
        case c3 => exact HZA.out
        case c4 => have := HNUM.out; omega
        intro v' w2 hown2 hg2
        have hk : ∀ k, Value.ownBlock _ = some k → w.heap.size ≤ k := fun k hk => (hown1.lt k hk).1
        have hb2 : Below w.heap.size w w2 := hbw1.grown hg2 hbs1 hk
        have hp2 : ∀ p : Addr, p.block < w.heap.size → w2.cell? p = w1.cell? p := fun p hp => (hb2.cell hp).trans (hbw1.cell hp).symm
        have H2 := Lib.hid (And.intro hown2 (And.intro (HP1.out.keep hp2) (HN1.out.keep hp2)))
        clear hown1 hown2 hg2 hk hp2 htk
        go_wp2
        go_meet
        case rel => exact ⟨by show World.ownsRow _ _ _ _ _ _ _; rw [List.flatMap_append]; exact H2.out.1, H2.out.2.1, H2.out.2.2, hb2⟩
      case rest =>
      obtain ⟨HO2, HP2, HN2, hb2⟩ := hcut
      go_upto_region 6 with fail
      go_cut [0, 5] (fun v v5 wx => ∃ (A' : Option Addr) (n3 c3 : Nat), v = .slice A' n3 c3 ∧ n3 ≤ c3 ∧ Hid (n3 + Z = n1) ∧ Hid (A' = none → c3 = 0) ∧ Hid (Prs wx w.heap.size A' (l1.drop Z)) ∧ Hid (wx.ownsRow w.heap.size 41 2 v5 (n5 + Z) ((all ++ l1.take Z).flatMap Pr.cells)) ∧ Hid (Nts wx w.heap.size (some ad) l2) ∧ Below w.heap.size w wx)
      case first =>
        rcases A1 with _ | ad1
        · obtain rfl : c1 = 0 := HZA.out rfl
          obtain rfl : n1 = 0 := by omega
          obtain rfl : Z = 0 := by omega
          go_wp2
          go_meet
          case rel => exact ⟨none, 0, 0, by first | rfl | trivial, Nat.le_refl _, rfl, fun _ => rfl, by show Prs _ _ _ _; rw [List.drop_zero]; exact HP2.out, HO2, HN2, hb2⟩
        · by_cases hcz : c1 = Z
          · have hcz2 : c1 - Z = 0 := by omega
            have HE := Lib.hid (show n1 - Z ≤ 0 ∧ n1 - Z + Z = n1 ∧ l1.drop Z = [] from ⟨by omega, by omega, List.drop_eq_nil_of_le (by have := HNUM.out.1; omega)⟩)
            go_wp2
            go_meet
            case rel => exact ⟨some ad1, n1 - Z, 0, by first | rfl | trivial, HE.out.1, HE.out.2.1, fun h => (by cases h), Lies.empty HE.out.2.2, HO2, HN2, hb2⟩
          · have hcz2 : ¬ c1 - Z = 0 := by omega
            have HE := Lib.hid (show n1 - Z ≤ c1 - Z ∧ n1 - Z + Z = n1 from ⟨by omega, by omega⟩)
            go_wp2
            go_meet
            case rel => exact ⟨some (ad1.add (Z * 2)), n1 - Z, c1 - Z, by first | rfl | trivial, HE.out.1, HE.out.2, fun h => (by cases h), HP2.out.drop Z, HO2, HN2, hb2⟩
      case rest =>
      obtain ⟨A3, n3, c3, rfl, hc3, HE3, HZ3, HP3, HO3, HN3, hb3⟩ := hcut
      clear HO2 HP2 HN2 hb2 hown1 HP1 HN1 hbw1
      obtain ⟨L3, hL3⟩ : ∃ L3, L3 = l1.filter fun p => decide (key < p.k) := ⟨_, rfl⟩
      obtain ⟨V, hV⟩ : ∃ V, V = (hasOf (getL l1 key)).1 := ⟨_, rfl⟩
      have HL3 := Lib.hid hL3
      have HVV := Lib.hid hV
      clear hL3 hV
      go_upto_if 34 with fail
      go_cut [0, 5, 10] (fun v v5 v10 wx => v10 = .string V ∧ ∃ (A' : Option Addr) (n4 c4 : Nat), v = .slice A' n4 c4 ∧ n4 ≤ c4 ∧ Hid (L3.length = n4) ∧ Hid (A' = none → c4 = 0) ∧ Hid (Prs wx w.heap.size A' L3) ∧ Hid (wx.ownsRow w.heap.size 41 2 v5 (n5 + Z) ((all ++ l1.take Z).flatMap Pr.cells)) ∧ Hid (Nts wx w.heap.size (some ad) l2) ∧ Below w.heap.size w wx)
      case first =>
        cases T with
        | false =>
          have hg : getL l1 key = none := by have := HTT.out; unfold hasL at this; cases e : getL l1 key with
            | none => rfl
            | some v => rw [e] at this; cases this
          have HE := Lib.hid (show noB = V ∧ l1.drop Z = L3 from ⟨by rw [HVV.out, hg]; rfl, by rw [HZZ.out, drop_less HPL.out.1, less_none key hg, HL3.out]⟩)
          clear hg
          go_wp2
          go_meet
          case rel => exact ⟨by rw [← HE.out.1], A3, n3, c3, by first | rfl | trivial, hc3, by show _ = _; rw [← HE.out.2]; have := HE3.out; have := HNUM.out.1; simp; omega, HZ3.out, by show Prs _ _ _ _; rw [← HE.out.2]; exact HP3.out, HO3, HN3, hb3⟩
        | true =>
          obtain ⟨v, hg⟩ : ∃ v, getL l1 key = some v := by
            have := HTT.out; unfold hasL at this
            cases e : getL l1 key with
            | none => rw [e] at this; cases this
            | some v => exact ⟨v, rfl⟩
          obtain ⟨hz1, hz2, hz3⟩ := less_there HPL.out.1 key v hg
          have hvV : v = V := by rw [HVV.out, hg]; rfl
          have hzz : Z < l1.length := by rw [HZZ.out]; exact hz1
          have hn3 : 0 < n3 := by have := HE3.out; have := HNUM.out.1; omega
          obtain ⟨ad3, rfl, hab3, hca3⟩ := HP3.out.seeP (by simp; omega)
          have hc3v := (hca3 0 (by simp; omega)).2
          have e0 : ad3.add (0 * 2) = ad3 := by rw [Nat.zero_mul]; exact Addr.add_zero' ad3
          have e1 : ((l1.drop Z)[0]'(by simp; omega)).v = V := by
            rw [List.getElem_drop]
            have e2 : l1[Z + 0]'(by omega) = l1[lessL l1 key]'hz1 := by congr 1
            rw [e2, hz2]; exact hvV
          rw [e0, e1] at hc3v
          have HE := Lib.hid (show (l1.drop Z).drop 1 = L3 ∧ L3.length + 1 = n3 from by
            have h1 : (l1.drop Z).drop 1 = L3 := by rw [List.drop_drop, HL3.out, ← hz3, HZZ.out]
            refine ⟨h1, ?_⟩
            rw [← h1]
            have := HE3.out; have := HNUM.out.1
            simp; omega)
          have h13 : 1 ≤ n3 := hn3
          have h13c : 1 ≤ c3 := by omega
          have hlb : ad3.block < wc.heap.size := by have := hb3.size; omega
          clear hg hz1 hz2 hz3 hvV hzz hca3 e0 e1
          by_cases hc1 : c3 = 1
          · have hc2 : c3 - 1 = 0 := by omega
            have HE4 := Lib.hid (show n3 - 1 = 0 ∧ L3 = [] from ⟨by omega, List.length_eq_zero_iff.1 (by have := HE.out.2; omega)⟩)
            go_wp2
            go_meet
            case rel => exact ⟨by first | rfl | trivial, some ad3, n3 - 1, 0, by first | rfl | trivial, by rw [HE4.out.1]; exact Nat.le_refl _, by show _ = _; rw [HE4.out.1, HE4.out.2]; rfl, fun h => (by cases h), Lies.empty HE4.out.2, HO3, HN3, hb3⟩
          · have hc2 : ¬ c3 - 1 = 0 := by omega
            have HE4 := Lib.hid (show n3 - 1 ≤ c3 - 1 from by omega)
            go_wp2
            go_meet
            case rel => exact ⟨by first | rfl | trivial, some (ad3.add (1 * 2)), n3 - 1, c3 - 1, by first | rfl | trivial | (simp [Addr.add]; done), HE4.out, by show _ = _; have := HE.out.2; omega, fun h => (by cases h), by have h1 := HP3.out.drop 1; rw [HE.out.1] at h1; exact h1, HO3, HN3, hb3⟩
      case rest =>
      obtain ⟨rfl, A4, n4, c4, rfl, hc4, HE4, HZ4, HP4, HO4, HN4, hb4⟩ := hcut
      clear HP3 HO3 HN3 hb3 HZ3 HE3 hc3
      obtain ⟨o, ho⟩ : ∃ o, o = stepsO (getL l1 key) (l2.take m) := ⟨_, rfl⟩
      have HO := Lib.hid ho
      have hlt2 : (l2.take m).length = m := by have := HNUM.out.2.1; simp; omega
      have hdn := fun wx (h : Nts wx wx.heap.size (some ad) l2) => done_any V T (some ad) c2 (l2.take m) wx (h.take m) (by rw [hlt2]; have := HNUM.out; unfold maxLen; omega)
      have hTh : T = (hasOf (getL l1 key)).2 := by rw [HTT.out]; unfold hasL; cases getL l1 key <;> rfl
      rw [hlt2, HVV.out, hTh, done_hasOf, ← ho, ← HVV.out, ← hTh] at hdn
      have hpo : pairOf key o = if (hasOf o).2 then [⟨key, (hasOf o).1⟩] else [] := by cases o <;> rfl
      obtain ⟨v', hv'⟩ : ∃ v', v' = (hasOf o).1 := ⟨_, rfl⟩
      obtain ⟨is, his⟩ : ∃ is, is = (hasOf o).2 := ⟨_, rfl⟩
      rw [← hv', ← his] at hdn hpo
      have HPO := Lib.hid hpo
      have HDN := Lib.hid hdn
      clear ho hlt2 hdn hTh hpo hv' his
      have hdd := HDN.out _ (HN4.out.more hb4.size)
      go_wp2_with fail
      refine hdd.mono ?_
      clear hdd
      rintro e w5 ⟨rfl, hb5⟩
      have hbw5 := hb4.trans (hb5.mono hb4.size)
      have HP5 := Lib.hid (HP4.out.below (hb5.mono hb4.size))
      have HN5 := Lib.hid (HN4.out.below (hb5.mono hb4.size))
      have hown5 := own_below HO4.out hb5
      have hbs5 := hbw5.size
      clear hb5 hb4 HP4 HN4 HO4
      go_upto_if 50 with fail
      go_cut [5] (fun v wx => Hid (wx.ownsRow w.heap.size 41 2 v (all ++ l1.take Z ++ pairOf key o).length ((all ++ l1.take Z ++ pairOf key o).flatMap Pr.cells)) ∧ Hid (Prs wx w.heap.size A4 L3) ∧ Hid (Nts wx w.heap.size (some ad) l2) ∧ Below w.heap.size w wx)
      case first =>
        have hZl : (l1.take Z).length = Z := by have := HNUM.out.1; simp; omega
        have hal := HNUM.out.2.2.1
        cases is with
        | false =>
          have e : pairOf key o = [] := by rw [HPO.out]; rfl
          have H5 := Lib.hid hown5
          have HX := Lib.hid (And.intro hZl (And.intro hal e))
          clear hown5 hZl hal e
          go_wp2
          go_meet
          case rel => exact ⟨by show World.ownsRow _ _ _ _ _ _ _; obtain ⟨h1, h2, h3⟩ := HX.out; rw [h3, List.append_nil, List.length_append, h1, h2]; exact H5.out, HP5, HN5, hbw5⟩
        | true =>
          have e : pairOf key o = [⟨key, v'⟩] := by rw [HPO.out]; rfl
          have HX := Lib.hid (And.intro hZl (And.intro hal e))
          have h5n : n5 + Z ≤ 999999 := by have := HNUM.out; have := HM.out.2.1; omega
          clear hZl hal e
          go_wp2_with (at_builtin; refine append_prs _ rfl _ _ rfl w.heap.size _ (n5 + Z) _ rfl (hown5.alloc _) (w5.heap.size + 1) (some ⟨w5.heap.size, 0, none⟩) 1 1 [⟨key, v'⟩] rfl rfl ?c2 ?c3 ?c4 ?c5 ?_)
          case c2 => exact Lies.lit Pr.cells2 rfl
          case c5 => first | omega | (simp; omega)
          intro v6 w6 hown6 hg6
          have hk : ∀ k, Value.ownBlock _ = some k → w.heap.size ≤ k := fun k hk => (hown5.lt k hk).1
          have hb6 : Below w.heap.size w w6 := (hbw5.alloc hbs5 _).grown hg6 (by simp; omega) hk
          have hp6 : ∀ p : Addr, p.block < w.heap.size → w6.cell? p = w5.cell? p := fun p hp => (hb6.cell hp).trans (hbw5.cell hp).symm
          have H6 := Lib.hid (And.intro hown6 (And.intro (HP5.out.keep hp6) (HN5.out.keep hp6)))
          clear hown5 hown6 hg6 hk hp6
          go_wp2
          go_meet
          case rel => exact ⟨by show World.ownsRow _ _ _ _ _ _ _; obtain ⟨h1, h2, h3⟩ := HX.out; rw [h3, List.length_append, List.length_append, h1, h2]; simpa [List.flatMap_append, List.append_assoc] using H6.out.1, H6.out.2.1, H6.out.2.2, hb6⟩
      case rest =>
      obtain ⟨HO6, HP6, HN6, hb6⟩ := hcut
      clear hown5 HP5 HN5 hbw5
      have hstep := merged_step HPL.out.1 HPL.out.2.1 HM.out.1 HM.out.2.1 HM.out.2.2.1 HM.out.2.2.2.1 HM.out.2.2.2.2 HKEY.out.2
      rw [← HZZ.out, ← HL3.out, ← HO.out] at hstep
      obtain ⟨hs1, hs2, hs3, hs4⟩ := hstep
      have HNX := Lib.hid (show Sorted L3 ∧ Rising (l2.drop m) ∧ (all ++ l1.take Z ++ pairOf key o) ++ foldOne L3 (l2.drop m) = F from ⟨hs2, hs3, by rw [← HPL.out.2.2, hs1]; simp only [List.append_assoc]⟩)
      have HNL := Lib.hid (show L3.length = n4 ∧ (l2.drop m).length = n2 - m ∧ (all ++ l1.take Z ++ pairOf key o).length = (all ++ l1.take Z ++ pairOf key o).length ∧ n4 + (n2 - m) + (all ++ l1.take Z ++ pairOf key o).length ≤ 1000000 from by
        have h1 := HNUM.out; have h2 := HE4.out; have h3 := HM.out.1
        have h4 : (pairOf key o).length ≤ 1 := by cases o <;> simp [pairOf]
        refine ⟨h2, by simp; omega, rfl, ?_⟩
        rw [List.length_append, List.length_append]
        omega)
      clear hs1 hs2 hs3 hs4
      have hm0 : 0 < m := HM.out.1
      by_cases hcm : c2 = m
      · have hcm2 : c2 - m = 0 := by omega
        have HE := Lib.hid (show n2 - m ≤ 0 ∧ l2.drop m = [] from ⟨by omega, List.drop_eq_nil_of_le (by have := HNUM.out.2.1; omega)⟩)
        go_wp2
        go_roundw
        case rel => exact ⟨A4, n4, c4, L3, some ad, n2 - m, 0, l2.drop m, _, all ++ l1.take Z ++ pairOf key o, by first | rfl | trivial, by first | rfl | trivial, hc4, HE.out.1, HNL, HZ4, HP6, Lies.empty HE.out.2, HO6, HNX, hb6⟩
        case measure => simp [lenV]; omega
      · have hcm2 : ¬ c2 - m = 0 := by omega
        have HE := Lib.hid (show n2 - m ≤ c2 - m from by omega)
        go_wp2
        go_roundw
        case rel => exact ⟨A4, n4, c4, L3, some (ad.add (m * 4)), n2 - m, c2 - m, l2.drop m, _, all ++ l1.take Z ++ pairOf key o, by first | rfl | trivial, by first | rfl | trivial, hc4, HE.out, HNL, HZ4, HP6, HN6.out.drop m, HO6, HNX, hb6⟩
        case measure => simp [lenV]; omega
    · have h20 : n2 = 0 := by omega
      have h2e : l2 = [] := List.length_eq_zero_iff.1 (by rw [HNUM.out.2.1]; exact h20)
      have HFF := Lib.hid (show all ++ l1 = F from by have h1 := HPL.out.2.2; rw [h2e] at h1; exact h1)
      have H20 := Lib.hid h20
      clear h20 h2e
      have hown9 := HOWN.out
      go_upto_region 15 with fail
      go_wp2_with (at_builtin; refine append_prs _ rfl _ _ rfl w.heap.size _ n5 _ rfl hown9 w.heap.size A1 n1 c1 l1 rfl ?d1 ?d2 ?d3 ?d4 hbs ?_)
      case d1 => exact HNUM.out.1
      case d2 => exact HPA.out
      case d3 => exact HZA.out
      case d4 => have := HNUM.out; omega
      intro v' w2 hown2 hg2
      have hk : ∀ k, Value.ownBlock _ = some k → w.heap.size ≤ k := fun k hk => (HOWN.out.lt k hk).1
      have hb2 : Below w.heap.size w w2 := hbr.grown hg2 hbs hk
      have H2 := Lib.hid hown2
      clear hown2 hg2 hk
      go_wp2
      go_ret
      exact ⟨v', rfl, by rw [← HFF.out, List.length_append, HNUM.out.1, HNUM.out.2.2.1, List.flatMap_append]; exact H2.out, hb2⟩

end Go.Proofs.Ytgpjbajfkagdbaa
