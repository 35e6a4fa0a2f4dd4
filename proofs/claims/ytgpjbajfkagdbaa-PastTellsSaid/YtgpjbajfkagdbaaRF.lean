/- The walk of the document's set: pairs with a key just so. -/
import Derived.Test.YtgpjbajfkagdbaaCD
import Derived.Test.YtgpjbajfkagdbaaRStep
import Derived.Test.YtgpjbajfkagdbaaApp
import Derived.Test.YtgpjbajfkagdbaaPh
set_option linter.unusedVariables false
set_option linter.unusedSimpArgs false
namespace Go.Proofs.Ytgpjbajfkagdbaa
open Go.RowKit

theorem less_iff {l : List Pr} (hs : Sorted l) {key : ByteArray} {i : Nat} (h : i < l.length) : l[i].k < key ↔ i < lessL l key := by
  have h1 := less_place hs i h
  constructor
  · intro h2
    rcases Nat.lt_or_ge i (lessL l key) with h3 | h3
    · exact h3
    · exfalso
      have h4 := drop_less hs key
      have h5 : l[i] ∈ l.drop (lessL l key) := by
        rw [List.mem_iff_getElem]
        exact ⟨i - lessL l key, by simp; omega, by rw [List.getElem_drop]; congr 1; omega⟩
      rw [h4] at h5
      have h6 := (List.mem_filter.1 h5).2
      simp only [decide_eq_true_eq] at h6
      grind
  · intro h2
    have h4 := take_less hs key
    have h5 : l[i] ∈ l.take (lessL l key) := by
      rw [List.mem_iff_getElem]
      exact ⟨i, by simp; omega, by rw [List.getElem_take]⟩
    rw [h4] at h5
    have h6 := (List.mem_filter.1 h5).2
    simpa using h6
/-- Is the key there? -/
def thereN (l : List Pr) (key : ByteArray) : Nat := if (getL l key).isSome then 1 else 0
theorem there_eq {l : List Pr} (hs : Sorted l) {key : ByteArray} {k : Nat} (hk : k < l.length) : l[k].k = key ↔ k = lessL l key ∧ thereN l key = 1 := by
  constructor
  · intro h
    have h1 := less_place hs k hk
    rw [h] at h1
    refine ⟨h1.symm, ?_⟩
    have h2 := (less_at hs key).2 ⟨by omega, by simp only [h1]; exact h⟩
    unfold thereN
    rw [h2]; rfl
  · rintro ⟨rfl, h⟩
    have h2 : (getL l key).isSome = true := by
      unfold thereN at h
      cases e : (getL l key).isSome with
      | true => rfl
      | false => rw [e] at h; simp at h
    obtain ⟨h3, h4⟩ := (less_at hs key).1 h2
    exact h4
/-- What there is behind the first k pairs. -/
def outK (l : List Pr) (key : ByteArray) (o : Option ByteArray) (k : Nat) : List Pr :=
  if k ≤ lessL l key then l.take k else l.take (lessL l key) ++ pairOf key o ++ (l.take k).drop (lessL l key + thereN l key)
theorem there_le (l : List Pr) (key : ByteArray) : thereN l key = 0 ∨ thereN l key = 1 := by unfold thereN; split <;> simp
theorem outK_low {l : List Pr} {key : ByteArray} {o : Option ByteArray} {k : Nat} (hk : k < l.length) (h : k < lessL l key) : outK l key o (k + 1) = outK l key o k ++ [l[k]] := by
  unfold outK
  rw [if_pos (by omega), if_pos (by omega), List.take_succ_eq_append_getElem hk]
theorem outK_at {l : List Pr} {key : ByteArray} {o : Option ByteArray} {k : Nat} (hk : k < l.length) (h : k = lessL l key) : outK l key o (k + 1) = outK l key o k ++ pairOf key o ++ (if thereN l key = 1 then [] else [l[k]]) := by
  subst h
  unfold outK
  rw [if_neg (by omega), if_pos (Nat.le_refl _)]
  congr 1
  rcases there_le l key with e | e
  · rw [e, Nat.add_zero, if_neg (by omega), List.take_succ_eq_append_getElem hk, List.drop_append_of_le_length (by simp; omega)]
    simp
  · rw [e, if_pos rfl]
    exact List.drop_of_length_le (by simp; omega)
theorem outK_high {l : List Pr} {key : ByteArray} {o : Option ByteArray} {k : Nat} (hk : k < l.length) (h : lessL l key < k) : outK l key o (k + 1) = outK l key o k ++ [l[k]] := by
  unfold outK
  have := there_le l key
  rw [if_neg (by omega), if_neg (by omega), List.take_succ_eq_append_getElem hk, List.drop_append_of_le_length (by simp; omega)]
  simp only [List.append_assoc]
theorem outK_end {l : List Pr} (hs : Sorted l) (key : ByteArray) (o : Option ByteArray) : outK l key o l.length ++ (if l.length ≤ lessL l key then pairOf key o else []) = setL l key o := by
  have hle := lessL_le l key
  have h1 : l.take (lessL l key) = l.filter fun p => decide (p.k < key) := take_less hs key
  have h2 : l.drop (lessL l key + thereN l key) = l.filter fun p => decide (key < p.k) := by
    unfold thereN
    cases hg : getL l key with
    | none => show l.drop (lessL l key + 0) = _; rw [Nat.add_zero, drop_less hs key, less_none key hg]
    | some v => exact (less_there hs key v hg).2.2
  unfold setL outK
  rw [← h1, ← h2]
  by_cases h : l.length ≤ lessL l key
  · rw [if_pos h, if_pos h, List.take_of_length_le (Nat.le_refl _), List.take_of_length_le h, List.drop_of_length_le (by omega), List.append_nil]
  · rw [if_neg h, if_neg h, List.take_of_length_le (Nat.le_refl l.length), List.append_nil]
theorem outK_len (l : List Pr) (key : ByteArray) (o : Option ByteArray) (k : Nat) : (outK l key o k).length ≤ l.length + 1 := by
  unfold outK
  have : (pairOf key o).length ≤ 1 := by cases o <;> simp [pairOf]
  have := lessL_le l key
  split
  · simp; omega
  · simp only [List.length_append, List.length_drop, List.length_take]; omega
def doneK (l : List Pr) (key : ByteArray) (has : Bool) (k : Nat) : Bool := !has || decide (lessL l key < k)
theorem cmp_lt {x y : ByteArray} (h : x < y) : Op.bytesLess x.toList y.toList = true ∧ Op.bytesLess y.toList x.toList = false ∧ (x.toList == y.toList) = false := by
  refine ⟨lt_iff.1 h, ?_, beq_eq_false_iff_ne.2 fun e => ?_⟩
  · cases e : Op.bytesLess y.toList x.toList with
    | false => rfl
    | true => have : y < x := lt_iff.2 e; grind
  · have := tl_inj e; subst this; grind
theorem cmp_eq (x : ByteArray) : Op.bytesLess x.toList x.toList = false ∧ (x.toList == x.toList) = true := ⟨bl_irrefl _, by simp⟩

set_option maxHeartbeats 8000000 in
set_option maxRecDepth 100000 in
theorem set_any (A : Option Addr) (c : Nat) (l : List Pr) (key : ByteArray) (has : Bool) (val : ByteArray) (w : World) (hA : Prs w w.heap.size A l) (hn : l.length ≤ 1000) (hs : Sorted l) :
    Calls Try.prog 39 #[.slice A l.length c, .string key, .bool has, .string val] w fun e w' => ∃ v, e = .returned v ∧ PV w' v (setL l key (if has then some val else none)) ∧ Below w.heap.size w w' := by
  obtain ⟨o, ho⟩ : ∃ o : Option ByteArray, o = (if has then some val else none) := ⟨_, rfl⟩
  rw [← ho]
  have HE := Lib.hid (outK_end hs key o)
  have HSS := Lib.hid hs
  have HA := Lib.hid hA
  have HO := Lib.hid ho
  obtain ⟨n, hl⟩ : ∃ n, l.length = n := ⟨_, rfl⟩
  rw [hl] at hn ⊢
  have HL := Lib.hid hl
  obtain ⟨L, hLL⟩ : ∃ L, lessL l key = L := ⟨_, rfl⟩
  have HLL := Lib.hid hLL
  have hbs := Nat.le_refl w.heap.size
  clear hl hs hA ho hLL
  go_enter Try.func39, Try.ntmps39
  go_wp2
  go_loopw [9, 10, 11] (fun v9 v10 vi wr => ∃ (k m : Nat), vi = .int .i64 k ∧ k ≤ n ∧ v10 = .bool (!has || decide (L < k)) ∧ Hid (wr.ownsRow w.heap.size 41 2 v9 m ((outK l key o k).flatMap Pr.cells)) ∧ Hid (m = (outK l key o k).length) ∧ Below w.heap.size w wr) (fun _ _ vi _ => (n - intOf vi).toNat)
  case atStart =>
    have h0 : outK l key o 0 = [] := by unfold outK; rw [if_pos (by omega)]; rfl
    refine ⟨0, 0, rfl, by omega, by simp, ?_, ?_, Below.refl _ _⟩
    · show World.ownsRow _ _ _ _ _ _ _
      rw [h0]; exact World.ownsRow_nil _ _ _ _
    · show _ = _
      rw [h0]; rfl
  case round =>
    obtain ⟨k, m, rfl, hk, rfl, HO9, HM, hbr⟩ := hrel
    have hbr2 := hbr.size
    have HM1 := Lib.hid (show m ≤ 1001 from by have := outK_len l key o k; rw [← HM.out, HL.out] at this; omega)
    by_cases hlt : k < n
    · have hkl : k < l.length := by rw [HL.out]; exact hlt
      obtain ⟨x, hx⟩ : ∃ x, x = l[k]'hkl := ⟨_, rfl⟩
      have HX := Lib.hid hx
      obtain ⟨ad, rfl, hab, hca0⟩ := (HA.out.below hbr).seeP (by rw [HL.out]; omega)
      obtain ⟨c1, c2⟩ := hca0 k hkl
      rw [← hx] at c1 c2
      have h3 := less_iff HSS.out (key := key) hkl
      have h4 := there_eq HSS.out (key := key) hkl
      rw [← hx, HLL.out] at h3 h4
      clear hx hca0
      obtain ⟨xk, xv⟩ := x
      simp only at c1 c2 h3 h4
      have own := HO9.out
      rcases Nat.lt_trichotomy k L with hkL | hkL | hkL
      · -- ahead of the key
        have hx := h3.2 hkL
        obtain ⟨b1, b2, b3⟩ := cmp_lt hx
        have HST := Lib.hid (show outK l key o (k + 1) = outK l key o k ++ [⟨xk, xv⟩] from by have := outK_low (o := o) hkl (by rw [HLL.out]; exact hkL); rw [← HX.out] at this; exact this)
        have hdn : decide (L < k) = false := decide_eq_false (by omega)
        have hdm : decide (L < k + 1) = false := decide_eq_false (by omega)
        rw [hdn]
        have HDD := Lib.hid hdm
        clear hdm
        clear h3 h4 hx hdn
        cases has with
        | true =>
          simp only [Bool.not_true, Bool.not_false, Bool.or_false, Bool.or_true, Bool.true_or, Bool.false_or]
          go_wp2_with (at_builtin; refine append_pair _ rfl _ _ rfl w.heap.size _ m ((outK l key o k).flatMap Pr.cells) rfl (own.alloc _) (wr.heap.size + 1) wr.heap.size ⟨xk, xv⟩ rfl ?a1 ?a2 ?a3 ?_)
          case a1 => exact Lies.lit Pr.cells2 rfl
          case a2 => have := HM1.out; omega
          case a3 => first | omega | (simp; omega)
          intro v' w5 hown5 hg5 hat
          have hk5 : ∀ k, Value.ownBlock _ = some k → w.heap.size ≤ k := fun k hk => (own_lt own hk).1
          have hb5 : Below w.heap.size w w5 := (hbr.alloc hbr2 _).grown hg5 (by simp; omega) hk5
          have H5 := Lib.hid (show w5.ownsRow w.heap.size 41 2 v' (m + 1) ((outK l key o (k + 1)).flatMap Pr.cells) from by
            show World.ownsRow _ _ _ _ _ _ _
            rw [HST.out, List.flatMap_append]; simpa using hown5)
          have HL5 := Lib.hid (show m + 1 = (outK l key o (k + 1)).length from by rw [HST.out, List.length_append, ← HM.out]; rfl)
          clear own hown5 hg5 hat hk5 c1 c2 HO9 hbr
          go_wp2
          go_roundw
          case rel => exact ⟨k + 1, m + 1, by go_num, by omega, by first | rfl | (simp [HDD.out]; done) | rw [HDD.out], H5, HL5, hb5⟩
          case measure => simp [intOf]; omega
        | false =>
          simp only [Bool.not_true, Bool.not_false, Bool.or_false, Bool.or_true, Bool.true_or, Bool.false_or]
          go_wp2_with (at_builtin; refine append_pair _ rfl _ _ rfl w.heap.size _ m ((outK l key o k).flatMap Pr.cells) rfl (own.alloc _) (wr.heap.size + 1) wr.heap.size ⟨xk, xv⟩ rfl ?a1 ?a2 ?a3 ?_)
          case a1 => exact Lies.lit Pr.cells2 rfl
          case a2 => have := HM1.out; omega
          case a3 => first | omega | (simp; omega)
          intro v' w5 hown5 hg5 hat
          have hk5 : ∀ k, Value.ownBlock _ = some k → w.heap.size ≤ k := fun k hk => (own_lt own hk).1
          have hb5 : Below w.heap.size w w5 := (hbr.alloc hbr2 _).grown hg5 (by simp; omega) hk5
          have H5 := Lib.hid (show w5.ownsRow w.heap.size 41 2 v' (m + 1) ((outK l key o (k + 1)).flatMap Pr.cells) from by
            show World.ownsRow _ _ _ _ _ _ _
            rw [HST.out, List.flatMap_append]; simpa using hown5)
          have HL5 := Lib.hid (show m + 1 = (outK l key o (k + 1)).length from by rw [HST.out, List.length_append, ← HM.out]; rfl)
          clear own hown5 hg5 hat hk5 c1 c2 HO9 hbr
          go_wp2
          go_roundw
          case rel => exact ⟨k + 1, m + 1, by go_num, by omega, by first | rfl | (simp [HDD.out]; done) | rw [HDD.out], H5, HL5, hb5⟩
          case measure => simp [intOf]; omega
      · -- at the key's place
        have hge : ¬ xk < key := fun h => by have := h3.1 h; omega
        have hdn : decide (L < k) = false := decide_eq_false (by omega)
        have hdm : decide (L < k + 1) = true := decide_eq_true (by omega)
        have hat0 := outK_at (o := o) hkl (by rw [HLL.out]; exact hkL)
        rw [← HX.out] at hat0
        rw [hdn]
        have HDD := Lib.hid hdm
        clear hdm
        by_cases he : xk = key
        · have h5 := (h4.1 he).2
          rw [if_pos h5] at hat0
          subst he
          obtain ⟨b1, b3⟩ := cmp_eq xk
          clear h3 h4 hge hdn h5 hkL
          cases has with
          | true =>
            simp only [Bool.not_true, Bool.not_false, Bool.or_false, Bool.or_true, Bool.true_or, Bool.false_or]
            have HST := Lib.hid (show outK l xk o (k + 1) = outK l xk o k ++ [⟨xk, val⟩] from by rw [hat0, HO.out]; simp [pairOf])
            clear hat0
            go_wp2_with (at_builtin; refine append_pair _ rfl _ _ rfl w.heap.size _ m ((outK l xk o k).flatMap Pr.cells) rfl (own.alloc _) (wr.heap.size + 1) wr.heap.size ⟨xk, val⟩ rfl ?a1 ?a2 ?a3 ?_)
            case a1 => exact Lies.lit Pr.cells2 rfl
            case a2 => have := HM1.out; omega
            case a3 => first | omega | (simp; omega)
            intro v' w5 hown5 hg5 hat
            have hk5 : ∀ k, Value.ownBlock _ = some k → w.heap.size ≤ k := fun k hk => (own_lt own hk).1
            have hb5 : Below w.heap.size w w5 := (hbr.alloc hbr2 _).grown hg5 (by simp; omega) hk5
            have H5 := Lib.hid (show w5.ownsRow w.heap.size 41 2 v' (m + 1) ((outK l xk o (k + 1)).flatMap Pr.cells) from by
              show World.ownsRow _ _ _ _ _ _ _
              rw [HST.out, List.flatMap_append]; simpa using hown5)
            have HL5 := Lib.hid (show m + 1 = (outK l xk o (k + 1)).length from by rw [HST.out, List.length_append, ← HM.out]; rfl)
            obtain ⟨d1, d2⟩ : w5.cell? ((ad.add (k * 2))) = some (.string xk) ∧ w5.cell? ⟨(ad.add (k * 2)).block, (ad.add (k * 2)).off + 1, none⟩ = some (.string xv) := by
              obtain ⟨ad', ea, _, hc'⟩ := (HA.out.below hb5).seeP (by omega)
              injection ea with ea
              rw [ea]
              have := hc' k hkl
              rw [← HX.out] at this
              exact this
            clear own hown5 hg5 hat hk5 c1 c2 HO9 hbr
            go_wp2
            go_roundw
            case rel => exact ⟨k + 1, m + 1, by go_num, by omega, by first | rfl | (simp [HDD.out]; done) | rw [HDD.out], H5, HL5, hb5⟩
            case measure => simp [intOf]; omega
          | false =>
            simp only [Bool.not_true, Bool.not_false, Bool.or_false, Bool.or_true, Bool.true_or, Bool.false_or]
            have hst : outK l xk o (k + 1) = outK l xk o k := by rw [hat0, HO.out]; simp [pairOf]
            have HST5 := Lib.hid (show wr.ownsRow w.heap.size 41 2 u9 m ((outK l xk o (k + 1)).flatMap Pr.cells) from by rw [hst]; exact own)
            have HSL5 := Lib.hid (show m = (outK l xk o (k + 1)).length from by rw [hst]; exact HM.out)
            clear hat0 hst
            clear own
            go_wp2
            go_roundw
            case rel => exact ⟨k + 1, m, by go_num, by omega, by first | rfl | (simp [HDD.out]; done) | rw [HDD.out], HST5, HSL5, hbr⟩
            case measure => simp [intOf]; omega
        · have h5 : thereN l key ≠ 1 := fun h => he (h4.2 ⟨hkL, h⟩)
          rw [if_neg h5] at hat0
          have hx : key < xk := by grind
          obtain ⟨b2, b1, b3⟩ := cmp_lt hx
          have b4 : (xk.toList == key.toList) = false := beq_eq_false_iff_ne.2 fun e => he (tl_inj e)
          clear h3 h4 hge hdn h5 hx he hkL
          cases has with
          | true =>
            simp only [Bool.not_true, Bool.not_false, Bool.or_false, Bool.or_true, Bool.true_or, Bool.false_or]
            have HST := Lib.hid (show outK l key o (k + 1) = outK l key o k ++ [⟨key, val⟩] ++ [⟨xk, xv⟩] from by rw [hat0, HO.out]; simp [pairOf])
            clear hat0
            go_wp2_with (at_builtin; refine append_pair _ rfl _ _ rfl w.heap.size _ m ((outK l key o k).flatMap Pr.cells) rfl (own.alloc _) (wr.heap.size + 1) wr.heap.size ⟨key, val⟩ rfl ?a1 ?a2 ?a3 ?_)
            case a1 => exact Lies.lit Pr.cells2 rfl
            case a2 => have := HM1.out; omega
            case a3 => first | omega | (simp; omega)
            intro v' w5 hown5 hg5 hat
            have hk5 : ∀ k, Value.ownBlock _ = some k → w.heap.size ≤ k := fun k hk => (own_lt own hk).1
            have hb5 : Below w.heap.size w w5 := (hbr.alloc hbr2 _).grown hg5 (by simp; omega) hk5
            have hb55 := hb5.size
            have own5 : w5.ownsRow w.heap.size 41 2 v' (m + 1) ((outK l key o k).flatMap Pr.cells ++ Pr.cells ⟨key, val⟩) := hown5
            obtain ⟨d1, d2⟩ : w5.cell? ((ad.add (k * 2))) = some (.string xk) ∧ w5.cell? ⟨(ad.add (k * 2)).block, (ad.add (k * 2)).off + 1, none⟩ = some (.string xv) := by
              obtain ⟨ad', ea, _, hc'⟩ := (HA.out.below hb5).seeP (by omega)
              injection ea with ea
              rw [ea]
              have := hc' k hkl
              rw [← HX.out] at this
              exact this
            clear own hown5 hg5 hat hk5 c1 c2 HO9 hbr
            go_wp2_with (at_builtin; refine append_pair _ rfl _ _ rfl w.heap.size _ (m + 1) ((outK l key o k).flatMap Pr.cells ++ Pr.cells ⟨key, val⟩) rfl (own5.alloc _) (w5.heap.size + 1) w5.heap.size ⟨xk, xv⟩ rfl ?a1 ?a2 ?a3 ?_)
            case a1 => exact Lies.lit Pr.cells2 rfl
            case a2 => have := HM1.out; omega
            case a3 => first | omega | (simp; omega)
            intro v6 w6 hown6 hg6 hat
            have hk6 : ∀ k, Value.ownBlock _ = some k → w.heap.size ≤ k := fun k hk => (own_lt own5 hk).1
            have hb6 : Below w.heap.size w w6 := (hb5.alloc hb55 _).grown hg6 (by simp; omega) hk6
            have H5 := Lib.hid (show w6.ownsRow w.heap.size 41 2 v6 (m + 1 + 1) ((outK l key o (k + 1)).flatMap Pr.cells) from by
              show World.ownsRow _ _ _ _ _ _ _
              rw [HST.out]; simpa using hown6)
            have HL5 := Lib.hid (show m + 1 + 1 = (outK l key o (k + 1)).length from by rw [HST.out]; simp [← HM.out])
            clear own5 hown6 hg6 hat hk6 d1 d2
            go_wp2
            go_roundw
            case rel => exact ⟨k + 1, m + 1 + 1, by go_num, by omega, by first | rfl | (simp [HDD.out]; done) | rw [HDD.out], H5, HL5, hb6⟩
            case measure => simp [intOf]; omega
          | false =>
            simp only [Bool.not_true, Bool.not_false, Bool.or_false, Bool.or_true, Bool.true_or, Bool.false_or]
            have HST := Lib.hid (show outK l key o (k + 1) = outK l key o k ++ [⟨xk, xv⟩] from by rw [hat0, HO.out]; simp [pairOf])
            clear hat0
            go_wp2_with (at_builtin; refine append_pair _ rfl _ _ rfl w.heap.size _ m ((outK l key o k).flatMap Pr.cells) rfl (own.alloc _) (wr.heap.size + 1) wr.heap.size ⟨xk, xv⟩ rfl ?a1 ?a2 ?a3 ?_)
            case a1 => exact Lies.lit Pr.cells2 rfl
            case a2 => have := HM1.out; omega
            case a3 => first | omega | (simp; omega)
            intro v' w5 hown5 hg5 hat
            have hk5 : ∀ k, Value.ownBlock _ = some k → w.heap.size ≤ k := fun k hk => (own_lt own hk).1
            have hb5 : Below w.heap.size w w5 := (hbr.alloc hbr2 _).grown hg5 (by simp; omega) hk5
            have H5 := Lib.hid (show w5.ownsRow w.heap.size 41 2 v' (m + 1) ((outK l key o (k + 1)).flatMap Pr.cells) from by
              show World.ownsRow _ _ _ _ _ _ _
              rw [HST.out, List.flatMap_append]; simpa using hown5)
            have HL5 := Lib.hid (show m + 1 = (outK l key o (k + 1)).length from by rw [HST.out, List.length_append, ← HM.out]; rfl)
            clear own hown5 hg5 hat hk5 c1 c2 HO9 hbr
            go_wp2
            go_roundw
            case rel => exact ⟨k + 1, m + 1, by go_num, by omega, by first | rfl | (simp [HDD.out]; done) | rw [HDD.out], H5, HL5, hb5⟩
            case measure => simp [intOf]; omega
      · -- behind the key
        have hge : ¬ xk < key := fun h => by have := h3.1 h; omega
        have hne : ¬ xk = key := fun h => by have := (h4.1 h).1; omega
        have hx : key < xk := by grind
        obtain ⟨b2, b1, b3⟩ := cmp_lt hx
        have b4 : (xk.toList == key.toList) = false := beq_eq_false_iff_ne.2 fun e => hne (tl_inj e)
        have hdn : decide (L < k) = true := decide_eq_true (by omega)
        have hdm : decide (L < k + 1) = true := decide_eq_true (by omega)
        have HST := Lib.hid (show outK l key o (k + 1) = outK l key o k ++ [⟨xk, xv⟩] from by have := outK_high (o := o) hkl (by rw [HLL.out]; exact hkL); rw [← HX.out] at this; exact this)
        rw [hdn, Bool.or_true]
        have HDD := Lib.hid hdm
        clear hdm
        clear h3 h4 hge hne hx hdn
        go_wp2_with (at_builtin; refine append_pair _ rfl _ _ rfl w.heap.size _ m ((outK l key o k).flatMap Pr.cells) rfl (own.alloc _) (wr.heap.size + 1) wr.heap.size ⟨xk, xv⟩ rfl ?a1 ?a2 ?a3 ?_)
        case a1 => exact Lies.lit Pr.cells2 rfl
        case a2 => have := HM1.out; omega
        case a3 => first | omega | (simp; omega)
        intro v' w5 hown5 hg5 hat
        have hk5 : ∀ k, Value.ownBlock _ = some k → w.heap.size ≤ k := fun k hk => (own_lt own hk).1
        have hb5 : Below w.heap.size w w5 := (hbr.alloc hbr2 _).grown hg5 (by simp; omega) hk5
        have H5 := Lib.hid (show w5.ownsRow w.heap.size 41 2 v' (m + 1) ((outK l key o (k + 1)).flatMap Pr.cells) from by
          show World.ownsRow _ _ _ _ _ _ _
          rw [HST.out, List.flatMap_append]; simpa using hown5)
        have HL5 := Lib.hid (show m + 1 = (outK l key o (k + 1)).length from by rw [HST.out, List.length_append, ← HM.out]; rfl)
        clear own hown5 hg5 hat hk5 c1 c2 HO9 hbr
        go_wp2
        go_roundw
        case rel => exact ⟨k + 1, m + 1, by go_num, by omega, by first | rfl | (simp [HDD.out]; done) | rw [HDD.out], H5, HL5, hb5⟩
        case measure => simp [intOf]; omega
    · obtain rfl : k = n := by omega
      have own := HO9.out
      by_cases hh : has = true ∧ k ≤ L
      · obtain ⟨rfl, hkL⟩ := hh
        have hdn : decide (L < k) = false := decide_eq_false (by omega)
        rw [hdn]
        simp only [Bool.not_true, Bool.not_false, Bool.or_false, Bool.or_true, Bool.true_or, Bool.false_or]
        have HST := Lib.hid (show setL l key o = outK l key o k ++ [⟨key, val⟩] from by
          have := HE.out
          rw [HL.out, HLL.out, if_pos hkL] at this
          rw [← this, HO.out]; simp [pairOf])
        go_wp2_with (at_builtin; refine append_pair _ rfl _ _ rfl w.heap.size _ m ((outK l key o k).flatMap Pr.cells) rfl (own.alloc _) (wr.heap.size + 1) wr.heap.size ⟨key, val⟩ rfl ?a1 ?a2 ?a3 ?_)
        case a1 => exact Lies.lit Pr.cells2 rfl
        case a2 => have := HM1.out; omega
        case a3 => first | omega | (simp; omega)
        intro v' w5 hown5 hg5 hat
        have hk5 : ∀ k, Value.ownBlock _ = some k → w.heap.size ≤ k := fun k hk => (own_lt own hk).1
        have hb5 : Below w.heap.size w w5 := (hbr.alloc hbr2 _).grown hg5 (by simp; omega) hk5
        have H5 := Lib.hid (show PV w5 v' (setL l key o) from PV.own (n := m + 1) (by rw [HST.out, List.flatMap_append]; simpa using hown5) (by rw [HST.out, List.length_append, ← HM.out]; rfl))
        clear own hown5 hg5 hat hk5 HO9 hbr
        go_wp2
        go_ret
        exact ⟨_, rfl, H5.out, hb5⟩
      · have hdn : (!has || decide (L < k)) = true := by
          cases has
          · rfl
          · rw [decide_eq_true (show L < k from by have : ¬ k ≤ L := fun h => hh ⟨rfl, h⟩; omega)]; rfl
        rw [hdn]
        have HST := Lib.hid (show setL l key o = outK l key o k from by
          have := HE.out
          rw [HL.out, HLL.out] at this
          rw [← this]
          by_cases h : k ≤ L
          · rw [if_pos h]
            have : has = false := by cases has; rfl; exact absurd ⟨rfl, h⟩ hh
            rw [HO.out, this]; simp [pairOf]
          · rw [if_neg h, List.append_nil])
        have H5 := Lib.hid (show PV wr u9 (setL l key o) from PV.own (n := m) (by rw [HST.out]; exact own) (by rw [HST.out]; exact HM.out))
        clear own hdn HO9
        go_wp2
        go_ret
        exact ⟨_, rfl, H5.out, hbr⟩

end Go.Proofs.Ytgpjbajfkagdbaa

namespace Go.Proofs.Ytgpjbajfkagdbaa
open Go.RowKit

set_option maxHeartbeats 2000000 in
set_option maxRecDepth 100000 in
theorem dright_pr (A : Option Addr) (c : Nat) (l : List Pr) (w : World) (hA : Prs w w.heap.size A l) (hn : l.length ≤ maxLen) :
    Calls Try.prog 22 #[.slice A l.length c] w fun e w' => e = .returned (.bool (wellL l)) ∧ Below w.heap.size w w' := by
  unfold maxLen at hn
  obtain ⟨R, hR⟩ : ∃ R, R = wellL l := ⟨_, rfl⟩
  rw [← hR]
  have HY := Lib.hid (show (∀ i (h : i < l.length), fitsP l[i] = true ∧ (0 < i → l[i - 1].k < l[i].k)) → R = true from fun h => by rw [hR]; exact (wellL_iff l).2 h)
  have HNo := Lib.hid (show ∀ i (h : i < l.length), ¬ (fitsP l[i] = true ∧ (0 < i → l[i - 1].k < l[i].k)) → R = false from fun i h hn => by rw [hR]; exact wellL_no i h hn)
  clear hR
  obtain ⟨n, hl⟩ : ∃ n, l.length = n := ⟨_, rfl⟩
  rw [hl] at hn ⊢
  have HL := Lib.hid hl
  have HA := Lib.hid hA
  clear hl hA
  go_enter Try.func22, Try.ntmps22
  go_wp2
  go_loopw [3] (fun i wr => ∃ (k : Nat), i = .int .i64 k ∧ k ≤ n ∧ Hid (∀ i (h : i < l.length), i < k → fitsP l[i] = true ∧ (0 < i → l[i - 1].k < l[i].k)) ∧ Below w.heap.size w wr) (fun i _ => (n - intOf i).toNat)
  case atStart => exact ⟨0, rfl, by omega, fun i h h0 => by omega, Below.refl _ _⟩
  case round =>
    obtain ⟨k, rfl, hk, HG, hbr⟩ := hrel
    by_cases hlt : k < n
    · obtain ⟨ad, rfl, hab, hca⟩ := (HA.out.below hbr).seeP (by rw [HL.out]; omega)
      have hkl : k < l.length := by rw [HL.out]; exact hlt
      obtain ⟨c1, c2⟩ := hca k hkl
      obtain ⟨x, hx⟩ : ∃ x, x = l[k]'hkl := ⟨_, rfl⟩
      rw [← hx] at c1 c2
      have HX := Lib.hid hx
      clear hx
      obtain ⟨xk, xv⟩ := x
      simp only at c1 c2
      have HCA := Lib.hid hca
      clear hca
      by_cases h16 : xk.size ≤ 16
      case neg =>
        have hd16 : decide (16 < (xk.size : Int)) = true := by simp; omega
        have HE := Lib.hid (HNo.out k hkl (fun h => h16 ((fitsP_iff ⟨xk, xv⟩).1 (by rw [HX.out]; exact h.1)).1))
        clear h16
        go_wp2
        go_ret
        rw [HE.out]
        exact ⟨rfl, hbr⟩
      have hd16 : decide (16 < (xk.size : Int)) = false := by simp; omega
      by_cases h32 : xv.size ≤ 32
      case neg =>
        have hd32 : decide (32 < (xv.size : Int)) = true := by simp; omega
        have HE := Lib.hid (HNo.out k hkl (fun h => h32 ((fitsP_iff ⟨xk, xv⟩).1 (by rw [HX.out]; exact h.1)).2))
        clear h32 h16
        go_wp2
        go_ret
        rw [HE.out]
        exact ⟨rfl, hbr⟩
      have hd32 : decide (32 < (xv.size : Int)) = false := by simp; omega
      have HF := Lib.hid (show fitsP (l[k]'hkl) = true by rw [← HX.out]; exact (fitsP_iff _).2 ⟨h16, h32⟩)
      clear h16 h32
      by_cases h0 : k = 0
      · have HG2 := Lib.hid (show ∀ i (h : i < l.length), i < k + 1 → fitsP l[i] = true ∧ (0 < i → l[i - 1].k < l[i].k) from fun i h h1 => by
          have : i = k := by omega
          subst this
          exact ⟨HF.out, by omega⟩)
        have hd0 : decide (0 < k) = false := decide_eq_false (by omega)
        have hd0' : decide (0 < (k : Int)) = false := decide_eq_false (by omega)
        clear HG h0
        go_wp2
        go_quiet (fail)
        go_wp2
        go_roundw
        case rel => exact ⟨k + 1, by go_num, by omega, HG2.out, below_drewN hbr _⟩
        case measure => simp [intOf]; omega
      · have hk1 : k - 1 < l.length := by omega
        obtain ⟨kp, hkp⟩ : ∃ kp, kp = k - 1 := ⟨_, rfl⟩
        have hkpl : kp < l.length := by omega
        have wk : IntKind.i64.wrap ((k : Int) - 1) = (kp : Int) := by rw [IntKind.wrap_i64]; omega
        have hkn : kp < n := by omega
        have HKP := Lib.hid hkp
        clear hkp
        have hcp := (HCA.out kp hkpl).1
        obtain ⟨pk, hpk⟩ : ∃ pk, pk = (l[kp]'hkpl).k := ⟨_, rfl⟩
        rw [← hpk] at hcp
        have e1 : (l[k - 1]'hk1).k = pk := by rw [hpk]; congr 2; exact HKP.out.symm
        have hd0 : decide (0 < k) = true := decide_eq_true (by omega)
        have hd0' : decide (0 < (k : Int)) = true := decide_eq_true (by omega)
        by_cases hkk : pk < xk
        · have hles : Op.bytesLess pk.toList xk.toList = true := lt_iff.1 hkk
          have HG2 := Lib.hid (show ∀ i (h : i < l.length), i < k + 1 → fitsP l[i] = true ∧ (0 < i → l[i - 1].k < l[i].k) from fun i h h1 => by
            by_cases hi : i < k
            · exact HG.out i h hi
            · have : i = k := by omega
              subst this
              exact ⟨HF.out, fun _ => by rw [e1, ← HX.out]; exact hkk⟩)
          clear HG hpk e1 hkk
          go_wp2
          go_quiet (fail)
          go_wp2
          go_roundw
          case rel => exact ⟨k + 1, by go_num, by omega, HG2.out, below_drewN hbr _⟩
          case measure => simp [intOf]; omega
        · have hles : Op.bytesLess pk.toList xk.toList = false := by
            have h1 : ltS pk xk = false := by rw [ltS_eq]; exact decide_eq_false hkk
            exact h1
          have HE := Lib.hid (HNo.out k hkl (fun h => hkk (by have := h.2 (by omega); rw [e1, ← HX.out] at this; exact this)))
          clear HG hpk e1 hkk
          go_wp2
          go_quiet (fail)
          go_wp2
          go_ret
          rw [HE.out]
          exact ⟨rfl, below_drewN hbr _⟩
    · have HE := Lib.hid (HY.out fun i h => HG.out i h (by rw [HL.out] at h; omega))
      go_wp2
      go_ret
      rw [HE.out]
      exact ⟨rfl, hbr⟩

/-- What Find answers. -/
def FoundAt (l : List Pr) (key : ByteArray) (z : Int) : Prop := (z = -1 ∧ ∀ p ∈ l, p.k ≠ key) ∨ ∃ i : Nat, z = i ∧ ∃ h : i < l.length, l[i].k = key
set_option maxHeartbeats 1000000 in
set_option maxRecDepth 100000 in
theorem dfind_any (A : Option Addr) (c : Nat) (l : List Pr) (key : ByteArray) (w : World) (hA : Prs w w.heap.size A l) (hn : l.length ≤ maxLen) :
    Calls Try.prog 15 #[.slice A l.length c, .string key] w fun e w' => ∃ z, e = .returned (.int .i64 z) ∧ FoundAt l key z ∧ Below w.heap.size w w' := by
  unfold maxLen at hn
  obtain ⟨n, hl⟩ : ∃ n, l.length = n := ⟨_, rfl⟩
  rw [hl] at hn ⊢
  have HL := Lib.hid hl
  have HA := Lib.hid hA
  clear hl hA
  go_enter Try.func15, Try.ntmps15
  go_wp2
  go_loopw [5] (fun i wr => ∃ (k : Nat), i = .int .i64 k ∧ k ≤ n ∧ Hid (∀ i (h : i < l.length), i < k → l[i].k ≠ key) ∧ Below w.heap.size w wr) (fun i _ => (n - intOf i).toNat)
  case atStart => exact ⟨0, rfl, by omega, fun i h h0 => by omega, Below.refl _ _⟩
  case round =>
    obtain ⟨k, rfl, hk, HG, hbr⟩ := hrel
    by_cases hlt : k < n
    · obtain ⟨ad, rfl, hab, hca⟩ := (HA.out.below hbr).seeP (by rw [HL.out]; omega)
      have hkl : k < l.length := by rw [HL.out]; exact hlt
      obtain ⟨c1, c2⟩ := hca k hkl
      obtain ⟨x, hx⟩ : ∃ x, x = (l[k]'hkl).k := ⟨_, rfl⟩
      rw [← hx] at c1
      have HX := Lib.hid hx
      clear hx hca c2
      by_cases hxk : x = key
      · subst hxk
        clear HG
        go_wp2
        go_ret
        exact ⟨_, rfl, .inr ⟨k, rfl, hkl, HX.out.symm⟩, hbr⟩
      · have hz := str_ne hxk
        have HG2 := Lib.hid (show ∀ i (h : i < l.length), i < k + 1 → l[i].k ≠ key from fun i h h1 => by
          by_cases hi : i < k
          · exact HG.out i h hi
          · have : i = k := by omega
            subst this
            rw [← HX.out]; exact hxk)
        clear HG hxk
        go_wp2
        go_roundw
        case rel => exact ⟨k + 1, by go_num, by omega, HG2.out, hbr⟩
        case measure => simp [intOf]; omega
    · have HE := Lib.hid (show FoundAt l key (-1) from .inl ⟨rfl, fun p hp => by
        obtain ⟨i, hi, rfl⟩ := List.getElem_of_mem hp
        exact HG.out i hi (by rw [HL.out] at hi; omega)⟩)
      go_wp2
      go_ret
      exact ⟨_, rfl, HE.out, hbr⟩

end Go.Proofs.Ytgpjbajfkagdbaa

namespace Go.Proofs.Ytgpjbajfkagdbaa
open Go.RowKit

theorem found_get {l : List Pr} (hs : Sorted l) {key : ByteArray} {z : Int} (h : FoundAt l key z) : (z = -1 ∧ getL l key = none) ∨ ∃ i : Nat, z = i ∧ ∃ h : i < l.length, getL l key = some l[i].v := by
  rcases h with ⟨h1, h2⟩ | ⟨i, h1, h2, h3⟩
  · exact .inl ⟨h1, getL_none h2⟩
  · refine .inr ⟨i, h1, h2, ?_⟩
    rw [← h3]; exact getL_mem hs i h2

theorem tl_beq (x y : ByteArray) : (x.toList == y.toList) = decide (x = y) := by
  rw [Bool.eq_iff_iff, beq_iff_eq, decide_eq_true_iff]
  exact ⟨tl_inj, fun e => by rw [e]⟩

set_option maxRecDepth 100000 in
set_option maxHeartbeats 4000000 in
theorem rfits_any {v : Value} {l : List Pr} (key : ByteArray) (has : Bool) (val : ByteArray) (w : World) (hv : PV w v l) (hn : l.length ≤ 100000) (hs : Sorted l) :
    Calls Try.prog 38 #[v, .string key, .bool has, .string val] w fun e w' => e = .returned (.bool (decide (getL l key = if has then some val else none))) ∧ Below w.heap.size w w' := by
  obtain ⟨R, hR⟩ : ∃ R, decide (getL l key = if has then some val else none) = R := ⟨_, rfl⟩
  rw [hR]
  obtain ⟨A, nl, cap, rfl, hnl⟩ : ∃ A n c, v = .slice A n c ∧ l.length = n := by obtain ⟨A, c, e, _⟩ := hv; exact ⟨A, _, c, e, rfl⟩
  have hfc : Calls Try.prog 15 #[.slice A nl cap, .string key] w fun e w3 => ∃ z, e = .returned (.int .i64 z) ∧ FoundAt l key z ∧ Below w.heap.size w w3 := by
    obtain ⟨A0, c0, e0, hp0, _⟩ := hv
    injection e0 with e1 e2 e3
    have := dfind_any A0 c0 l key w hp0 (by unfold maxLen; omega)
    rw [e1, e2, e3]; exact this
  have HFC := Lib.hid hfc
  have HV := Lib.hid hv
  have HS := Lib.hid hs
  have HR := Lib.hid hR
  have HNL := Lib.hid hnl
  have HN := Lib.hid hn
  clear hfc hv hs hR hnl hn
  go_enter Try.func38, Try.ntmps38
  go_wp2_with fail
  refine HFC.out.mono ?_
  rintro e w1 ⟨z, rfl, hz, hb⟩
  have HB := Lib.hid hb
  have HZ := Lib.hid (found_get HS.out hz)
  clear hz hb
  rcases HZ.out with ⟨rfl, hg⟩ | ⟨i, rfl, hi, hg⟩
  · have HF := Lib.hid (show (!has) = R from by
      rw [← HR.out, hg]
      cases has <;> simp)
    clear hg HZ
    go_wp2
    go_ret
    exact ⟨by first | rfl | (rw [← HF.out]; rfl), HB.out⟩
  · obtain ⟨ad, rfl, hab, hca0⟩ : ∃ ad, A = some ad ∧ ad.block < w1.heap.size ∧ ∀ (i : Nat) (h : i < l.length),
      w1.cell? (ad.add (i * 2)) = some (.string l[i].k) ∧ w1.cell? ⟨(ad.add (i * 2)).block, (ad.add (i * 2)).off + 1, none⟩ = some (.string l[i].v) := by
      obtain ⟨A0, c0, e0, hp0, _⟩ := HV.out.on HB.out
      injection e0 with e1 e2 e3
      subst e1
      exact hp0.seeP (by omega)
    obtain ⟨c1, c2⟩ := hca0 i hi
    have hin : i < nl := by rw [← HNL.out]; exact hi
    have hnl2 : nl ≤ 100000 := by rw [← HNL.out]; exact HN.out
    obtain ⟨x, hx⟩ : ∃ x, x = l[i]'hi := ⟨_, rfl⟩
    rw [← hx] at c1 c2 hg
    obtain ⟨xk, xv⟩ := x
    simp only at c1 c2 hg
    cases has with
    | false =>
      have HF := Lib.hid (show false = R from by rw [← HR.out, hg]; simp)
      clear hg HZ hca0 hx
      go_wp2
      go_ret
      exact ⟨by first | rfl | (rw [← HF.out]; rfl), HB.out⟩
    | true =>
      have HF := Lib.hid (show (xv.toList == val.toList) = R from by rw [← HR.out, hg, tl_beq]; simp)
      clear hg HZ hca0 hx
      go_wp2
      go_ret
      exact ⟨by first | rfl | (rw [← HF.out]; rfl), HB.out⟩

end Go.Proofs.Ytgpjbajfkagdbaa
