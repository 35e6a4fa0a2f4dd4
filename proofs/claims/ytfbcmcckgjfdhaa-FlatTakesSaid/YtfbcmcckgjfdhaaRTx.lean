/- The walks of the document's begins and Texts. -/
import Derived.Test.YtfbcmcckgjfdhaaDt
set_option linter.unusedVariables false
set_option linter.unusedSimpArgs false
namespace Go.Proofs.Ytfbcmcckgjfdhaa
open Go.RowKit Go.Sort

set_option maxRecDepth 100000 in
set_option maxHeartbeats 1000000 in
theorem begins_any (s t : ByteArray) (w : World) :
    Calls Try.prog 65 #[.string s, .string t] w fun e w' => e = .returned (.bool (beginsB s t)) ∧ Below w.heap.size w w' := by
  obtain ⟨R, hR⟩ : ∃ R, R = beginsB s t := ⟨_, rfl⟩
  rw [← hR]
  unfold beginsB at hR
  by_cases h : t.size ≤ s.size
  · rw [decide_eq_true h, Bool.true_and, ← str_eqd] at hR
    have hd : decide ((t.size : Int) ≤ (s.size : Int)) = true := by simp; omega
    have hd2 : decide (t.size ≤ s.size) = true := by simp; omega
    have hi : (t.size : Int) ≤ (s.size : Int) := by omega
    obtain ⟨u, hu⟩ : ∃ u, s.extract 0 t.size = u := ⟨_, rfl⟩
    rw [hu] at hR
    obtain ⟨b, hb⟩ : ∃ b, (u.toList == t.toList) = b := ⟨_, rfl⟩
    rw [hb] at hR
    subst hR
    go_enter Try.func65, Try.ntmps65
    go_wp2
    go_ret
    exact ⟨rfl, Below.refl _ _⟩
  · rw [decide_eq_false h, Bool.false_and] at hR
    have hd : decide ((t.size : Int) ≤ (s.size : Int)) = false := by simp; omega
    have hd2 : decide (t.size ≤ s.size) = false := by simp; omega
    subst hR
    go_enter Try.func65, Try.ntmps65
    go_wp2
    go_ret
    exact ⟨rfl, Below.refl _ _⟩

theorem str_info : (Try.prog.info? 9).map (fun i => (i.zero, i.size, i.bytes)) = some (some (.string ⟨#[]⟩), 1, 16) := by kernel_rfl
/-- 'append(v, x)', v a row of strings of the call's own, x a literal slice of one. -/
theorem push_str (w : World) {ops : Array Oper} {rest : List Oper} {o : Oper} {a : Act} {Q : Exit → Act → World → Prop} (hgd : o.guard = none) (s x : Operand)
    (ho : o.op = .call { callee := .builtin .append, args := #[s, x], argTypes := #[83, 83] })
    (base : Nat) (v : Value) (n : Nat) (xs : List Value) (hs : a.eval s = v) (hown : w.ownsRow base 9 1 v n xs)
    (g : Nat) (r : ByteArray) (hx : a.eval x = .slice (some ⟨g, 0, none⟩) 1 1) (hbx : Box w g 9 #[.string r]) (hn : n ≤ 100000) (hbase : base ≤ w.heap.size)
    (h : ∀ v' w', w'.ownsRow base 9 1 v' (n + 1) (xs ++ [.string r]) → w.grownBy w' v.ownBlock → wpList Try.prog ops Q rest (a.put o.dst v') w') : wpList Try.prog ops Q (o :: rest) a w := by
  obtain ⟨i0, hi0, hz0, hz1, hz2⟩ := info_parts str_info
  refine wpList_append_own w hgd s x 83 ho base 9 i0 (.string ⟨#[]⟩) 1 16 Try.underlying83 hi0 hz0 hz1 hz2 rfl (by decide) v n xs hs hown ⟨g, 0, none⟩ 1 1 [.string r] hx rfl ?_ (by intro u hu; simp at hu; subst hu; rfl) (by unfold maxLen; omega) (by omega) hbase (fun v' w' h1 h2 _ => h v' w' h1 h2)
  intro j u hu
  have h3 := Box.cell hbx j (v := u) (by simpa using hu)
  rw [Addr.add_lit, Nat.zero_add]
  exact h3

/-- A value that is a slice of these strings. -/
def TV (w : World) (v : Value) (ts : List ByteArray) : Prop := ∃ A c, v = .slice A ts.length c ∧ Strs w w.heap.size A ts
theorem TV.on {w w' : World} {v : Value} {ts : List ByteArray} (h : TV w v ts) (hb : Below w.heap.size w w') : TV w' v ts := by
  obtain ⟨A, c, e, hs⟩ := h
  exact ⟨A, c, e, (hs.below hb).more hb.size⟩
theorem TV.nil (w : World) : TV w (.slice none 0 0) [] := ⟨none, 0, rfl, Strs.nil _ _ _⟩
theorem TV.own {w : World} {base n : Nat} {v : Value} {ts : List ByteArray} (h : w.ownsRow base 9 1 v n (ts.map Value.string)) (hn : n = ts.length) : TV w v ts := by
  subst hn
  obtain ⟨A, c, rfl⟩ := own_shape h
  refine ⟨A, c, rfl, fun hl => ?_⟩
  rcases h.2 with ⟨_, h0⟩ | ⟨g, cap, cur, hv, hbg, hg, _⟩
  · omega
  · injection hv with hA
    subst hA
    refine ⟨_, rfl, (h.lt g rfl).2, fun i hi => ?_⟩
    exact h.cells (g := g) rfl i _ (by simp [List.getElem?_map, hi])

/-- What Texts answers. -/
def tT (s : ByteArray) (l : List Nat) : List ByteArray := match textsT s l with
  | some q => q.1
  | none => []
theorem tT_some {s : ByteArray} {l : List Nat} {ts : List ByteArray} {r : ByteArray} (h : textsT s l = some (ts, r)) : tT s l = ts ∧ (textsT s l).isSome = true := by unfold tT; rw [h]; exact ⟨rfl, rfl⟩
theorem tT_none {s : ByteArray} {l : List Nat} (h : textsT s l = none) : tT s l = [] ∧ (textsT s l).isSome = false := by unfold tT; rw [h]; exact ⟨rfl, rfl⟩

set_option maxRecDepth 100000 in
set_option maxHeartbeats 4000000 in
theorem dtexts_any (s : ByteArray) (l : List Nat) (ad : Addr) (n c : Nat) (w : World) (hln : l.length = n) (hab : ad.block < w.heap.size) (hA : ∀ (i : Nat) (h : i < l.length), w.cell? (ad.add i) = some (.int .i64 (l[i] : Int))) (hn : n ≤ 100) (hs : s.size ≤ maxLen) :
    Calls Try.prog 63 #[.string s, .slice (some ad) n c] w fun e w' => ∃ v, e = .returned (.tuple #[v, .bool (textsT s l).isSome]) ∧ TV w' v (tT s l) ∧ Below w.heap.size w w' := by
  obtain ⟨T, hT⟩ : ∃ T, T = tT s l := ⟨_, rfl⟩
  obtain ⟨E, hE⟩ : ∃ E, E = (textsT s l).isSome := ⟨_, rfl⟩
  rw [← hT, ← hE]
  have HNo := Lib.hid (show textsT s l = none → T = [] ∧ E = false from fun h => by rw [hT, hE]; exact tT_none h)
  have HYes := Lib.hid (show ∀ ts r, textsT s l = some (ts, r) → T = ts ∧ E = true from fun ts r h => by rw [hT, hE]; exact tT_some h)
  have HL := Lib.hid hln
  have HA := Lib.hid hA
  have HS := Lib.hid hs
  clear hT hE hln hA hs
  go_enter Try.func63, Try.ntmps63
  go_wp2
  go_loopw [0, 6, 7] (fun v0 v6 v7 wr => ∃ (k : Nat) (ts : List ByteArray) (r : ByteArray), v7 = .int .i64 k ∧ v0 = .string r ∧ k ≤ n ∧ Hid (textsT s (l.take k) = some (ts, r)) ∧ Hid (wr.ownsRow w.heap.size 9 1 v6 k (ts.map Value.string)) ∧ Below w.heap.size w wr) (fun _ _ v7 _ => (n - intOf v7).toNat)
  case atStart => exact ⟨0, [], s, rfl, rfl, by omega, textsT_zero s l, World.ownsRow_nil _ _ _ _, Below.refl _ _⟩
  case round =>
    obtain ⟨k, ts, r, rfl, rfl, hk, HT, HO, hbr⟩ := hrel
    have hrs : r.size ≤ maxLen := Nat.le_trans (textsT_len s _ _ _ _ _ HT.out).2 HS.out
    have HRS := Lib.hid hrs
    have htl := (textsT_len s _ _ _ _ _ HT.out).1
    by_cases hlt : k < n
    · have hkl : k < l.length := by rw [HL.out]; exact hlt
      have c1 := (hbr.cell (p := ad.add k) (by rw [block_of_add]; exact hab)).trans (HA.out k hkl)
      obtain ⟨a, ha⟩ : ∃ a, a = l[k]'hkl := ⟨_, rfl⟩
      rw [← ha] at c1
      have hst := textsT_take s l k hkl
      rw [HT.out, ← ha] at hst
      have HST := Lib.hid hst
      clear hst ha htl
      by_cases hal : a ≤ r.size
      case neg =>
        have hd : decide ((r.size : Int) < (a : Int)) = true := by simp; omega
        have hd2 : decide (r.size < a) = true := by simp; omega
        obtain ⟨e1, e2⟩ := HNo.out (textsT_stop s l (k + 1) (by rw [HST.out]; exact stepT_no (.inl hal)))
        have E1 := Lib.hid e1
        have E2 := Lib.hid e2
        clear e1 e2 hrs
        go_wp2
        go_ret2
        rw [E1.out, E2.out]
        exact ⟨_, rfl, TV.nil _, hbr⟩
      have hd : decide ((r.size : Int) < (a : Int)) = false := by simp; omega
      have hd2 : decide (r.size < a) = false := by simp; omega
      have hai : (a : Int) ≤ (r.size : Int) := by omega
      obtain ⟨u, hu⟩ : ∃ u, r.extract a r.size = u := ⟨_, rfl⟩
      have hus : u.size ≤ maxLen := by rw [← hu, ByteArray.size_extract]; omega
      have hc := fun w => rtt_any u w hus
      cases ho : ttOk u with
      | false =>
        have e0 : ttE u = 2 := by unfold ttE; rw [ho]; rfl
        rw [e0] at hc
        obtain ⟨e1, e2⟩ := HNo.out (textsT_stop s l (k + 1) (by rw [HST.out]; exact stepT_no (.inr (by rw [hu]; exact ho))))
        generalize ttT u = T1 at *
        generalize ttR u = R1 at *
        have HC := Lib.hid hc
        have E1 := Lib.hid e1
        have E2 := Lib.hid e2
        clear e1 e2 hrs hus hc e0 ho
        go_wp2_with fail
        refine (HC.out _).mono ?_
        rintro e w1 ⟨rfl, hb⟩
        have HB1 := Lib.hid (hbr.trans (hb.mono hbr.size))
        clear hb
        go_wp2
        go_ret2
        rw [E1.out, E2.out]
        exact ⟨_, rfl, TV.nil _, HB1.out⟩
      | true =>
        have e0 : ttE u = 0 := by unfold ttE; rw [ho]; rfl
        rw [e0] at hc
        have HN := Lib.hid (show textsT s (l.take (k + 1)) = some (ts ++ [ttT u], ttR u) from by rw [HST.out, stepT_yes hal (by rw [hu]; exact ho), hu])
        obtain ⟨T1, hT1⟩ : ∃ T1, T1 = ttT u := ⟨_, rfl⟩
        obtain ⟨R1, hR1⟩ : ∃ R1, R1 = ttR u := ⟨_, rfl⟩
        rw [← hT1, ← hR1] at hc
        rw [← hT1, ← hR1] at HN
        have HC := Lib.hid hc
        clear hrs hus hc e0 ho hT1 hR1
        go_wp2_with fail
        refine (HC.out _).mono ?_
        rintro e w1 ⟨rfl, hb⟩
        have HB1 := Lib.hid (hbr.trans (hb.mono hbr.size))
        have O1 := Lib.hid (own_below HO.out hb)
        clear hb HC HO hbr c1
        have hown := O1.out
        have hbs := HB1.out.size
        go_wp2_with (at_builtin; refine push_str _ rfl _ _ rfl w.heap.size _ k (ts.map Value.string) rfl (hown.alloc _) w1.heap.size T1 rfl (Box.fresh w1 _ _) ?a1 ?a2 ?_)
        case a1 => omega
        case a2 => simp; omega
        intro v' w2 hown2 hg2
        have hk2 : ∀ q, Value.ownBlock _ = some q → w.heap.size ≤ q := fun q hq => (hown.lt q hq).1
        have HB2 := Lib.hid ((HB1.out.alloc hbs _).grown hg2 (by simp; omega) hk2)
        have O2 := Lib.hid (show w2.ownsRow w.heap.size 9 1 v' (k + 1) ((ts ++ [T1]).map Value.string) from by
          show World.ownsRow _ _ _ _ _ _ _
          rw [List.map_append]
          simpa using hown2)
        clear hown hbs hown2 hg2 hk2 HB1 O1
        go_wp2
        go_roundw
        case rel => exact ⟨k + 1, _, R1, by go_num, by first | rfl | trivial, by omega, HN, O2, HB2.out⟩
        case measure => simp [intOf]; omega
    · have hkn : l.take k = l := List.take_of_length_le (by rw [HL.out]; omega)
      have h3 := HT.out
      rw [hkn] at h3
      rw [hkn, HL.out] at htl
      obtain ⟨e1, e2⟩ := HYes.out _ _ h3
      have E1 := Lib.hid e1
      have E2 := Lib.hid e2
      have HLE := Lib.hid (show k = ts.length from by simp at htl; omega)
      clear h3 hkn e1 e2 htl hrs
      go_wp2
      go_ret2
      rw [E1.out, E2.out]
      exact ⟨_, rfl, TV.own HO.out HLE.out, hbr⟩

end Go.Proofs.Ytfbcmcckgjfdhaa
