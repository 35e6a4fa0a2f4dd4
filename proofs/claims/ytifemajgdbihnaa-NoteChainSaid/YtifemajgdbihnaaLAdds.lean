/- The walk of the law NoteAdds. -/
import Derived.Test.YtifemajgdbihnaaAwake
import Derived.Test.YtifemajgdbihnaaNv
import Derived.Test.YtifemajgdbihnaaOpenN
namespace Go.Proofs.Ytifemajgdbihnaa
open Go.RowKit

/-- Two rows of the call's own that lie in unlike blocks. -/
def Apart2 (a b : Value) : Prop := b.ownBlock = none ∨ b.ownBlock ≠ a.ownBlock
theorem Apart2.symm {a b : Value} (h : Apart2 a b) : Apart2 b a := by
  unfold Apart2 at *
  cases ha : a.ownBlock with
  | none => exact .inl rfl
  | some g =>
    right
    rcases h with h | h
    · rw [h]; simp
    · rw [ha] at h; exact fun e => h e.symm
theorem own_lt {w : World} {base e k n : Nat} {b : Value} {xs : List Value} (h : w.ownsRow base e k b n xs) {g : Nat} (hg : b.ownBlock = some g) : base ≤ g ∧ g < w.heap.size := by
  obtain ⟨A, c, rfl⟩ := own_shape h
  exact h.lt g hg
theorem Apart2.grow {w : World} {base e k n : Nat} {a a' b : Value} {xs : List Value} (h : Apart2 a b) (hb : w.ownsRow base e k b n xs) (hat : a'.ownBlock = a.ownBlock ∨ a'.ownBlock = some w.heap.size) : Apart2 a' b := by
  unfold Apart2 at *
  rcases hat with e | e
  · rw [e]; exact h
  · cases hbb : b.ownBlock with
    | none => exact .inl rfl
    | some g =>
      right
      have := own_lt hb hbb
      rw [e]
      intro h
      injection h with h
      omega

/-- 'append(v, x)', v a row of notes of the call's own, x a note that lies in a literal. -/
theorem append_note (w : World) {ops : Array Oper} {rest : List Oper} {o : Oper} {a : Act} {Q : Exit → Act → World → Prop} (hgd : o.guard = none) (s x : Operand)
    (ho : o.op = .call { callee := .builtin .append, args := #[s, x], argTypes := #[33, 33] })
    (base : Nat) (v : Value) (n : Nat) (xs : List Value) (hs : a.eval s = v) (hown : w.ownsRow base 24 4 v n xs)
    (B g : Nat) (y : Nt) (hx : a.eval x = .slice (some ⟨g, 0, none⟩) 1 1) (hr : Nts w B (some ⟨g, 0, none⟩) [y]) (hn : n ≤ 100000) (hbase : base ≤ w.heap.size)
    (h : ∀ v' w', w'.ownsRow base 24 4 v' (n + 1) (xs ++ y.cells) → w.grownBy w' v.ownBlock → (v'.ownBlock = v.ownBlock ∨ v'.ownBlock = some w.heap.size) → wpList Try.prog ops Q rest (a.put o.dst v') w') : wpList Try.prog ops Q (o :: rest) a w := by
  obtain ⟨i0, hi0, hz0, hz1, hz2⟩ := info_parts note_info
  exact wpList_append_own_at w hgd s x 33 ho base 24 i0 (.agg #[.int .i64 0, .string ⟨#[]⟩, .string ⟨#[]⟩, .int .u64 0]) 4 48 Try.underlying33 hi0 hz0 hz1 hz2 rfl (by decide) v n xs hs hown ⟨g, 0, none⟩ 1 1 y.cells hx rfl
    (fun j u hu => nts_cells hr j u (by simpa using hu)) (fun u hu => nts_plain [y] u (by simpa using hu)) (by unfold maxLen; omega) (by omega) hbase (fun v' w' h1 h2 _ h4 => h v' w' h1 h2 h4)

def adds (l : List UInt64) : List Value := (l.map addN).flatMap Nt.cells
theorem adds_snoc (l : List UInt64) (n : UInt64) : adds (l ++ [n]) = adds l ++ (addN n).cells := by
  unfold adds
  rw [List.map_append, List.flatMap_append]
  simp
theorem adds_take (l : List UInt64) (k : Nat) (x : UInt64) (h : l[k]? = some x) : adds (l.take (k + 1)) = adds (l.take k) ++ (addN x).cells := by
  obtain ⟨hk, rfl⟩ := List.getElem?_eq_some_iff.1 h
  rw [List.take_succ_eq_append_getElem hk, adds_snoc]
theorem add_lit (w : World) (n : UInt64) {g : Nat} (hg : g = w.heap.size) : Nts (w.alloc (.cells #[.int .i64 3, .string ⟨#[]⟩, .string ⟨#[]⟩, .int .u64 (n.toNat : Int)] 24)) (w.heap.size + 1) (some ⟨g, 0, none⟩) [addN n] := nts_one w (addN n) hg
theorem own_nv {w : World} {base k : Nat} {v : Value} {l : List UInt64} (hl : k = l.length) (h : w.ownsRow base 24 4 v k (adds l)) : NV w v (l.map addN) := by
  subst hl
  obtain ⟨A, c, rfl⟩ := own_shape h
  have e : l.length = (l.map addN).length := by simp
  refine ⟨A, c, by rw [← e], Lies.own Nt.cells4 (c := c) (n := l.length) (e := 24) (base := base) ?_⟩
  rw [← e]
  exact h
theorem sum_u64 (x y : UInt64) : IntKind.u64.wrap ((x.toNat : Int) + (y.toNat : Int)) = ((x + y).toNat : Int) := u64_add x y

theorem done_del (v : ByteArray) (has : Bool) (w : World) (g : Nat) (hg : g = w.heap.size) :
    Calls Try.prog 10 #[.string v, .bool has, .slice (some ⟨g, 0, none⟩) 1 1] (w.alloc (.cells #[.int .i64 2, .string ⟨#[]⟩, .string ⟨#[]⟩, .int .u64 0] 24))
      fun e w' => e = .returned (.tuple #[.string ⟨#[]⟩, .bool false]) ∧ Below w.heap.size w w' := by
  have h := done_lit1 v has ⟨2, noB, noB, 0⟩ w g hg
  rw [done_one, step2 _ _ rfl] at h
  exact h

set_option maxHeartbeats 4000000 in
set_option maxRecDepth 100000 in
theorem adds_walk (s0 : ByteArray) (has : Bool) (A : Option Addr) (c : Nat) (l : List UInt64) (d : Nat) (w : World) (hA : Nums w w.heap.size A l) (hn : l.length ≤ maxLen) (hd : d < 256) :
    Calls Try.prog 4 #[.string s0, .bool has, .slice A l.length c, .int .u8 d] w fun e w' => e = .returned (.bool true) ∧ Below w.heap.size w w' := by
  unfold maxLen at hn
  by_cases hok : (s0.size ≤ 300 ∧ l.length ≤ 60) ∧ l ≠ []
  · obtain ⟨⟨g1, g2⟩, g3⟩ := hok
    have hd1 : decide (300 < (s0.size : Int)) = false := by simp; omega
    have hpos : 0 < l.length := List.length_pos_iff.2 g3
    have hsum := turned_sum l d
    have hdone := fun w u h => done_nv s0 has (u := u) (l := l.map addN) (w := w) h (by simp [maxLen]; omega)
    have hdone2 := fun w u h => done_nv s0 has (u := u) (l := (turned l d).map addN) (w := w) h (by simp [maxLen, turned_length]; omega)
    rw [adds_done s0 has l g3] at hdone
    rw [adds_done s0 has (turned l d) (by intro e; have := congrArg List.length e; rw [turned_length, List.length_nil] at this; omega), hsum] at hdone2
    have hadd := fun k x (h : l[k]? = some x) => adds_take l k x h
    have hadd2 := fun k x (h : (turned l d)[k]? = some x) => adds_take (turned l d) k x h
    have hsu := fun k x (h : l[k]? = some x) => (show sumU (l.take (k + 1)) = sumU (l.take k) + x by obtain ⟨hk, rfl⟩ := List.getElem?_eq_some_iff.1 h; exact sumU_take l k hk)
    have hta : ∀ k, k < l.length → (turned l d)[k]? = some (l.getD ((l.length - k + d) % l.length) 0) := fun k hk => by
      rw [List.getElem?_eq_getElem (by rw [turned_length]; exact hk), turned_at l d k hk]
    generalize hl : l.length = n at *
    have hne : ((n : Int) == 0) = false := by simp; omega
    have hd2 : decide (60 < (n : Int)) = false := by simp; omega
    have HL := Lib.hid hl
    have HA := Lib.hid hA
    have HADD := Lib.hid hadd
    have HADD2 := Lib.hid hadd2
    have HSU := Lib.hid hsu
    have HTA := Lib.hid hta
    clear hl hA hadd hadd2 hsu hta hsum g3
    obtain ⟨T, hT⟩ : ∃ T : UInt64, T = (if has then numB s0 else 0) + sumU l := ⟨_, rfl⟩
    rw [← hT] at hdone hdone2
    have HT := Lib.hid hT
    clear hT
    go_enter Try.func4, Try.ntmps4
    go_upto_if 34 with fail
    go_cut [11] (fun v wx => v = .int .u64 ((if has then numB s0 else 0 : UInt64).toNat : Int) ∧ Below w.heap.size w wx)
    case first =>
      cases has with
      | true =>
        go_wp2_with fail
        refine (number_any s0 _).mono ?_
        rintro e w1 ⟨rfl, hb1⟩
        go_wp2
        go_meet
        case rel => exact ⟨by first | rfl | trivial, hb1⟩
      | false =>
        go_wp2
        go_meet
        case rel => exact ⟨by first | rfl | trivial, Below.refl _ _⟩
    case rest =>
      obtain ⟨rfl, hb0⟩ := hcut
      obtain ⟨S0, hS0⟩ : ∃ S0 : UInt64, S0 = (if has then numB s0 else 0) := ⟨_, rfl⟩
      rw [← hS0] at HT ⊢
      clear hS0
      go_wp2
      go_loopw [9, 10, 11, 39] (fun a b sv i wr => ∃ k : Nat, i = .int .i64 k ∧ k ≤ n ∧ sv = .int .u64 ((S0 + sumU (l.take k)).toNat : Int) ∧ wr.ownsRow w.heap.size 24 4 a k (adds (l.take k)) ∧ wr.ownsRow w.heap.size 24 4 b k (adds ((turned l d).take k)) ∧ Apart2 a b ∧ Below w.heap.size w wr) (fun _ _ _ i _ => (n - intOf i).toNat)
      case atStart => exact ⟨0, rfl, by omega, by rw [List.take_zero, show sumU [] = 0 from rfl, UInt64.add_zero], World.ownsRow_nil _ _ _ _, World.ownsRow_nil _ _ _ _, .inl rfl, hb0⟩
      case round =>
        obtain ⟨k, rfl, hk, rfl, hoa, hob, hap, hbr⟩ := hrel
        by_cases hlt : k < n
        · obtain ⟨ad, rfl, hab, hca⟩ := (HA.out.below hbr).seeU (by rw [HL.out]; omega)
          have c1 := hca k (by rw [HL.out]; omega)
          obtain ⟨x, hx⟩ : ∃ x, x = l[k]'(by rw [HL.out]; omega) := ⟨_, rfl⟩
          have hxk : l[k]? = some x := by rw [hx]; exact List.getElem?_eq_getElem _
          rw [← hx] at c1
          obtain ⟨j, hj⟩ : ∃ j, j = (n - k + d) % n := ⟨_, rfl⟩
          have hjn : j < n := by rw [hj]; exact Nat.mod_lt _ hpos
          have hty := HTA.out k hlt
          rw [← hj, getD_at l j (by rw [HL.out]; exact hjn)] at hty
          obtain ⟨y, hy⟩ : ∃ y, y = l[j]'(by rw [HL.out]; omega) := ⟨_, rfl⟩
          rw [← hy] at hty
          have HCY := Lib.hid (fun (wx : World) (h : Below w.heap.size w wx) => show wx.cell? (ad.add j) = some (.int .u64 (y.toNat : Int)) by
            obtain ⟨ad2, e, _, hc2⟩ := (HA.out.below h).seeU (by rw [HL.out]; omega)
            injection e with e
            subst e
            have := hc2 j (by rw [HL.out]; exact hjn)
            rwa [← hy] at this)
          have hEA := HADD.out k x hxk
          have hEB := HADD2.out k y hty
          have hES := HSU.out k x hxk
          have hrem : ((n : Int) - (k : Int) + (d : Int)).tmod (n : Int) = (j : Int) := by
            have e : ((n : Int) - (k : Int) + (d : Int)) = ((n - k + d : Nat) : Int) := by omega
            rw [e, hj]
            rfl
          have HEA := Lib.hid hEA
          have HEB := Lib.hid hEB
          have HES := Lib.hid hES
          have hlt3 : ad.block < w.heap.size := hab
          clear hx hy hty hj hca hxk hEA hEB hES
          obtain ⟨sk, hsk⟩ : ∃ sk, sk = S0 + sumU (l.take k) := ⟨_, rfl⟩
          have HSK := Lib.hid hsk
          have hsx := sum_u64 sk x
          rw [← hsk]
          clear hsk
          generalize adds (l.take k) = xsA at *
          generalize adds ((turned l d).take k) = xsB at *
          have hz := hbr.size
          go_wp2_with (at_builtin; refine append_note _ rfl _ _ rfl w.heap.size _ k _ rfl (hoa.alloc _) (wr.heap.size + 1) wr.heap.size (addN x) rfl (add_lit wr x rfl) (by omega) ?cz ?_)
          case cz => simp; omega
          intro a1 w1 hoa1 hg1 hat1
          have hb1 : Below w.heap.size w w1 := (hbr.alloc hbr.size _).grown hg1 (by simp; omega) (fun g hk => (own_lt hoa hk).1)
          have hob1 := (hob.alloc (.cells #[.int .i64 3, .string ⟨#[]⟩, .string ⟨#[]⟩, .int .u64 (x.toNat : Int)] 24)).kept hg1 hap
          have hap1 := hap.grow (hob.alloc (.cells #[.int .i64 3, .string ⟨#[]⟩, .string ⟨#[]⟩, .int .u64 (x.toNat : Int)] 24)) (by simpa using hat1)
          have c2 := HCY.out w1 hb1
          have HA1 := Lib.hid hoa1
          have HAP1 := Lib.hid hap1
          have hz1 := hb1.size
          clear hoa hob hap hg1 hat1 c1 hoa1 hap1
          go_wp2_with (at_builtin; refine append_note _ rfl _ _ rfl w.heap.size _ k _ rfl (hob1.alloc _) (w1.heap.size + 1) w1.heap.size (addN y) rfl (add_lit w1 y rfl) (by omega) ?cy ?_)
          case cy => simp; omega
          intro b1 w2 hob2 hg2 hat2
          have hb2 : Below w.heap.size w w2 := (hb1.alloc hb1.size _).grown hg2 (by simp; omega) (fun g hk => (own_lt hob1 hk).1)
          have hoa2 := (HA1.out.alloc (.cells #[.int .i64 3, .string ⟨#[]⟩, .string ⟨#[]⟩, .int .u64 (y.toNat : Int)] 24)).kept hg2 HAP1.out.symm
          have hap2 := (HAP1.out.symm.grow (HA1.out.alloc (.cells #[.int .i64 3, .string ⟨#[]⟩, .string ⟨#[]⟩, .int .u64 (y.toNat : Int)] 24)) (by simpa using hat2)).symm
          rw [← HEA.out] at hoa2
          rw [← HEB.out] at hob2
          have HO := Lib.hid hoa2
          have HP := Lib.hid hob2
          have HQ := Lib.hid hap2
          have HB := Lib.hid hb2
          clear hob1 hg2 hat2 c2 hoa2 hob2 hap2 HA1 HAP1 HCY HEA HEB hb1 hb2 hrem
          go_wp2
          go_roundw
          case rel => exact ⟨k + 1, by go_num, by omega, by rw [HES.out, ← UInt64.add_assoc, ← HSK.out, UInt64.toNat_add]; simp, HO.out, HP.out, HQ.out, HB.out⟩
          case measure => simp [intOf]; omega
        · have hkn : k = n := by omega
          subst hkn
          rw [← HL.out, List.take_length] at hoa
          rw [← HL.out, ← turned_length l d, List.take_length] at hob
          have HNA := Lib.hid (own_nv rfl hoa)
          have HNB := Lib.hid (own_nv rfl hob)
          have e : S0 + sumU (l.take k) = T := by rw [← HL.out, List.take_length]; exact HT.out.symm
          rw [e]
          obtain ⟨V, hV⟩ : ∃ V, V = be8 T := ⟨_, rfl⟩
          have hV8 : V.size = 8 := by rw [hV]; exact be8_size T
          have hVn : numB V = T := by rw [hV]; exact num_be8 T
          rw [← hV] at hdone hdone2
          have hnum := fun w => number_any V w
          rw [hVn] at hnum
          have hss := str_eq (rfl : V = V)
          clear hoa hob hap e hV hVn HADD HADD2 HSU HTA HT hlt
          go_wp2_with fail
          refine (hdone _ _ HNA.out).mono ?_
          clear hdone
          rintro e w1 ⟨rfl, hb1⟩
          have HNB1 := Lib.hid (HNB.out.on hb1)
          have hbr1 := hbr.trans (hb1.mono hbr.size)
          clear hbr hb1 HNA HNB
          go_wp2_with fail
          refine (hdone2 _ _ HNB1.out).mono ?_
          clear hdone2
          rintro e w2 ⟨rfl, hb2⟩
          have hbr2 := hbr1.trans (hb2.mono hbr1.size)
          clear hbr1 hb2 HNB1
          go_wp2_with fail
          refine (done_del V true w2 _ rfl).mono ?_
          rintro e w3 ⟨rfl, hb3⟩
          have hbr3 := hbr2.trans (hb3.mono hbr2.size)
          clear hbr2 hb3
          go_wp2_with fail
          refine (hnum _).mono ?_
          rintro e w4 ⟨rfl, hb4⟩
          have hbr4 := hbr3.trans (hb4.mono hbr3.size)
          clear hbr3 hb4
          go_wp2_with fail
          refine (awake_true _).mono ?_
          rintro e w5 ⟨rfl, hb5⟩
          go_wp2
          go_ret
          exact ⟨rfl, hbr4.trans (hb5.mono hbr4.size)⟩
  · have awk : ∀ w, Calls Try.prog 9 #[] w fun e w' => e = .returned (.bool true) ∧ Below w.heap.size w w' := awake_true
    generalize hl : l.length = n at *
    by_cases g1 : s0.size ≤ 300
    · have hd1 : decide (300 < (s0.size : Int)) = false := by simp; omega
      by_cases g2 : n ≤ 60
      · have hd2 : decide (60 < (n : Int)) = false := by simp; omega
        have hl0 : l = [] := Decidable.byContradiction fun h => hok ⟨⟨g1, g2⟩, h⟩
        subst hl0
        obtain rfl : n = 0 := hl.symm
        clear hok hA hl
        go_enter Try.func4, Try.ntmps4
        go_wp2_with fail
        refine (awk _).mono ?_
        rintro e w1 ⟨rfl, hb1⟩
        go_wp2
        go_ret
        exact ⟨rfl, hb1⟩
      · have hd2 : decide (60 < (n : Int)) = true := by simp; omega
        clear hok hA hl
        go_enter Try.func4, Try.ntmps4
        go_wp2_with fail
        refine (awk _).mono ?_
        rintro e w1 ⟨rfl, hb1⟩
        go_wp2
        go_ret
        exact ⟨rfl, hb1⟩
    · have hd1 : decide (300 < (s0.size : Int)) = true := by simp; omega
      clear hok hA hl
      go_enter Try.func4, Try.ntmps4
      go_wp2_with fail
      refine (awk _).mono ?_
      rintro e w1 ⟨rfl, hb1⟩
      go_wp2
      go_ret
      exact ⟨rfl, hb1⟩

end Go.Proofs.Ytifemajgdbihnaa
