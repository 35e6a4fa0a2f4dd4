/- The walk of readPiece: what a piece tells. -/
import Derived.Test.YtdgjnjhmjgdhnaaDoorWHead
import Derived.Test.YtdgjnjhmjgdhnaaDoorWCut
namespace Go.Proofs.YtdgjnjhmjgdhnaaDoor
open Go.RowKit

/-! What is trimmed away. -/
theorem dw_nil {α : Type} (p : α → Bool) (l : List α) (h : l.dropWhile p = []) : ∀ x ∈ l, p x = true := by
  induction l with
  | nil => intro x hx; cases hx
  | cons a l ih =>
    intro x hx
    cases hp : p a with
    | false => rw [List.dropWhile_cons, hp] at h; cases h
    | true =>
      rw [List.dropWhile_cons, hp, if_pos rfl] at h
      rcases List.mem_cons.1 hx with rfl | hx
      · exact hp
      · exact ih h x hx
theorem dw_all {α : Type} (p : α → Bool) (l : List α) (h : ∀ x ∈ l, p x = true) : l.dropWhile p = [] := by
  induction l with
  | nil => rfl
  | cons a l ih =>
    rw [List.dropWhile_cons, h a List.mem_cons_self, if_pos rfl]
    exact ih fun x hx => h x (List.mem_cons_of_mem _ hx)
theorem dw_head {α : Type} (p : α → Bool) (l : List α) (x : α) (r : List α) (h : l.dropWhile p = x :: r) : p x = false := by
  induction l with
  | nil => cases h
  | cons a l ih =>
    cases hp : p a with
    | false =>
      rw [List.dropWhile_cons, hp] at h
      injection h with h1 _
      rw [← h1]
      exact hp
    | true =>
      rw [List.dropWhile_cons, hp, if_pos rfl] at h
      exact ih h
theorem trim_nil (l : List UInt8) (h : Lib.trimB l 0 = []) : l = List.replicate l.length 0 := by
  unfold Lib.trimB Lib.trimLeftB Lib.trimRightB at h
  have h1 := dw_nil _ _ h
  cases hy : l.reverse.dropWhile (· == 0) with
  | nil =>
    have h2 := dw_nil _ _ hy
    exact List.eq_replicate_iff.2 ⟨rfl, fun x hx => by simpa using h2 x (List.mem_reverse.2 hx)⟩
  | cons x r =>
    have h3 := dw_head _ _ _ _ hy
    have h4 := h1 x (by rw [hy]; simp)
    rw [h3] at h4
    cases h4
theorem trim_zeros (n : Nat) : Lib.trimB (List.replicate n 0) 0 = [] := by
  unfold Lib.trimB Lib.trimLeftB Lib.trimRightB
  have h := dw_all (· == 0) (List.replicate n (0 : UInt8)) (fun x hx => by rw [(List.mem_replicate.1 hx).2]; rfl)
  rw [List.reverse_replicate, h]
  rfl

/-- What readPiece tells. -/
def rdN (g a : Nat) (s : List UInt8) : Nat := if rdB g a s then leftN s else 0
def rdS (g a : Nat) (s : List UInt8) : ByteArray := if rdB g a s then ⟨(partL s).toArray⟩ else ⟨#[]⟩
theorem rd_no {g a : Nat} {s : List UInt8} (h : rdB g a s = false) : rdN g a s = 0 ∧ rdS g a s = ⟨#[]⟩ := by unfold rdN rdS; rw [h]; exact ⟨rfl, rfl⟩
theorem rd_len {g a : Nat} {s : List UInt8} (h : s.length ≠ 32) : rdB g a s = false := by unfold rdB; rw [decide_eq_false h]; rfl
theorem rd_great {g a : Nat} {s : List UInt8} (h : 1000 < leftN s) : rdB g a s = false := by unfold rdB; rw [decide_eq_false (show ¬ leftN s ≤ 1000 by omega)]; simp
theorem rd_head {g a : Nat} {s : List UInt8} (h : Lib.hasPrefix s (hdL g a (leftN s)) = false) : rdB g a s = false := by
  cases e : rdB g a s with
  | false => rfl
  | true =>
    obtain ⟨_, _, h3⟩ := rd_parts e
    exfalso
    have : Lib.hasPrefix s (hdL g a (leftN s)) = true := by
      unfold Lib.hasPrefix
      exact List.isPrefixOf_iff_prefix.2 ⟨_, h3.symm⟩
    rw [h] at this
    cases this
theorem rd_rest {s : List UInt8} (hs : s.length = 32) {g a : Nat} (hp : Lib.hasPrefix s (hdL g a (leftN s)) = true) : s = hdL g a (leftN s) ++ (partL s ++ s.drop (8 + min (leftN s) 24)) := by
  unfold Lib.hasPrefix at hp
  obtain ⟨m, hm⟩ := List.isPrefixOf_iff_prefix.1 hp
  have e : s.drop 8 = m := by
    rw [← hm, List.drop_append, List.drop_of_length_le (by rw [hd_len]; exact Nat.le_refl _), hd_len]
    simp
  unfold partL
  rw [← List.drop_drop, List.take_append_drop, e]
  exact hm.symm
theorem rd_dirt {s : List UInt8} {g a : Nat} (h : Lib.trimB (s.drop (8 + min (leftN s) 24)) 0 ≠ []) : rdB g a s = false := by
  cases e : rdB g a s with
  | false => rfl
  | true =>
    obtain ⟨h1, _, h3⟩ := rd_parts e
    exfalso
    apply h
    have hp := part_len h1
    have e2 : s.drop (8 + min (leftN s) 24) = List.replicate (24 - leftN s) 0 := by
      have e3 : s.drop 8 = partL s ++ List.replicate (24 - leftN s) 0 := by
        conv => lhs; rw [h3]
        rw [hd_drop]
      rw [← List.drop_drop, e3, List.drop_append, List.drop_of_length_le (by omega), hp, Nat.sub_self]
      rfl
    rw [e2]
    exact trim_zeros _
theorem rd_yes {s : List UInt8} (hs : s.length = 32) {g a : Nat} (hn : leftN s ≤ 1000) (hp : Lib.hasPrefix s (hdL g a (leftN s)) = true) (ht : Lib.trimB (s.drop (8 + min (leftN s) 24)) 0 = []) : rdB g a s = true := by
  have h1 := rd_rest hs hp
  have h2 := trim_nil _ ht
  rw [List.length_drop, hs, show 32 - (8 + min (leftN s) 24) = 24 - leftN s by omega] at h2
  rw [h2] at h1
  unfold rdB
  rw [decide_eq_true hs, decide_eq_true hn, decide_eq_true h1]
  rfl

set_option maxHeartbeats 4000000 in
set_option maxRecDepth 100000 in
theorem piece_any (g a : Nat) (s : ByteArray) (w : World) (hg : g ≤ 2147483647) (ha : a ≤ 65535) (hs : s.size ≤ maxLen) :
    Calls Tryd.prog 50 #[.int .i64 g, .int .i64 a, .string s] w fun e w' => e = .returned (.tuple #[.int .i64 (rdN g a s.data.toList), .string (rdS g a s.data.toList), .bool (rdB g a s.data.toList)]) ∧ Below w.heap.size w w' := by
  unfold maxLen at hs
  obtain ⟨l, hl⟩ : ∃ l, l = s.data.toList := ⟨_, rfl⟩
  have hlen : l.length = s.size := by rw [hl]; simp
  rw [← hl]
  have HL := Lib.hid hl
  clear hl
  by_cases h32 : s.size = 32
  · obtain ⟨r, hr⟩ : ∃ r, r = s.extract 6 s.size := ⟨_, rfl⟩
    have hrz : r.size = 26 := by rw [hr, ByteArray.size_extract]; omega
    have hrl : r.data.toList = l.drop 6 := by
      rw [hr, HL.out, ByteArray.data_extract, Array.toList_extract, List.extract_eq_take_drop, List.take_of_length_le (by simp)]
    have HTK := Lib.hid (fun wx => take_ok r 2 wx (by omega) (by omega) (by omega))
    rw [hrl, show val ((l.drop 6).take 2) = leftN l from rfl] at HTK
    have HR := Lib.hid hr
    have hnl := left_lt l
    obtain ⟨n, hn⟩ : ∃ n, n = leftN l := ⟨_, rfl⟩
    rw [← hn] at HTK hnl
    have HN := Lib.hid hn
    rw [h32] at HR
    clear hn hr hrl
    by_cases h1000 : n ≤ 1000
    · have HHD := Lib.hid (fun wx => head_ok g a n wx hg ha (by omega))
      have hu : decide ((1000 : Int) < n) = false := decide_eq_false (by omega)
      have hu2 : decide (1000 < n) = false := decide_eq_false (by omega)
      have hhz := hdS_size g a n
      have hpf := fun wx => Tryd.strings_HasPrefix s (hdS g a n) wx
      rw [← HL.out, show (hdS g a n).data.toList = hdL g a n from rfl] at hpf
      have HPF := Lib.hid hpf
      clear hpf
      generalize hdS g a n = hd at *
      cases hb : Lib.hasPrefix l (hdL g a n) with
      | false =>
        have HE := Lib.hid (rd_head (g := g) (a := a) (s := l) (by rw [← HN.out]; exact hb))
        rw [hb] at HPF
        go_enter Tryd.func50, Tryd.ntmps50
        go_wp2_with fail
        rw [← HR.out]
        refine (HTK.out _).mono ?_
        rintro e w1 ⟨rfl, hb1⟩
        go_wp2_with fail
        refine (HHD.out _).mono ?_
        rintro e w2 ⟨rfl, hb2⟩
        have HB2 := Lib.hid (hb1.trans (hb2.mono hb1.size))
        clear hb1 hb2
        go_wp2_with fail
        refine (HPF.out _).mono ?_
        rintro e w3 ⟨rfl, rfl⟩
        go_wp2
        exact bodyPost_ret (v := .tuple #[.int .i64 0, .string ⟨#[]⟩, .bool false]) (by simp [results, Tryd.results50, go_sem]) rfl ⟨by rw [HE.out, (rd_no HE.out).1, (rd_no HE.out).2]; rfl, HB2.out⟩
      | true =>
        rw [hb] at HPF
        have HH := Lib.hid hb
        have hmin : (min (n : Int) 24) = ((min n 24 : Nat) : Int) := by omega
        obtain ⟨m, hm⟩ : ∃ m, m = min n 24 := ⟨_, rfl⟩
        have hm24 : m ≤ 24 := by omega
        rw [← hm] at hmin
        have HM := Lib.hid hm
        obtain ⟨y, hy⟩ : ∃ y, y = s.extract (8 + m) 32 := ⟨_, rfl⟩
        have hyz : y.size = 24 - m := by rw [hy, ByteArray.size_extract]; omega
        have hyl : y.data.toList = l.drop (8 + m) := by
          rw [hy, HL.out, ByteArray.data_extract, Array.toList_extract, List.extract_eq_take_drop, ← HL.out, List.take_of_length_le (by rw [List.length_drop]; omega)]
        obtain ⟨q, hq⟩ : ∃ q, q = s.extract 8 (8 + m) := ⟨_, rfl⟩
        have hql : q.data.toList = partL l := by
          rw [hq, HL.out, ByteArray.data_extract, Array.toList_extract, List.extract_eq_take_drop, Nat.add_sub_cancel_left, ← HL.out]
          unfold partL
          rw [hm, HN.out]
        have htr := fun wx => Tryd.strings_Trim_one y 0 (by decide) wx (by omega)
        rw [hyl] at htr
        have HTR := Lib.hid htr
        have HY := Lib.hid hy
        have HQ := Lib.hid hq
        have HQL := Lib.hid hql
        clear htr hy hq hql hyl hm hb
        go_enter Tryd.func50, Tryd.ntmps50
        go_wp2_with fail
        rw [← HR.out]
        refine (HTK.out _).mono ?_
        rintro e w1 ⟨rfl, hb1⟩
        go_wp2_with fail
        refine (HHD.out _).mono ?_
        rintro e w2 ⟨rfl, hb2⟩
        have HB2 := Lib.hid (hb1.trans (hb2.mono hb1.size))
        clear hb1 hb2
        go_wp2_with fail
        refine (HPF.out _).mono ?_
        rintro e w3 ⟨rfl, rfl⟩
        go_wp2_with fail
        rw [← HY.out]
        refine (HTR.out _).mono ?_
        rintro e w4 ⟨rfl, hw4⟩
        have HB4 := Lib.hid (show Below w.heap.size w w4 by
          rcases hw4 with rfl | rfl
          · exact HB2.out
          · exact HB2.out.drew)
        clear hw4
        obtain ⟨z, hz⟩ : ∃ z, z = Lib.trimB (l.drop (8 + m)) 0 := ⟨_, rfl⟩
        rw [← hz]
        have HZ := Lib.hid hz
        clear hz
        by_cases h0 : z = []
        · have HE := Lib.hid (rd_yes (g := g) (a := a) (s := l) (by omega) (by rw [← HN.out]; exact h1000) (by rw [← HN.out]; exact HH.out) (by rw [← HN.out, ← HM.out, ← HZ.out]; exact h0))
          subst h0
          rw [show (⟨([] : List UInt8).toArray⟩ : ByteArray) = ⟨#[]⟩ from rfl]
          have ss := str_eq (x := (⟨#[]⟩ : ByteArray)) rfl
          have HF := Lib.hid (show rdN g a l = n ∧ rdS g a l = q by
            unfold rdN rdS
            rw [HE.out]
            refine ⟨HN.out.symm, ?_⟩
            rw [if_pos rfl, ← HQL.out])
          go_wp2
          go_quiet (fail)
          go_wp2
          rw [← HQ.out]
          exact bodyPost_ret (v := .tuple #[.int .i64 n, .string q, .bool true]) (by simp [results, Tryd.results50, go_sem]) rfl ⟨by rw [HE.out, HF.out.1, HF.out.2], below_drewN HB4.out _⟩
        · have HE := Lib.hid (rd_dirt (g := g) (a := a) (s := l) (by rw [← HN.out, ← HM.out, ← HZ.out]; exact h0))
          obtain ⟨zz, hzz⟩ : ∃ zz, zz = (⟨z.toArray⟩ : ByteArray) := ⟨_, rfl⟩
          rw [← hzz]
          have hne := nonempty_str (r := zz) (by rw [hzz]; show z.toArray.size ≠ 0; rw [List.size_toArray]; intro e; exact h0 (List.eq_nil_of_length_eq_zero e))
          clear hzz
          go_wp2
          exact bodyPost_ret (v := .tuple #[.int .i64 0, .string ⟨#[]⟩, .bool false]) (by simp [results, Tryd.results50, go_sem]) rfl ⟨by rw [HE.out, (rd_no HE.out).1, (rd_no HE.out).2]; rfl, HB4.out⟩
    · have HE := Lib.hid (rd_great (g := g) (a := a) (s := l) (by rw [← HN.out]; omega))
      have hu : decide ((1000 : Int) < n) = true := decide_eq_true (by omega)
      have hu2 : decide (1000 < n) = true := decide_eq_true (by omega)
      go_enter Tryd.func50, Tryd.ntmps50
      go_wp2_with fail
      rw [← HR.out]
      refine (HTK.out _).mono ?_
      rintro e w1 ⟨rfl, hb1⟩
      go_wp2
      exact bodyPost_ret (v := .tuple #[.int .i64 0, .string ⟨#[]⟩, .bool false]) (by simp [results, Tryd.results50, go_sem]) rfl ⟨by rw [HE.out, (rd_no HE.out).1, (rd_no HE.out).2]; rfl, hb1⟩
  · have HE := Lib.hid (rd_len (g := g) (a := a) (s := l) (by omega))
    have hne : ((s.size : Int) != 32) = true := by simp; omega
    have hne2 : ((s.size : Int) == 32) = false := by simp; omega
    go_enter Tryd.func50, Tryd.ntmps50
    go_wp2
    exact bodyPost_ret (v := .tuple #[.int .i64 0, .string ⟨#[]⟩, .bool false]) (by simp [results, Tryd.results50, go_sem]) rfl ⟨by rw [HE.out, (rd_no HE.out).1, (rd_no HE.out).2]; rfl, Below.refl _ _⟩

end Go.Proofs.YtdgjnjhmjgdhnaaDoor
