/- The walk of the document's Free. -/
import Derived.Test.YtodcngkcaeahhaaWDoc
import Derived.Test.YtodcngkcaeahhaaWIn
import Derived.Test.YtodcngkcaeahhaaExsV
namespace Go.Proofs.Ytodcngkcaeahhaa
open Go.RowKit

theorem step_used {l o : List Ex} {q : Int} (h : useB q l = true) : stepS l o q = o := by unfold stepS; rw [if_pos h]
theorem step_first {l : List Ex} {q : Int} (h : useB q l = false) : stepS l [] q = [] ++ [⟨q, 1⟩] := by unfold stepS; rw [if_neg (by rw [h]; exact Bool.false_ne_true)]; rfl
theorem step_grow {l r : List Ex} {a n q : Int} (h : useB q l = false) (hq : a + n = q) : stepS l (r ++ [⟨a, n⟩]) q = r ++ [⟨a, n + 1⟩] := by
  unfold stepS
  rw [if_neg (by rw [h]; exact Bool.false_ne_true), List.getLast?_concat, List.dropLast_concat]
  simp only
  rw [if_pos hq]
theorem step_new {l r : List Ex} {a n q : Int} (h : useB q l = false) (hq : ¬ a + n = q) : stepS l (r ++ [⟨a, n⟩]) q = (r ++ [⟨a, n⟩]) ++ [⟨q, 1⟩] := by
  unfold stepS
  rw [if_neg (by rw [h]; exact Bool.false_ne_true), List.getLast?_concat]
  simp only
  rw [if_neg hq]
theorem scan_bound {l : List Ex} {f : Int} {k : Nat} {x : Ex} (hx : x ∈ scanS l f k) : f ≤ x.a ∧ 0 < x.n ∧ x.a + x.n ≤ f + k := by
  obtain ⟨h1, _, h3⟩ := scan_facts l f k
  have h2 := h1 x hx
  exact ⟨((h3 x.a).1 ⟨x, hx, by omega, by omega⟩).1, h2.1, h2.2⟩
theorem scan_len (l : List Ex) (f : Int) : ∀ k : Nat, (scanS l f k).length ≤ k := by
  intro k
  induction k with
  | zero => simp [scanS]
  | succ k ih =>
    rw [scanS]
    generalize scanS l f k = o at ih
    unfold stepS
    split
    · omega
    · rcases List.eq_nil_or_concat o with rfl | ⟨r, g, rfl⟩
      · simp
      · rw [List.concat_eq_append] at *
        rw [List.getLast?_concat, List.dropLast_concat]
        simp only
        simp at ih
        split <;> simp <;> omega
theorem flat_last (r : List Ex) (a n n' : Int) : ((((r ++ [(⟨a, n⟩ : Ex)]).flatMap Ex.cells).set (r.length * 2) (.int .i64 a)).set (r.length * 2 + 1) (.int .i64 n')) = (r ++ [(⟨a, n'⟩ : Ex)]).flatMap Ex.cells := by
  rw [List.flatMap_append, List.flatMap_append, List.set_append_right _ _ (by rw [flat_len]; omega), flat_len, List.set_append_right _ _ (by rw [flat_len]; omega), flat_len]
  simp [Ex.cells]

/-- What the slots hold of the line that makes the last extent one sector longer. -/
def FreeV (ad : Addr) (rl c2 : Nat) (ya yn : Int) (t : Nat) (v : Value) (w : World) : Prop :=
  match t with
  | 49 => v = .slice (some ad) (rl + 1) c2
  | 50 => v = .int .i64 ((rl : Int) + 1)
  | 51 => v = .int .i64 (rl : Int)
  | 52 => v = .slice (some ad) (rl + 1) c2
  | 53 => v = .int .i64 ((rl : Int) + 1)
  | 54 => v = .int .i64 (rl : Int)
  | 55 => v = .pointer (some (ad.add (rl * 2)))
  | 56 => v = .pointer (some (ad.add (rl * 2)))
  | 57 => v = .int .i64 ya
  | 58 => v = .slice (some ad) (rl + 1) c2
  | 59 => v = .int .i64 ((rl : Int) + 1)
  | 60 => v = .int .i64 (rl : Int)
  | 61 => v = .pointer (some (ad.add (rl * 2)))
  | 62 => v = .pointer (some ⟨(ad.add (rl * 2)).block, (ad.add (rl * 2)).off + 1, none⟩)
  | 63 => v = .int .i64 yn
  | 64 => v = .int .i64 (yn + 1)
  | 65 => v = .agg #[.int .i64 ya, .int .i64 (yn + 1)]
  | 66 => v = .pointer (some (ad.add (rl * 2)))
  | _ => True

set_option maxHeartbeats 4000000 in
set_option maxRecDepth 100000 in
theorem dfree_any (f t : Int) (A : Option Addr) (c : Nat) (l : List Ex) (w : World) (hA : Exs w w.heap.size A l) (hn : l.length ≤ 100000) (hsm : Ok f t l → t - f ≤ 100) :
    Calls Try.prog 13 #[.int .i64 f, .int .i64 t, .slice A l.length c] w (ExsPost (freeL f t l) w) := by
  obtain ⟨i0, hi0, hz0, hz1, hz2⟩ := info_parts rx_info
  have hri := dright_any f t A c l w hA hn
  by_cases hok : Ok f t l
  · rw [decide_eq_true hok] at hri
    obtain ⟨a1, a2, a3⟩ := hok.1
    have h100 := hsm hok
    have HIA := Lib.hid (fun q w1 (h : Below w.heap.size w w1) => in_any q A c l w1 (Lies.on hA h) hn (fun x hx => by have := hok.2.1 x hx; unfold InE at this; omega))
    have HSF := Lib.hid (scan_free hok)
    obtain ⟨N, hN⟩ : ∃ N : Nat, t = f + N := ⟨(t - f).toNat, by omega⟩
    have HN := Lib.hid (show (t - f).toNat = N by omega)
    rw [HN.out] at HSF
    generalize hl : l.length = n at *
    clear hA hok hsm hl
    subst hN
    go_enter Try.func13, Try.ntmps13
    go_wp2_with fail
    refine hri.mono ?_
    clear hri
    rintro e w1 ⟨rfl, hb1⟩
    go_wp2
    go_loopw [8, 9] (fun v i wr => ∃ (k : Nat) (o : List Ex), i = .int .i64 (f + k) ∧ k ≤ N ∧ o = scanS l f k ∧ wr.ownsRow w.heap.size 34 2 v o.length (o.flatMap Ex.cells) ∧ Below w.heap.size w wr) (fun _ i _ => (f + N - intOf i).toNat)
    case atStart => exact ⟨0, [], by simp, by omega, rfl, World.ownsRow_nil _ _ _ _, hb1⟩
    case round =>
      obtain ⟨k, o, rfl, hk, ho, hown, hbr⟩ := hrel
      by_cases hlt : k < N
      · have hin := HIA.out (f + k) wr hbr
        have hol := scan_len l f k
        have hsb := fun x => scan_bound (l := l) (f := f) (k := k) (x := x)
        rw [← ho] at hol hsb
        have HST := Lib.hid (show scanS l f (k + 1) = stepS l o (f + k) by rw [scanS, ← ho])
        have hwk : IntKind.i64.wrap (f + k + 1) = f + (k + 1 : Nat) := by rw [IntWalk.i64_in _ (by omega)]; omega
        have HOW := Lib.hid hown
        obtain ⟨A2, c2, rfl⟩ := own_shape hown
        generalize huu : useB (f + k) l = uu at hin
        clear ho hown
        have g1 : f + (k : Int) < f + N := by omega
        go_wp2_with fail
        refine hin.mono ?_
        clear hin
        rintro e w3 ⟨rfl, hb3⟩
        have hb3a := hbr.trans (hb3.mono hbr.size)
        have HO3 := Lib.hid (own_below HOW.out hb3)
        clear hbr hb3 HOW
        cases uu with
        | true =>
          have HE := Lib.hid (show o = scanS l f (k + 1) by rw [HST.out, step_used huu])
          clear huu hsb
          generalize hoo : o.length = ol at *
          go_wp2
          go_roundw
          case rel => exact ⟨k + 1, o, by go_num, by omega, HE.out, by rw [hoo]; exact HO3.out, hb3a⟩
          case measure => simp [intOf]; omega
        | false =>
          have hlw := hb3a.size
          rcases List.eq_nil_or_concat o with rfl | ⟨r, y, rfl⟩
          · have HE := Lib.hid (show [] ++ [⟨f + k, 1⟩] = scanS l f (k + 1) by rw [HST.out, step_first huu])
            clear huu hsb hol
            simp only [List.length_nil, List.flatMap_nil] at HO3 ⊢
            go_wp2
            go_quiet (fail)
            obtain ⟨wq, hwq⟩ : ∃ wq, wq = w3.drewN nq := ⟨_, rfl⟩
            have hbq : Below w.heap.size w wq := by rw [hwq]; exact below_drewN hb3a _
            have HOQ := Lib.hid (show wq.ownsRow w.heap.size 34 2 _ _ _ from by rw [hwq]; exact own_below HO3.out (below_drewN (Below.refl _ _) _))
            have hlq := hbq.size
            rw [← hwq]
            clear hwq
            go_wp2_with (at_builtin; refine wpList_append_own _ rfl _ _ 31 rfl w.heap.size 34 i0 (.agg #[.int .i64 0, .int .i64 0]) 2 16 Try.underlying31 hi0 hz0 hz1 hz2 rfl (by decide) _ _ _ rfl (HOQ.out.alloc _) ⟨wq.heap.size, 0, none⟩ 1 1 [.int .i64 (f + k), .int .i64 1] rfl rfl ?c1 ?c2 ?c3 ?c4 ?c5 ?_)
            case c1 =>
              intro j u hj
              match j, hj with
              | 0, hj => simp at hj; subst hj; simp [Addr.add]
              | 1, hj => simp at hj; subst hj; simp [Addr.add]
            case c2 => intro u hu; simp at hu; rcases hu with rfl | rfl <;> rfl
            case c3 => unfold maxLen; omega
            case c4 => omega
            case c5 => simp; omega
            intro v' w4 hown4 hg4 _
            have hb4 : Below w.heap.size w w4 := (hbq.alloc hbq.size _).grown hg4 (by simp; omega) (fun k hk => by have := (HOQ.out.lt k hk).1; omega)
            have HO4 := Lib.hid hown4
            clear hown4 hg4
            go_wp2
            go_roundw
            case rel => exact ⟨k + 1, [] ++ [⟨f + k, 1⟩], by go_num, by omega, HE.out, by simpa [Ex.cells] using HO4.out, hb4⟩
            case measure => simp [intOf]; omega
          · rw [List.concat_eq_append] at *
            obtain ⟨ya, yn⟩ := y
            obtain ⟨y1, y2, y3⟩ := hsb ⟨ya, yn⟩ (by simp)
            simp only at y1 y2 y3
            have hlen : (r ++ [(⟨ya, yn⟩ : Ex)]).length = r.length + 1 := by simp
            rw [hlen] at HO3 hol ⊢
            have HR := Lib.hid (show r.length = r.length from rfl)
            have HFL := Lib.hid (flat_last r ya yn (yn + 1))
            have hcel : Exs w3 w3.heap.size A2 (r ++ [(⟨ya, yn⟩ : Ex)]) := Lies.own Ex.cells2 (by rw [hlen]; exact HO3.out)
            obtain ⟨g, cap, hform⟩ := Joins.ownsRow_form HO3.out (by omega)
            injection hform with hf1 hf2 hf3
            subst hf1
            subst hf3
            obtain ⟨ad, hadd, hadb, hca⟩ := hcel.seeE (by rw [hlen]; omega)
            injection hadd with hadd
            have hc1 := hca r.length (by rw [hlen]; omega)
            simp only [List.getElem_append_right (Nat.le_refl r.length), Nat.sub_self, List.getElem_cons_zero] at hc1
            obtain ⟨x1, x2⟩ := hc1
            have HAD := Lib.hid hadd
            rw [hadd] at HO3 ⊢
            have hfz : ∀ j, w3.frozen? ⟨ad.block, ad.off + j, none⟩ = false := fun j => by rw [← hadd]; simpa using (by rw [hadd]; exact HO3.out : w3.ownsRow w.heap.size 34 2 (.slice (some ⟨g, 0, none⟩) (r.length + 1) c2) (r.length + 1) _).frozenAt j
            generalize hrl : r.length = rl at *
            have hw1 : IntKind.i64.wrap (((rl + 1 : Nat) : Int) - 1) = (rl : Int) := by rw [IntWalk.i64_in _ (by omega)]; omega
            have hw2 : IntKind.i64.wrap (ya + yn) = ya + yn := IntWalk.i64_in _ (by omega)
            have hw3 : IntKind.i64.wrap (yn + 1) = yn + 1 := IntWalk.i64_in _ (by omega)
            have hgt : ((rl + 1 : Nat) : Int) > 0 := by omega
            have hil : (rl : Int) < ((rl + 1 : Nat) : Int) := by omega
            clear hca hcel hsb HR hlen
            by_cases hq : ya + yn = f + k
            · have HE := Lib.hid (show r ++ [⟨ya, yn + 1⟩] = scanS l f (k + 1) by rw [HST.out, step_grow huu hq])
              have hqb : (ya + yn == f + k) = true := by simpa using hq
              clear huu
              go_wp2
              go_quiet (fail)
              go_wp2
              obtain ⟨wq, hwq⟩ : ∃ wq, wq = w3.drewN nq := ⟨_, rfl⟩
              have hb3q : Below w3.heap.size w3 wq := by rw [hwq]; exact below_drewN (Below.refl _ _) _
              rw [← hwq]
              clear hwq
              have hb3d := hb3q.drew
              have hbq := hb3a.trans (hb3d.mono hb3a.size)
              have HOQ := Lib.hid (own_below HO3.out hb3d)
              have hlad : (ad.add (rl * 2)).block < w3.heap.size := by rw [block_of_add]; exact hadb
              have z1 := (hb3d.cell (p := ad.add (rl * 2)) hlad).trans x1
              have z2 := (hb3d.cell (p := ⟨(ad.add (rl * 2)).block, (ad.add (rl * 2)).off + 1, none⟩) hlad).trans x2
              have hae : ad.add (rl * 2) = ⟨g, rl * 2, none⟩ := by rw [← HAD.out]; unfold Addr.add; split <;> simp_all
              have z3 : wq.drew.frozen? (ad.add (rl * 2)) = false := by rw [hae]; have h := HOQ.out; rw [← HAD.out] at h; exact h.frozenAt _
              have z4 : wq.drew.frozen? ⟨(ad.add (rl * 2)).block, (ad.add (rl * 2)).off + 1, none⟩ = false := by rw [hae]; have h := HOQ.out; rw [← HAD.out] at h; exact h.frozenAt _
              obtain ⟨wd, hwd⟩ : ∃ wd, wd = wq.drew := ⟨_, rfl⟩
              rw [← hwd] at z1 z2 z3 z4 HOQ hbq
              have HWD := Lib.hid hwd
              clear hwd
              have hw4 : IntKind.i64.wrap (rl : Int) = (rl : Int) := IntWalk.i64_in _ (by omega)
              have HAE := Lib.hid hae
              clear hae
              have hw5 : (rl : Int) < (rl : Int) + 1 := by omega
              obtain ⟨u5, z5⟩ : ∃ u, (wd.setCell (ad.add (rl * 2)) (.int .i64 ya)).cell? ⟨(ad.add (rl * 2)).block, (ad.add (rl * 2)).off + 1, none⟩ = some u := by
                rw [HAE.out]
                have h := HOQ.out
                rw [← HAD.out] at h
                have h1 := (h.stored (rl * 2) (.int .i64 ya)).1
                have h2 := h1.cellAt (rl * 2 + 1) (by omega)
                have h3 := h1.1
                exact ⟨_, h2.trans (List.getElem?_eq_getElem (by rw [h3]; omega))⟩
              refine wp_region_phase 6 [49, 50, 51, 52, 53, 54, 55, 56, 57, 58, 59, 60, 61, 62, 63, 64, 65, 66] (by kernel_rfl) [18] [] (fun _ _ => True) 1 rfl (by kernel_rfl) (fun p w' => (p = 0 → w' = wd) ∧ (p = 1 → w' = (wd.setCell (ad.add (rl * 2)) (.int .i64 ya)).setCell ⟨(ad.add (rl * 2)).block, (ad.add (rl * 2)).off + 1, none⟩ (.int .i64 (yn + 1)))) (fun wa wb => wa = wb) (fun _ => FreeV ad rl c2 ya yn) (by kernel_rfl) (fun _ wa wb h1 h2 => h1 ▸ h2) (fun _ t v wa wb h1 h2 => h1 ▸ h2) (fun _ _ _ _ _ _ _ => trivial) ⟨fun _ => HWD.out.symm, fun h => absurd h (by decide)⟩ trivial (phase1 ?_ ?_) ?_
              ·
                refine Steps1.cons (fun _ ax wx hS hJ hG => ?_) (Steps1.cons (fun _ ax wx hS hJ hG => ?_) (Steps1.cons (fun _ ax wx hS hJ hG => ?_) (Steps1.cons (fun _ ax wx hS hJ hG => ?_) (Steps1.cons (fun _ ax wx hS hJ hG => ?_) (Steps1.cons (fun _ ax wx hS hJ hG => ?_) (Steps1.cons (fun _ ax wx hS hJ hG => ?_) (Steps1.cons (fun _ ax wx hS hJ hG => ?_) (Steps1.cons (fun _ ax wx hS hJ hG => ?_) (Steps1.cons (fun _ ax wx hS hJ hG => ?_) (Steps1.cons (fun _ ax wx hS hJ hG => ?_) (Steps1.cons (fun _ ax wx hS hJ hG => ?_) (Steps1.cons (fun _ ax wx hS hJ hG => ?_) (Steps1.cons (fun _ ax wx hS hJ hG => ?_) (Steps1.cons (fun _ ax wx hS hJ hG => ?_) (Steps1.cons (fun _ ax wx hS hJ hG => ?_) (Steps1.cons (fun _ ax wx hS hJ hG => ?_) (Steps1.cons (fun _ ax wx hS hJ hG => ?_) (Steps1.cons (fun _ ax wx hS hJ hG => ?_) Steps1.nil))))))))))))))))))
                · have q8 := hG.old 8 (by kernel_rfl) (by kernel_rfl)
                  refine step_slot rfl rfl rfl (step_value (v := .slice (some ad) (rl + 1) c2) (w' := wx) rfl rfl ?_ rfl (fun d hd => by cases hd; exact rfl))
                  rw [show wx = wd from hS.1 rfl]
                  clear hS hG
                  go_simp
                · have q11 := hG.old 11 (by kernel_rfl) (by kernel_rfl)
                  refine step_slot rfl rfl rfl (step_value (v := .int .i64 ((rl : Int) + 1)) (w' := wx) rfl rfl ?_ rfl (fun d hd => by cases hd; exact rfl))
                  rw [show wx = wd from hS.1 rfl]
                  clear hS hG
                  go_simp
                · obtain ⟨_, q50, rfl⟩ := hG.new 50 (by kernel_rfl) (by kernel_rfl)
                  refine step_slot rfl rfl rfl (step_value (v := .int .i64 (rl : Int)) (w' := wx) rfl rfl ?_ rfl (fun d hd => by cases hd; exact rfl))
                  rw [show wx = wd from hS.1 rfl]
                  clear hS hG
                  go_simp
                · have q8 := hG.old 8 (by kernel_rfl) (by kernel_rfl)
                  refine step_slot rfl rfl rfl (step_value (v := .slice (some ad) (rl + 1) c2) (w' := wx) rfl rfl ?_ rfl (fun d hd => by cases hd; exact rfl))
                  rw [show wx = wd from hS.1 rfl]
                  clear hS hG
                  go_simp
                · have q11 := hG.old 11 (by kernel_rfl) (by kernel_rfl)
                  refine step_slot rfl rfl rfl (step_value (v := .int .i64 ((rl : Int) + 1)) (w' := wx) rfl rfl ?_ rfl (fun d hd => by cases hd; exact rfl))
                  rw [show wx = wd from hS.1 rfl]
                  clear hS hG
                  go_simp
                · obtain ⟨_, q53, rfl⟩ := hG.new 53 (by kernel_rfl) (by kernel_rfl)
                  refine step_slot rfl rfl rfl (step_value (v := .int .i64 (rl : Int)) (w' := wx) rfl rfl ?_ rfl (fun d hd => by cases hd; exact rfl))
                  rw [show wx = wd from hS.1 rfl]
                  clear hS hG
                  go_simp
                · obtain ⟨_, q52, rfl⟩ := hG.new 52 (by kernel_rfl) (by kernel_rfl)
                  obtain ⟨_, q54, rfl⟩ := hG.new 54 (by kernel_rfl) (by kernel_rfl)
                  refine step_slot rfl rfl rfl (step_value (v := .pointer (some (ad.add (rl * 2)))) (w' := wx) rfl rfl ?_ rfl (fun d hd => by cases hd; exact rfl))
                  rw [show wx = wd from hS.1 rfl]
                  clear hS hG
                  go_simp
                · obtain ⟨_, q55, rfl⟩ := hG.new 55 (by kernel_rfl) (by kernel_rfl)
                  refine step_slot rfl rfl rfl (step_value (v := .pointer (some (ad.add (rl * 2)))) (w' := wx) rfl rfl ?_ rfl (fun d hd => by cases hd; exact rfl))
                  rw [show wx = wd from hS.1 rfl]
                  clear hS hG
                  go_simp
                · obtain ⟨_, q56, rfl⟩ := hG.new 56 (by kernel_rfl) (by kernel_rfl)
                  refine step_slot rfl rfl rfl (step_value (v := .int .i64 ya) (w' := wx) rfl rfl ?_ rfl (fun d hd => by cases hd; exact rfl))
                  rw [show wx = wd from hS.1 rfl]
                  clear hS hG
                  go_simp
                · have q8 := hG.old 8 (by kernel_rfl) (by kernel_rfl)
                  refine step_slot rfl rfl rfl (step_value (v := .slice (some ad) (rl + 1) c2) (w' := wx) rfl rfl ?_ rfl (fun d hd => by cases hd; exact rfl))
                  rw [show wx = wd from hS.1 rfl]
                  clear hS hG
                  go_simp
                · have q11 := hG.old 11 (by kernel_rfl) (by kernel_rfl)
                  refine step_slot rfl rfl rfl (step_value (v := .int .i64 ((rl : Int) + 1)) (w' := wx) rfl rfl ?_ rfl (fun d hd => by cases hd; exact rfl))
                  rw [show wx = wd from hS.1 rfl]
                  clear hS hG
                  go_simp
                · obtain ⟨_, q59, rfl⟩ := hG.new 59 (by kernel_rfl) (by kernel_rfl)
                  refine step_slot rfl rfl rfl (step_value (v := .int .i64 (rl : Int)) (w' := wx) rfl rfl ?_ rfl (fun d hd => by cases hd; exact rfl))
                  rw [show wx = wd from hS.1 rfl]
                  clear hS hG
                  go_simp
                · obtain ⟨_, q58, rfl⟩ := hG.new 58 (by kernel_rfl) (by kernel_rfl)
                  obtain ⟨_, q60, rfl⟩ := hG.new 60 (by kernel_rfl) (by kernel_rfl)
                  refine step_slot rfl rfl rfl (step_value (v := .pointer (some (ad.add (rl * 2)))) (w' := wx) rfl rfl ?_ rfl (fun d hd => by cases hd; exact rfl))
                  rw [show wx = wd from hS.1 rfl]
                  clear hS hG
                  go_simp
                · obtain ⟨_, q61, rfl⟩ := hG.new 61 (by kernel_rfl) (by kernel_rfl)
                  refine step_slot rfl rfl rfl (step_value (v := .pointer (some ⟨(ad.add (rl * 2)).block, (ad.add (rl * 2)).off + 1, none⟩)) (w' := wx) rfl rfl ?_ rfl (fun d hd => by cases hd; exact rfl))
                  rw [show wx = wd from hS.1 rfl]
                  clear hS hG
                  go_simp
                · obtain ⟨_, q62, rfl⟩ := hG.new 62 (by kernel_rfl) (by kernel_rfl)
                  refine step_slot rfl rfl rfl (step_value (v := .int .i64 yn) (w' := wx) rfl rfl ?_ rfl (fun d hd => by cases hd; exact rfl))
                  rw [show wx = wd from hS.1 rfl]
                  clear hS hG
                  go_simp
                · obtain ⟨_, q63, rfl⟩ := hG.new 63 (by kernel_rfl) (by kernel_rfl)
                  refine step_slot rfl rfl rfl (step_value (v := .int .i64 (yn + 1)) (w' := wx) rfl rfl ?_ rfl (fun d hd => by cases hd; exact rfl))
                  rw [show wx = wd from hS.1 rfl]
                  clear hS hG
                  go_simp
                · obtain ⟨_, q57, rfl⟩ := hG.new 57 (by kernel_rfl) (by kernel_rfl)
                  obtain ⟨_, q64, rfl⟩ := hG.new 64 (by kernel_rfl) (by kernel_rfl)
                  refine step_slot rfl rfl rfl (step_value (v := .agg #[.int .i64 ya, .int .i64 (yn + 1)]) (w' := wx) rfl rfl ?_ rfl (fun d hd => by cases hd; exact rfl))
                  rw [show wx = wd from hS.1 rfl]
                  clear hS hG
                  go_simp
                · obtain ⟨_, q49, rfl⟩ := hG.new 49 (by kernel_rfl) (by kernel_rfl)
                  obtain ⟨_, q51, rfl⟩ := hG.new 51 (by kernel_rfl) (by kernel_rfl)
                  refine step_slot rfl rfl rfl (step_value (v := .pointer (some (ad.add (rl * 2)))) (w' := wx) rfl rfl ?_ rfl (fun d hd => by cases hd; exact rfl))
                  rw [show wx = wd from hS.1 rfl]
                  clear hS hG
                  go_simp
                · obtain ⟨_, q66, rfl⟩ := hG.new 66 (by kernel_rfl) (by kernel_rfl)
                  obtain ⟨_, q65, rfl⟩ := hG.new 65 (by kernel_rfl) (by kernel_rfl)
                  refine step_store (w' := (wx.setCell (ad.add (rl * 2)) (.int .i64 ya)).setCell ⟨(ad.add (rl * 2)).block, (ad.add (rl * 2)).off + 1, none⟩ (.int .i64 (yn + 1))) rfl rfl rfl rfl ?_ ⟨fun h => absurd h (by decide), fun _ => by rw [show wx = wd from hS.1 rfl]⟩ trivial ?_
                  · rw [show wx = wd from hS.1 rfl]
                    clear hS hG
                    go_simp
                  · intro t u _ hu hV
                    exact hV
              ·
                refine Steps1.cons (fun hin _ _ _ _ _ => out (by kernel_rfl) hin) (Steps1.cons (fun hin _ _ _ _ _ => out (by kernel_rfl) hin) (Steps1.cons (fun hin _ _ _ _ _ => out (by kernel_rfl) hin) (Steps1.cons (fun hin _ _ _ _ _ => out (by kernel_rfl) hin) (Steps1.cons (fun hin _ _ _ _ _ => out (by kernel_rfl) hin) (Steps1.cons (fun hin _ _ _ _ _ => out (by kernel_rfl) hin) (Steps1.cons (fun hin _ _ _ _ _ => out (by kernel_rfl) hin) (Steps1.cons (fun hin _ _ _ _ _ => out (by kernel_rfl) hin) (Steps1.cons (fun hin _ _ _ _ _ => out (by kernel_rfl) hin) (Steps1.cons (fun hin _ _ _ _ _ => out (by kernel_rfl) hin) (Steps1.cons (fun hin _ _ _ _ _ => out (by kernel_rfl) hin) (Steps1.cons (fun hin _ _ _ _ _ => out (by kernel_rfl) hin) (Steps1.cons (fun hin _ _ _ _ _ => out (by kernel_rfl) hin) (Steps1.cons (fun hin _ _ _ _ _ => out (by kernel_rfl) hin) (Steps1.cons (fun hin _ _ _ _ _ => out (by kernel_rfl) hin) (Steps1.cons (fun hin _ _ _ _ _ => out (by kernel_rfl) hin) (Steps1.cons (fun hin _ _ _ _ _ => out (by kernel_rfl) hin) (Steps1.cons (fun hin _ _ _ _ _ => out (by kernel_rfl) hin) (Steps1.cons (fun hin _ _ _ _ _ => out (by kernel_rfl) hin) Steps1.nil))))))))))))))))))
              intro gg wz hSz _ _
              have hwz := hSz.2 rfl
              clear hSz z1 z2 z3 z4
              have HOZ := Lib.hid (show wz.ownsRow w.heap.size 34 2 (.slice (some ad) (rl + 1) c2) (rl + 1) ((r ++ [(⟨ya, yn + 1⟩ : Ex)]).flatMap Ex.cells) by
                have h := HOQ.out
                rw [← HAD.out] at h ⊢
                rw [hwz, HAE.out, ← HFL.out]
                exact ((h.stored _ _).1.stored _ _).1)
              have hgw : w.heap.size ≤ g := by
                have h := HOQ.out
                rw [← HAD.out] at h
                exact (h.lt g rfl).1
              have hbz : Below w.heap.size w wz := by
                rw [hwz, HAE.out]
                exact (hbq.setCell hgw _).setCell hgw _
              clear hwz HWD HOQ
              simp only [puts, Act.put, List.setIfInBounds_toArray, List.set_cons_succ, List.set_cons_zero]
              generalize gg 49 = g49
              generalize gg 50 = g50
              generalize gg 51 = g51
              generalize gg 52 = g52
              generalize gg 53 = g53
              generalize gg 54 = g54
              generalize gg 55 = g55
              generalize gg 56 = g56
              generalize gg 57 = g57
              generalize gg 58 = g58
              generalize gg 59 = g59
              generalize gg 60 = g60
              generalize gg 61 = g61
              generalize gg 62 = g62
              generalize gg 63 = g63
              generalize gg 64 = g64
              generalize gg 65 = g65
              generalize gg 66 = g66
              go_wp2
              go_roundw
              case rel => exact ⟨k + 1, r ++ [⟨ya, yn + 1⟩], by go_num, by omega, HE.out, by simpa [hrl] using HOZ.out, hbz⟩
              case measure => simp [intOf]; omega
            · have HE := Lib.hid (show (r ++ [⟨ya, yn⟩]) ++ [⟨f + k, 1⟩] = scanS l f (k + 1) by rw [HST.out, step_new huu hq])
              have hqb : (ya + yn == f + k) = false := by simpa using hq
              clear huu
              go_wp2
              go_quiet (fail)
              obtain ⟨wq, hwq⟩ : ∃ wq, wq = w3.drewN nq := ⟨_, rfl⟩
              have hbq : Below w.heap.size w wq := by rw [hwq]; exact below_drewN hb3a _
              have HOQ := Lib.hid (show wq.ownsRow w.heap.size 34 2 _ _ _ from by rw [hwq]; exact own_below HO3.out (below_drewN (Below.refl _ _) _))
              have hlq := hbq.size
              rw [← hwq]
              clear hwq
              go_wp2_with (at_builtin; refine wpList_append_own _ rfl _ _ 31 rfl w.heap.size 34 i0 (.agg #[.int .i64 0, .int .i64 0]) 2 16 Try.underlying31 hi0 hz0 hz1 hz2 rfl (by decide) _ _ _ rfl (HOQ.out.alloc _) ⟨wq.heap.size, 0, none⟩ 1 1 [.int .i64 (f + k), .int .i64 1] rfl rfl ?c1 ?c2 ?c3 ?c4 ?c5 ?_)
              case c1 =>
                intro j u hj
                match j, hj with
                | 0, hj => simp at hj; subst hj; simp [Addr.add]
                | 1, hj => simp at hj; subst hj; simp [Addr.add]
              case c2 => intro u hu; simp at hu; rcases hu with rfl | rfl <;> rfl
              case c3 => unfold maxLen; omega
              case c4 => omega
              case c5 => simp; omega
              intro v' w4 hown4 hg4 _
              have hb4 : Below w.heap.size w w4 := (hbq.alloc hbq.size _).grown hg4 (by simp; omega) (fun k hk => by have := (HOQ.out.lt k hk).1; omega)
              have HO4 := Lib.hid hown4
              clear hown4 hg4
              go_wp2
              go_roundw
              case rel => exact ⟨k + 1, (r ++ [⟨ya, yn⟩]) ++ [⟨f + k, 1⟩], by go_num, by omega, HE.out, by simpa [Ex.cells, hrl] using HO4.out, hb4⟩
              case measure => simp [intOf]; omega
      · have hkn : k = N := by omega
        subst hkn
        obtain ⟨A2, c2, rfl⟩ := own_shape hown
        have HO := Lib.hid (show Exs wr wr.heap.size A2 o from Lies.own Ex.cells2 hown)
        have HZ := Lib.hid (own_nil hown)
        have HE := Lib.hid (show o = freeL f (f + k) l by rw [ho, HSF.out])
        clear hown ho
        generalize hoo : o.length = ol at *
        go_wp2
        go_ret
        rw [← HE.out]
        exact ⟨A2, c2, by rw [hoo]; rfl, HO.out, hbr, HZ.out⟩
  · rw [decide_eq_false hok] at hri
    have HN := Lib.hid (free_not hok)
    generalize hl : l.length = n at *
    clear hA hok hl hsm
    go_enter Try.func13, Try.ntmps13
    go_wp2_with fail
    refine hri.mono ?_
    clear hri
    rintro e w1 ⟨rfl, hb1⟩
    go_wp2
    go_ret
    rw [HN.out]
    exact ⟨none, 0, rfl, Lies.nil, hb1, fun _ => rfl⟩

end Go.Proofs.Ytodcngkcaeahhaa
