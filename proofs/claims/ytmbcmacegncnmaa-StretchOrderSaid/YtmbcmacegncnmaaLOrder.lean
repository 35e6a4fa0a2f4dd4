/- The walk of the law StretchOrder. -/
import Derived.Test.YtmbcmacegncnmaaTurn
import Derived.Test.YtmbcmacegncnmaaInv
namespace Go.Proofs.Ytmbcmacegncnmaa
open Go.RowKit

/-- What each slot of the last line holds. -/
def OrderV (ad : Addr) (g n c cap : Nat) (ts : List Rng) (ml mh xl xh : ByteArray) (mo xo : Bool) (t : Nat) (v : Value) (w : World) : Prop :=
  match t with
  | 48 => v = .slice (some ⟨g, 0, none⟩) n cap
  | 49 => v = (.agg #[.string ml, .string mh, .bool mo])
  | 50 => v = (.agg #[.string ml, .string mh, .bool mo])
  | 51 => v = .bool true
  | 52 => v = .bool true
  | 53 => v = .slice (some ⟨g, 0, none⟩) n cap
  | 54 => v = .slice (some ad) n c
  | 55 => v = .pointer (some ad)
  | 56 => v = (.agg #[.string xl, .string xh, .bool xo])
  | 57 => OrdLit g #[.string xl, .string xh, .bool xo] 1 v w
  | 58 => Ord58 n ts ⟨xl, xh, xo⟩ v w
  | 59 => v = (.agg #[.string ml, .string mh, .bool mo])
  | 60 => v = (.agg #[.string ml, .string mh, .bool mo])
  | 61 => v = .bool true
  | 62 => v = .bool true
  | 63 => v = .bool true
  | 64 => v = (.agg #[.string ml, .string mh, .bool mo])
  | 65 => v = (.agg #[.string ml, .string mh, .bool mo])
  | 66 => OrdLit g #[.string ml, .string mh, .bool mo, .string ml, .string mh, .bool mo] 2 v w
  | 67 => v = (.agg #[.string ml, .string mh, .bool mo])
  | 68 => v = (.agg #[.string ml, .string mh, .bool mo])
  | 69 => v = .bool true
  | 70 => v = .bool true
  | 71 => v = .bool true
  | 72 => v = .bool true
  | 73 => v = .bool true
  | 4 => v = .bool true
  | _ => True
theorem OrderV.on {ad : Addr} {g n c cap : Nat} {ts : List Rng} {ml mh xl xh : ByteArray} {mo xo : Bool} {w0 : World} {g8 t : Nat} {v : Value} {w w' : World} (h : OrderV ad g n c cap ts ml mh xl xh mo xo t v w) (hr : OrdR w0 g n cap g8 ⟨ml, mh, mo⟩ ts ⟨xl, xh, xo⟩ w w') : OrderV ad g n c cap ts ml mh xl xh mo xo t v w' := by
  unfold OrderV at *
  split at h <;> first | exact h | exact Ord58.on h hr | exact OrdLit.on h hr

theorem lit_cells {w : World} {b : Nat} {xl xh : ByteArray} {xo : Bool} (h : Box w b 25 #[.string xl, .string xh, .bool xo]) : ∀ j u, ([.string xl, .string xh, .bool xo] : List Value)[j]? = some u → w.cell? ((⟨b, 0, none⟩ : Addr).add j) = some u := by
  intro j u hj
  rw [Addr.add_lit, Nat.zero_add]
  exact Box.cell h j (by simpa using hj)
theorem lit_one {xl xh : ByteArray} {xo : Bool} : ∀ u ∈ ([.string xl, .string xh, .bool xo] : List Value), u.oneCell' = true := by
  intro u hu
  simp at hu
  rcases hu with rfl | rfl | rfl <;> rfl

theorem meet_lit2 {r : Rng} {g : Nat} {v : Value} {w : World} (hn : Norm r) (h : OrdLit g #[.string r.lo, .string r.hi, .bool r.op, .string r.lo, .string r.hi, .bool r.op] 2 v w) :
    Calls Try.prog 11 #[v] w fun e w' => e = .returned r.v ∧ Below w.heap.size w w' := by
  obtain ⟨b, _, rfl, hb⟩ := h
  have h1 := meet_any (some ⟨b, 0, none⟩) 2 [r, r] w (lies_cells Rng.cells3 (Box.lt hb) fun j u hu => Box.cell hb j (by rw [← Array.getElem?_toList]; exact hu)) (by simp [maxLen])
  rwa [meetL_twice hn] at h1
theorem meet_58 {n : Nat} {ts : List Rng} {x r : Rng} {v : Value} {w : World} (hl : ts.length = n) (hn : n ≤ 1000000) (hm : meetL (ts ++ [x]) = r) (h : Ord58 n ts x v w) :
    Calls Try.prog 11 #[v] w fun e w' => e = .returned r.v ∧ Below w.heap.size w w' := by
  obtain ⟨g', c', rfl, hlt, hc⟩ := h
  have h1 := meet_any (some ⟨g', 0, none⟩) c' (ts ++ [x]) w (lies_cells Rng.cells3 hlt fun j u hu => hc j u (by simpa [List.flatMap_append] using hu)) (by simp [hl, maxLen]; omega)
  rw [hm, List.length_append, hl] at h1
  exact h1

set_option maxHeartbeats 4000000 in
set_option maxRecDepth 100000 in
theorem order_walk (A : Option Addr) (c : Nat) (l : List Rng) (b : Nat) (w : World) (hA : Rngs w w.heap.size A l) (hn : l.length ≤ maxLen) (hz : ∀ r ∈ l, r.lo.size ≤ maxLen ∧ r.hi.size ≤ maxLen) (hb8 : b < 256) :
    Calls Try.prog 7 #[.slice A l.length c, .int .u8 b] w fun e w' => e = .returned (.bool true) ∧ Below w.heap.size w w' := by
  obtain ⟨i0, hi0, hz0, hz1, hz2⟩ := info_parts rng_info
  unfold maxLen at hn
  generalize hl : l.length = n at *
  have HL := Lib.hid hl
  have HA := Lib.hid hA
  have HZ := Lib.hid hz
  clear hl hA hz
  by_cases h1 : 20 < n
  · go_enter Try.func7, Try.ntmps7
    go_wp2_with fail
    refine (awake_true _).mono ?_
    rintro e w1 ⟨rfl, hb1⟩
    go_wp2
    go_ret
    exact ⟨rfl, hb1⟩
  by_cases h2 : n = 0
  · subst h2
    go_enter Try.func7, Try.ntmps7
    go_wp2_with fail
    refine (awake_true _).mono ?_
    rintro e w1 ⟨rfl, hb1⟩
    go_wp2
    go_ret
    exact ⟨rfl, hb1⟩
  have h3 : ((n : Int) == 0) = false := by simp; omega
  have h4 : 0 < n := by omega
  go_enter Try.func7, Try.ntmps7
  go_wp2
  go_loopw [5, 20] (fun v i wr => ∃ (k : Nat), i = .int .i64 k ∧ k ≤ n ∧ wr.ownsRow w.heap.size 25 3 v (turnL l b k).length ((turnL l b k).flatMap Rng.cells) ∧ Below w.heap.size w wr) (fun _ i _ => (n - intOf i).toNat)
  case atStart => exact ⟨0, rfl, by omega, World.ownsRow_nil _ _ _ _, Below.refl _ _⟩
  case round =>
    obtain ⟨k, rfl, hk, hown, hbr⟩ := hrel
    obtain ⟨A2, c2, rfl⟩ := own_shape hown
    by_cases hlt : k < n
    · obtain ⟨ad, rfl, hab, hca⟩ := (HA.out.below hbr).seeR (by rw [HL.out]; omega)
      obtain ⟨x1, x2, x3⟩ := hca k (by rw [HL.out]; omega)
      obtain ⟨z1, z2⟩ := HZ.out _ (List.getElem_mem (by rw [HL.out]; omega : k < l.length))
      obtain ⟨j, hj⟩ : ∃ j, j = turnAt n b k := ⟨_, rfl⟩
      have hjn : j < n := by rw [hj]; exact turnAt_lt h4
      have HT := Lib.hid (turnL_step l b k j (by rw [HL.out]; exact hj) (by rw [HL.out]; exact hjn))
      have hji := turnAt_int (b := b) hk
      rw [← hj] at hji
      obtain ⟨x, hx⟩ : ∃ x, x = l[k]'(by rw [HL.out]; omega) := ⟨_, rfl⟩
      rw [← hx] at x1 x2 x3 z1 z2
      obtain ⟨y, hy⟩ : ∃ y, y = l[j]'(by rw [HL.out]; omega) := ⟨_, rfl⟩
      rw [← hy] at HT
      have HY := Lib.hid hy
      have Z := Lib.hid (And.intro z1 z2)
      have hle : (turnL l b k).length = k := turnL_length l b k
      rw [hle] at hown
      rw [hle]
      have hlt3 : (ad.add (k * 3)).block < w.heap.size := by rw [block_of_add]; exact hab
      have HJ := Lib.hid hji
      clear hx hy hca z1 z2 hj hji hle
      obtain ⟨xl, xh, xo⟩ := x
      obtain ⟨yl, yh, yo⟩ := y
      simp only at x1 x2 x3
      have HO := Lib.hid hown
      clear hown
      go_wp2_with fail
      refine (small_any xl xh xo _ Z.out.1 Z.out.2).mono ?_
      rintro e w1 ⟨rfl, hb1⟩
      have hbr1 : Below w.heap.size w w1 := (hbr.alloc hbr.size _).trans (hb1.mono (by have := hbr.size; simp; omega))
      have hown1 := own_below (HO.out.alloc (rcells xl xh xo)) hb1
      clear hb1 x1 x2 x3
      generalize smallB ⟨xl, xh, xo⟩ = s
      cases s with
      | false =>
        clear hown1
        go_wp2_with fail
        refine (awake_true _).mono ?_
        rintro e w2 ⟨rfl, hb2⟩
        go_wp2
        go_ret
        exact ⟨rfl, hbr1.trans (hb2.mono hbr1.size)⟩
      | true =>
        obtain ⟨ad', hadd, _, hca⟩ := (HA.out.below hbr1).seeR (by rw [HL.out]; omega)
        injection hadd with hadd
        subst hadd
        obtain ⟨y1, y2, y3⟩ := hca j (by rw [HL.out]; omega)
        rw [← HY.out] at y1 y2 y3
        simp only at y1 y2 y3
        have hlt4 : (ad.add (j * 3)).block < w.heap.size := by rw [block_of_add]; exact hab
        have hji := HJ.out
        have hjn2 : (j : Int) < n := by omega
        clear hca
        go_wp2_with (at_builtin; refine wpList_append_own _ rfl _ _ 22 rfl w.heap.size 25 i0 (.agg #[.string ⟨#[]⟩, .string ⟨#[]⟩, .bool false]) 3 40 Try.underlying22 hi0 hz0 hz1 hz2 rfl (by decide) _ _ _ rfl (hown1.alloc _) ⟨w1.heap.size, 0, none⟩ 1 1 [.string yl, .string yh, .bool yo] rfl rfl ?c1 ?c2 ?c3 ?c4 ?c5 ?_)
        case c1 =>
          intro j u hj
          match j, hj with
          | 0, hj => simp at hj; subst hj; simp [Addr.add]
          | 1, hj => simp at hj; subst hj; simp [Addr.add]
          | 2, hj => simp at hj; subst hj; simp [Addr.add]
        case c2 => exact lit_one
        case c3 => unfold maxLen; omega
        case c4 => omega
        case c5 => have := hbr1.size; simp; omega
        intro v' w2 hown2 hg2 _
        have hbr2 : Below w.heap.size w w2 := (hbr1.alloc hbr1.size _).grown hg2 (by have := hbr1.size; simp; omega) (fun k hk => (hown1.lt k hk).1)
        have HO2 := Lib.hid hown2
        clear hown1 hown2 hg2
        go_wp2
        go_roundw
        case rel => exact ⟨k + 1, by go_num, by omega, by rw [HT.out, List.length_append, turnL_length, List.flatMap_append]; simpa [Rng.cells] using HO2.out, hbr2⟩
        case measure => simp [intOf]; omega
    · have hkn : k = n := by omega
      subst hkn
      obtain ⟨ad, rfl, hab, hca⟩ := (HA.out.below hbr).seeR (by rw [HL.out]; omega)
      have hln : 0 < l.length := by rw [HL.out]; exact h4
      have hA2 := (HA.out.below hbr).more hbr.size
      have hm0 := meet_any (some ad) c l wr hA2 (by rw [HL.out]; unfold maxLen; omega)
      rw [HL.out] at hm0
      have ht1 := turn_meet l b
      have ht2 := turn_meet1 l b hln
      have hnm := meetL_norm l
      have htl : (turnL l b k).length = k := turnL_length l b k
      rw [htl] at hown
      rw [htl]
      rw [HL.out] at ht1 ht2
      obtain ⟨x, hx⟩ : ∃ x, x = l[0] := ⟨_, rfl⟩
      rw [← hx] at ht2
      have HC : ∀ w', Below w.heap.size w w' → w'.cell? ad = some (.string x.lo) ∧ w'.cell? ⟨ad.block, ad.off + 1, none⟩ = some (.string x.hi) ∧ w'.cell? ⟨ad.block, ad.off + 2, none⟩ = some (.bool x.op) := fun w' hb' => by
        obtain ⟨ad', hadd, _, hca'⟩ := (HA.out.below hb').seeR hln
        injection hadd with hadd
        subst hadd
        have h := hca' 0 hln
        rw [Nat.zero_mul, Addr.add_zero', ← hx] at h
        exact h
      clear hx hca hA2
      generalize turnL l b k = ts at *
      generalize meetL l = m at *
      obtain ⟨ml, mh, mo⟩ := m
      obtain ⟨xl, xh, xo⟩ := x
      obtain ⟨g, cap, hform⟩ : ∃ g cap, (Value.slice A2 k c2) = .slice (some ⟨g, 0, none⟩) k cap := by
        rcases hown.2 with ⟨_, h0⟩ | ⟨g, cap, _, hv, _⟩
        · omega
        · exact ⟨g, cap, hv⟩
      injection hform with hA2 _ hc2
      subst hA2 hc2
      have hgl := (hown.lt g rfl)
      unfold Rng.v at hm0
      have H0 := Lib.hid hm0
      have HO := Lib.hid hown
      have HT1 := Lib.hid ht1
      have HT2 := Lib.hid ht2
      have HNM := Lib.hid hnm
      have HTL := Lib.hid htl
      have HCC := Lib.hid HC
      have HG0 := Lib.hid hgl
      clear hm0 hown ht1 ht2 hnm htl HC hgl hlt hk
      go_wp2_with fail
      refine H0.out.mono ?_
      rintro e w1 ⟨rfl, hb1⟩
      have hbr1 : Below w.heap.size w w1 := hbr.trans (hb1.mono hbr.size)
      have HO1 := Lib.hid (own_below HO.out hb1)
      have HG1 := Lib.hid (show g < w1.heap.size from Nat.lt_of_lt_of_le HG0.out.2 hb1.size)
      clear hb1
      go_wp2
      have HS : OrdS w g k c2 w1.heap.size ⟨ml, mh, mo⟩ ts (w1.alloc (rcells ml mh mo)) := ⟨HO1.out.alloc _, Box.fresh _ _ _, hbr1.alloc hbr1.size _⟩
      have HG8 := Lib.hid (show ¬ w1.heap.size = g from Nat.ne_of_gt HG1.out)
      have HGB := Lib.hid (show w.heap.size ≤ g from HG0.out.1)
      have HM1 := Lib.hid (show ∀ w', OrdS w g k c2 w1.heap.size ⟨ml, mh, mo⟩ ts w' → Calls Try.prog 11 #[.slice (some ⟨g, 0, none⟩) k c2] w' fun e w'' => e = .returned (.agg #[.string ml, .string mh, .bool mo]) ∧ Below w'.heap.size w' w'' from fun w' hS' => by
        have h := meet_any (some ⟨g, 0, none⟩) c2 ts w' (Lies.own (n := k) (c := c2) Rng.cells3 (by rw [HTL.out]; exact hS'.1)) (by rw [HTL.out]; unfold maxLen; omega)
        rw [HTL.out, HT1.out] at h
        exact h)
      have HM2 := Lib.hid (show ∀ w' v, Ord58 k ts ⟨xl, xh, xo⟩ v w' → Calls Try.prog 11 #[v] w' fun e w'' => e = .returned (.agg #[.string ml, .string mh, .bool mo]) ∧ Below w'.heap.size w' w'' from fun w' v h58 => meet_58 HTL.out (by omega) HT2.out h58)
      have HM3 := Lib.hid (show ∀ w' v, OrdLit g #[.string ml, .string mh, .bool mo, .string ml, .string mh, .bool mo] 2 v w' → Calls Try.prog 11 #[v] w' fun e w'' => e = .returned (.agg #[.string ml, .string mh, .bool mo]) ∧ Below w'.heap.size w' w'' from fun w' v h => meet_lit2 (r := ⟨ml, mh, mo⟩) HNM.out h)
      have HC0 := Lib.hid (show ∀ w', OrdS w g k c2 w1.heap.size ⟨ml, mh, mo⟩ ts w' → w'.cell? ad = some (.string xl) ∧ w'.cell? ⟨ad.block, ad.off + 1, none⟩ = some (.string xh) ∧ w'.cell? ⟨ad.block, ad.off + 2, none⟩ = some (.bool xo) from fun w' hS' => HCC.out w' hS'.2.2)
      have hki : (0 : Int) < k := by omega
      refine wp_region_inv [48, 49, 50, 51, 52, 53, 54, 55, 56, 57, 58, 59, 60, 61, 62, 63, 64, 65, 66, 67, 68, 69, 70, 71, 72, 73, 4] (by kernel_rfl) (by kernel_rfl) (OrdS w g k c2 w1.heap.size ⟨ml, mh, mo⟩ ts) (OrdR w g k c2 w1.heap.size ⟨ml, mh, mo⟩ ts ⟨xl, xh, xo⟩) (OrderV ad g k c c2 ts ml mh xl xh mo xo) (by kernel_rfl) (fun w1 w2 h1 h2 => h1.2.2 h2) (fun t v w1 w2 h1 h2 => h2.on h1) ((OrdR.of w g k c2 w1.heap.size ⟨ml, mh, mo⟩ ts ⟨xl, xh, xo⟩ (Below.refl _ _).drew).2.2 HS) (steps_of ?_) ?_
      · refine Steps1.cons (fun ax wx hS hG => ?_) (Steps1.cons (fun ax wx hS hG => ?_) (Steps1.cons (fun ax wx hS hG => ?_) (Steps1.cons (fun ax wx hS hG => ?_) (Steps1.cons (fun ax wx hS hG => ?_) (Steps1.cons (fun ax wx hS hG => ?_) (Steps1.cons (fun ax wx hS hG => ?_) (Steps1.cons (fun ax wx hS hG => ?_) (Steps1.cons (fun ax wx hS hG => ?_) (Steps1.cons (fun ax wx hS hG => ?_) (Steps1.cons (fun ax wx hS hG => ?_) (Steps1.cons (fun ax wx hS hG => ?_) (Steps1.cons (fun ax wx hS hG => ?_) (Steps1.cons (fun ax wx hS hG => ?_) (Steps1.cons (fun ax wx hS hG => ?_) (Steps1.cons (fun ax wx hS hG => ?_) (Steps1.cons (fun ax wx hS hG => ?_) (Steps1.cons (fun ax wx hS hG => ?_) (Steps1.cons (fun ax wx hS hG => ?_) (Steps1.cons (fun ax wx hS hG => ?_) (Steps1.cons (fun ax wx hS hG => ?_) (Steps1.cons (fun ax wx hS hG => ?_) (Steps1.cons (fun ax wx hS hG => ?_) (Steps1.cons (fun ax wx hS hG => ?_) (Steps1.cons (fun ax wx hS hG => ?_) (Steps1.cons (fun ax wx hS hG => ?_) (Steps1.cons (fun ax wx hS hG => ?_) Steps1.nil))))))))))))))))))))))))))
        · have q5 := hG.old 5 (by kernel_rfl) (by kernel_rfl)
          refine step_value (v := .slice (some ⟨g, 0, none⟩) k c2) (w' := wx) rfl rfl ?_ (OrdR.of w g k c2 w1.heap.size ⟨ml, mh, mo⟩ ts ⟨xl, xh, xo⟩ (Below.refl _ _)) (fun d hd => by cases hd; exact rfl)
          go_simp
        · obtain ⟨_, q48, rfl⟩ := hG.new 48 (by kernel_rfl) (by kernel_rfl)
          refine step_call (w1 := wx) (f := 11) (args := #[.slice (some ⟨g, 0, none⟩) k c2]) rfl rfl ?_ ((HM1.out wx hS).mono ?_)
          · go_simp
          · rintro e w' ⟨rfl, hq⟩
            exact ⟨_, rfl, (OrdR.of w g k c2 w1.heap.size ⟨ml, mh, mo⟩ ts ⟨xl, xh, xo⟩ hq), fun d hd => by cases hd; exact rfl⟩
        · have q8 := hG.old 8 (by kernel_rfl) (by kernel_rfl)
          obtain ⟨z0, z1, z2⟩ := RBlk.cells hS.2.1
          refine step_value (v := (.agg #[.string ml, .string mh, .bool mo])) (w' := wx) rfl rfl ?_ (OrdR.of w g k c2 w1.heap.size ⟨ml, mh, mo⟩ ts ⟨xl, xh, xo⟩ (Below.refl _ _)) (fun d hd => by cases hd; exact rfl)
          go_simp
        · obtain ⟨_, q49, rfl⟩ := hG.new 49 (by kernel_rfl) (by kernel_rfl)
          obtain ⟨_, q50, rfl⟩ := hG.new 50 (by kernel_rfl) (by kernel_rfl)
          refine step_value (v := .bool true) (w' := wx) rfl rfl ?_ (OrdR.of w g k c2 w1.heap.size ⟨ml, mh, mo⟩ ts ⟨xl, xh, xo⟩ (Below.refl _ _)) (fun d hd => by cases hd; exact rfl)
          go_simp
        · obtain ⟨_, q51, rfl⟩ := hG.new 51 (by kernel_rfl) (by kernel_rfl)
          refine step_value (v := .bool true) (w' := wx) rfl rfl ?_ (OrdR.of w g k c2 w1.heap.size ⟨ml, mh, mo⟩ ts ⟨xl, xh, xo⟩ (Below.refl _ _)) (fun d hd => by cases hd; exact rfl)
          go_simp
        · have q5 := hG.old 5 (by kernel_rfl) (by kernel_rfl)
          obtain ⟨_, q52, rfl⟩ := hG.new 52 (by kernel_rfl) (by kernel_rfl)
          refine step_value (v := .slice (some ⟨g, 0, none⟩) k c2) (w' := wx) rfl (by simp [Region.wanted, yielded, q52]) ?_ (OrdR.of w g k c2 w1.heap.size ⟨ml, mh, mo⟩ ts ⟨xl, xh, xo⟩ (Below.refl _ _)) (fun d hd => by cases hd; exact rfl)
          go_simp
        · have q0 := hG.old 0 (by kernel_rfl) (by kernel_rfl)
          obtain ⟨_, q52, rfl⟩ := hG.new 52 (by kernel_rfl) (by kernel_rfl)
          refine step_value (v := .slice (some ad) k c) (w' := wx) rfl (by simp [Region.wanted, yielded, q52]) ?_ (OrdR.of w g k c2 w1.heap.size ⟨ml, mh, mo⟩ ts ⟨xl, xh, xo⟩ (Below.refl _ _)) (fun d hd => by cases hd; exact rfl)
          go_simp
        · obtain ⟨_, q54, rfl⟩ := hG.new 54 (by kernel_rfl) (by kernel_rfl)
          obtain ⟨_, q52, rfl⟩ := hG.new 52 (by kernel_rfl) (by kernel_rfl)
          refine step_value (v := .pointer (some ad)) (w' := wx) rfl (by simp [Region.wanted, yielded, q52]) ?_ (OrdR.of w g k c2 w1.heap.size ⟨ml, mh, mo⟩ ts ⟨xl, xh, xo⟩ (Below.refl _ _)) (fun d hd => by cases hd; exact rfl)
          go_simp
        · obtain ⟨_, q55, rfl⟩ := hG.new 55 (by kernel_rfl) (by kernel_rfl)
          obtain ⟨_, q52, rfl⟩ := hG.new 52 (by kernel_rfl) (by kernel_rfl)
          obtain ⟨z0, z1, z2⟩ := HC0.out wx hS
          refine step_value (v := (.agg #[.string xl, .string xh, .bool xo])) (w' := wx) rfl (by simp [Region.wanted, yielded, q52]) ?_ (OrdR.of w g k c2 w1.heap.size ⟨ml, mh, mo⟩ ts ⟨xl, xh, xo⟩ (Below.refl _ _)) (fun d hd => by cases hd; exact rfl)
          go_simp
        · obtain ⟨_, q56, rfl⟩ := hG.new 56 (by kernel_rfl) (by kernel_rfl)
          obtain ⟨_, q52, rfl⟩ := hG.new 52 (by kernel_rfl) (by kernel_rfl)
          refine step_value (v := .slice (some ⟨wx.heap.size, 0, none⟩) 1 1) (w' := wx.alloc (.cells #[.string xl, .string xh, .bool xo] 25)) rfl (by simp [Region.wanted, yielded, q52]) ?_ (OrdR.of w g k c2 w1.heap.size ⟨ml, mh, mo⟩ ts ⟨xl, xh, xo⟩ ((Below.refl _ _).alloc (Nat.le_refl _) _)) (fun d hd => by cases hd; exact ⟨_, Nat.ne_of_gt (hS.1.lt g rfl).2, rfl, Box.fresh _ _ _⟩)
          go_simp
        · obtain ⟨_, q53, rfl⟩ := hG.new 53 (by kernel_rfl) (by kernel_rfl)
          obtain ⟨v1, q57, h57⟩ := hG.new 57 (by kernel_rfl) (by kernel_rfl)
          obtain ⟨_, q52, rfl⟩ := hG.new 52 (by kernel_rfl) (by kernel_rfl)
          have h57b : OrdLit g #[.string xl, .string xh, .bool xo] 1 v1 wx := h57
          clear h57
          obtain ⟨b, hbg, rfl, hbx⟩ := h57b
          obtain ⟨v', w', hr, ho, hgr, h58, hcl⟩ := run_append_keeps (P := Try.prog) (m := 1) (news := [.string xl, .string xh, .bool xo]) 22 22 i0 (.agg #[.string ⟨#[]⟩, .string ⟨#[]⟩, .bool false]) 40 Try.underlying22 hi0 hz0 hz1 hz2 rfl hS.1 ⟨b, 0, none⟩ 1 rfl (lit_cells hbx) lit_one (by omega) (by omega)
          refine step_value (v := v') (w' := w') rfl (by simp [Region.wanted, yielded, q52]) ?_ ⟨hgr, hcl, fun hS0 => ⟨ho, Box.grown hS0.2.1 hgr (by simpa using HG8.out), hS0.2.2.grown hgr hS0.2.2.size (fun k hk => by injection hk with hk; subst hk; exact HGB.out)⟩⟩ (fun d hd => by cases hd; exact h58)
          clear ho hgr h58 hcl hbx
          have e53 : ax.eval (.tmp 53) = .slice (some ⟨g, 0, none⟩) k c2 := by go_simp
          have e57 : ax.eval (.tmp 57) = .slice (some ⟨b, 0, none⟩) 1 1 := by go_simp
          unfold execOp
          simp only [resolve, invoke, builtin, Sem.run_bind, Sem.run_pure, Result.andThen_ok, List.map_toArray, List.map_cons, List.map_nil, e53, e57, hr]
        · obtain ⟨v1, q58, h58⟩ := hG.new 58 (by kernel_rfl) (by kernel_rfl)
          obtain ⟨_, q52, rfl⟩ := hG.new 52 (by kernel_rfl) (by kernel_rfl)
          have h58b : Ord58 k ts ⟨xl, xh, xo⟩ v1 wx := h58
          clear h58
          refine step_call (w1 := wx) (f := 11) (args := #[v1]) rfl (by simp [Region.wanted, yielded, q52]) ?_ ((HM2.out wx v1 h58b).mono ?_)
          · clear h58b
            go_simp
          · rintro e w' ⟨rfl, hq⟩
            exact ⟨_, rfl, (OrdR.of w g k c2 w1.heap.size ⟨ml, mh, mo⟩ ts ⟨xl, xh, xo⟩ hq), fun d hd => by cases hd; exact rfl⟩
        · have q8 := hG.old 8 (by kernel_rfl) (by kernel_rfl)
          obtain ⟨_, q52, rfl⟩ := hG.new 52 (by kernel_rfl) (by kernel_rfl)
          obtain ⟨z0, z1, z2⟩ := RBlk.cells hS.2.1
          refine step_value (v := (.agg #[.string ml, .string mh, .bool mo])) (w' := wx) rfl (by simp [Region.wanted, yielded, q52]) ?_ (OrdR.of w g k c2 w1.heap.size ⟨ml, mh, mo⟩ ts ⟨xl, xh, xo⟩ (Below.refl _ _)) (fun d hd => by cases hd; exact rfl)
          go_simp
        · obtain ⟨_, q59, rfl⟩ := hG.new 59 (by kernel_rfl) (by kernel_rfl)
          obtain ⟨_, q60, rfl⟩ := hG.new 60 (by kernel_rfl) (by kernel_rfl)
          obtain ⟨_, q52, rfl⟩ := hG.new 52 (by kernel_rfl) (by kernel_rfl)
          refine step_value (v := .bool true) (w' := wx) rfl (by simp [Region.wanted, yielded, q52]) ?_ (OrdR.of w g k c2 w1.heap.size ⟨ml, mh, mo⟩ ts ⟨xl, xh, xo⟩ (Below.refl _ _)) (fun d hd => by cases hd; exact rfl)
          go_simp
        · obtain ⟨_, q52, rfl⟩ := hG.new 52 (by kernel_rfl) (by kernel_rfl)
          obtain ⟨_, q61, rfl⟩ := hG.new 61 (by kernel_rfl) (by kernel_rfl)
          refine step_value (v := .bool true) (w' := wx) rfl rfl ?_ (OrdR.of w g k c2 w1.heap.size ⟨ml, mh, mo⟩ ts ⟨xl, xh, xo⟩ (Below.refl _ _)) (fun d hd => by cases hd; exact rfl)
          go_simp
        · obtain ⟨_, q62, rfl⟩ := hG.new 62 (by kernel_rfl) (by kernel_rfl)
          refine step_value (v := .bool true) (w' := wx) rfl rfl ?_ (OrdR.of w g k c2 w1.heap.size ⟨ml, mh, mo⟩ ts ⟨xl, xh, xo⟩ (Below.refl _ _)) (fun d hd => by cases hd; exact rfl)
          go_simp
        · have q8 := hG.old 8 (by kernel_rfl) (by kernel_rfl)
          obtain ⟨_, q63, rfl⟩ := hG.new 63 (by kernel_rfl) (by kernel_rfl)
          obtain ⟨z0, z1, z2⟩ := RBlk.cells hS.2.1
          refine step_value (v := (.agg #[.string ml, .string mh, .bool mo])) (w' := wx) rfl (by simp [Region.wanted, yielded, q63]) ?_ (OrdR.of w g k c2 w1.heap.size ⟨ml, mh, mo⟩ ts ⟨xl, xh, xo⟩ (Below.refl _ _)) (fun d hd => by cases hd; exact rfl)
          go_simp
        · have q8 := hG.old 8 (by kernel_rfl) (by kernel_rfl)
          obtain ⟨_, q63, rfl⟩ := hG.new 63 (by kernel_rfl) (by kernel_rfl)
          obtain ⟨z0, z1, z2⟩ := RBlk.cells hS.2.1
          refine step_value (v := (.agg #[.string ml, .string mh, .bool mo])) (w' := wx) rfl (by simp [Region.wanted, yielded, q63]) ?_ (OrdR.of w g k c2 w1.heap.size ⟨ml, mh, mo⟩ ts ⟨xl, xh, xo⟩ (Below.refl _ _)) (fun d hd => by cases hd; exact rfl)
          go_simp
        · obtain ⟨_, q64, rfl⟩ := hG.new 64 (by kernel_rfl) (by kernel_rfl)
          obtain ⟨_, q65, rfl⟩ := hG.new 65 (by kernel_rfl) (by kernel_rfl)
          obtain ⟨_, q63, rfl⟩ := hG.new 63 (by kernel_rfl) (by kernel_rfl)
          refine step_value (v := .slice (some ⟨wx.heap.size, 0, none⟩) 2 2) (w' := wx.alloc (.cells #[.string ml, .string mh, .bool mo, .string ml, .string mh, .bool mo] 25)) rfl (by simp [Region.wanted, yielded, q63]) ?_ (OrdR.of w g k c2 w1.heap.size ⟨ml, mh, mo⟩ ts ⟨xl, xh, xo⟩ ((Below.refl _ _).alloc (Nat.le_refl _) _)) (fun d hd => by cases hd; exact ⟨_, Nat.ne_of_gt (hS.1.lt g rfl).2, rfl, Box.fresh _ _ _⟩)
          go_simp
        · obtain ⟨v1, q66, h66⟩ := hG.new 66 (by kernel_rfl) (by kernel_rfl)
          obtain ⟨_, q63, rfl⟩ := hG.new 63 (by kernel_rfl) (by kernel_rfl)
          have h66b : OrdLit g #[.string ml, .string mh, .bool mo, .string ml, .string mh, .bool mo] 2 v1 wx := h66
          clear h66
          refine step_call (w1 := wx) (f := 11) (args := #[v1]) rfl (by simp [Region.wanted, yielded, q63]) ?_ ((HM3.out wx v1 h66b).mono ?_)
          · clear h66b
            go_simp
          · rintro e w' ⟨rfl, hq⟩
            exact ⟨_, rfl, (OrdR.of w g k c2 w1.heap.size ⟨ml, mh, mo⟩ ts ⟨xl, xh, xo⟩ hq), fun d hd => by cases hd; exact rfl⟩
        · have q8 := hG.old 8 (by kernel_rfl) (by kernel_rfl)
          obtain ⟨_, q63, rfl⟩ := hG.new 63 (by kernel_rfl) (by kernel_rfl)
          obtain ⟨z0, z1, z2⟩ := RBlk.cells hS.2.1
          refine step_value (v := (.agg #[.string ml, .string mh, .bool mo])) (w' := wx) rfl (by simp [Region.wanted, yielded, q63]) ?_ (OrdR.of w g k c2 w1.heap.size ⟨ml, mh, mo⟩ ts ⟨xl, xh, xo⟩ (Below.refl _ _)) (fun d hd => by cases hd; exact rfl)
          go_simp
        · obtain ⟨_, q67, rfl⟩ := hG.new 67 (by kernel_rfl) (by kernel_rfl)
          obtain ⟨_, q68, rfl⟩ := hG.new 68 (by kernel_rfl) (by kernel_rfl)
          obtain ⟨_, q63, rfl⟩ := hG.new 63 (by kernel_rfl) (by kernel_rfl)
          refine step_value (v := .bool true) (w' := wx) rfl (by simp [Region.wanted, yielded, q63]) ?_ (OrdR.of w g k c2 w1.heap.size ⟨ml, mh, mo⟩ ts ⟨xl, xh, xo⟩ (Below.refl _ _)) (fun d hd => by cases hd; exact rfl)
          go_simp
        · obtain ⟨_, q63, rfl⟩ := hG.new 63 (by kernel_rfl) (by kernel_rfl)
          obtain ⟨_, q69, rfl⟩ := hG.new 69 (by kernel_rfl) (by kernel_rfl)
          refine step_value (v := .bool true) (w' := wx) rfl rfl ?_ (OrdR.of w g k c2 w1.heap.size ⟨ml, mh, mo⟩ ts ⟨xl, xh, xo⟩ (Below.refl _ _)) (fun d hd => by cases hd; exact rfl)
          go_simp
        · obtain ⟨_, q70, rfl⟩ := hG.new 70 (by kernel_rfl) (by kernel_rfl)
          refine step_value (v := .bool true) (w' := wx) rfl rfl ?_ (OrdR.of w g k c2 w1.heap.size ⟨ml, mh, mo⟩ ts ⟨xl, xh, xo⟩ (Below.refl _ _)) (fun d hd => by cases hd; exact rfl)
          go_simp
        · obtain ⟨_, q71, rfl⟩ := hG.new 71 (by kernel_rfl) (by kernel_rfl)
          refine step_call (w1 := wx) (f := 8) (args := #[]) rfl (by simp [Region.wanted, yielded, q71]) ?_ ((awake_true wx).mono ?_)
          · go_simp
          · rintro e w' ⟨rfl, hq⟩
            exact ⟨_, rfl, (OrdR.of w g k c2 w1.heap.size ⟨ml, mh, mo⟩ ts ⟨xl, xh, xo⟩ hq), fun d hd => by cases hd; exact rfl⟩
        · obtain ⟨_, q71, rfl⟩ := hG.new 71 (by kernel_rfl) (by kernel_rfl)
          obtain ⟨_, q72, rfl⟩ := hG.new 72 (by kernel_rfl) (by kernel_rfl)
          refine step_value (v := .bool true) (w' := wx) rfl rfl ?_ (OrdR.of w g k c2 w1.heap.size ⟨ml, mh, mo⟩ ts ⟨xl, xh, xo⟩ (Below.refl _ _)) (fun d hd => by cases hd; exact rfl)
          go_simp
        · obtain ⟨_, q73, rfl⟩ := hG.new 73 (by kernel_rfl) (by kernel_rfl)
          refine step_value (v := .bool true) (w' := wx) rfl rfl ?_ (OrdR.of w g k c2 w1.heap.size ⟨ml, mh, mo⟩ ts ⟨xl, xh, xo⟩ (Below.refl _ _)) (fun d hd => by cases hd; exact rfl)
          go_simp
      · intro f w' hS hV
        have h4 : f 4 = .bool true := hV 4 (by decide)
        simp only [puts, Act.put, List.setIfInBounds_toArray, List.set_cons_succ, List.set_cons_zero]
        go_wp2
        go_ret
        try rw [h4]
        exact ⟨rfl, hS.2.2⟩

end Go.Proofs.Ytmbcmacegncnmaa
