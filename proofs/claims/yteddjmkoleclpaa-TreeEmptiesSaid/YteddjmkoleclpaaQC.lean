/- The walks of Grow (of nodes) and of Concat, at however many slices of nodes, or of notes. -/
import Derived.Test.YteddjmkoleclpaaNDS
import Derived.Test.YteddjmkoleclpaaQA
import Derived.Test.YteddjmkoleclpaaOV
import Derived.Test.YteddjmkoleclpaaRStep
set_option linter.unusedVariables false
set_option linter.unusedSimpArgs false
namespace Go.Proofs.Yteddjmkoleclpaa
open Go.RowKit

/-- A value that is a slice of slices of these. -/
def SsV {α : Type} (cs : α → List Value) (k : Nat) (w : World) (v : Value) (ls : List (List α)) : Prop := ∃ (A : Option Addr) (c : Nat) (ss : List Sl), v = .slice A ls.length c ∧ Lies (fun s : Sl => [.slice s.a s.n s.c]) 1 w w.heap.size A ss ∧ AllN (fun s l => SlB cs k w (All w) s l) ss ls

set_option maxHeartbeats 2000000 in
set_option maxRecDepth 100000 in
theorem grow_nd (n : Nat) (w : World) (hn : n ≤ 1000000) :
    Calls Try.prog 90 #[.slice none 0 0, .int .i64 n] w fun e w' => ∃ v', e = .returned v' ∧ w'.ownsRow w.heap.size 30 4 v' 0 [] ∧ Below w.heap.size w w' := by
  by_cases h0 : n = 0
  · subst h0
    go_enter Try.func90, Try.ntmps90
    go_wp2
    go_ret
    exact ⟨_, rfl, World.ownsRow_nil _ _ _ _, Below.refl _ _⟩
  · obtain ⟨i0, hi0, hz0, hz1, hz2⟩ := info_parts node_info
    have hold : (Builtin.firstCells i0.size 0 (.slice none 0 0)).run Try.prog w.drew = .ok (([] : List Value).toArray) w.drew := run_firstCells_none w.drew i0.size 0 0 0
    obtain ⟨G, hG⟩ : ∃ G, G = grownCap w n 0 30 := ⟨_, rfl⟩
    have hGn : n ≤ G := by rw [hG]; exact grownCap_ge w _ _ _
    have hGm : G ≤ maxLen := by rw [hG]; exact grownCap_le_maxLen w n 0 _ (by unfold maxLen; omega)
    have hrz : ∃ C : Array Value, C.size = G * 4 ∧ ∀ ty, (Builtin.append_ #[26, 3] ty #[.slice none 0 0, .int .i64 (n : Int)]).run Try.prog w =
        .ok (.slice (some ⟨w.heap.size, 0, none⟩) n G) (w.drew.alloc (.cells C 30)) := by
      have h := fun ty => Lib.run_append_grow_zeros w 26 3 ty 30 i0 (.agg #[.string ⟨#[]⟩, .slice none 0 0, .slice none 0 0, .slice none 0 0]) .i64 .i64 Try.underlying26 Try.underlying3 hi0 hz0 none 0 0 [] hold n (by omega) (by omega) (by omega) (by omega) (by rw [hz2]; omega)
        (by have h2 := growslice_fits (need := 0 + n) (old := 0) (bytes := i0.bytes) (by omega) (by rw [hz2]; omega)
            exact h2)
      simp only [Nat.zero_add] at h
      rw [← hG] at h
      refine ⟨_, ?_, h⟩
      simp [zero_size]
      show n * 4 + (G - n) * 4 = G * 4
      omega
    obtain ⟨C, hC, hrz⟩ := hrz
    have hGI : (G : Int) ≤ 9223372036854775807 := by unfold maxLen at hGm; omega
    have HC := Lib.hid hC
    have HGM := Lib.hid hGm
    clear hold hG hC hi0 hz0 hz1 hz2 hGm
    go_enter Try.func90, Try.ntmps90
    go_wp2_with (at_builtin; refine Lib.wpList_append_run _ rfl _ _ _ _ rfl _ _ rfl rfl _ _ (hrz _) ?_)
    go_ret
    exact ⟨_, rfl, World.ownsRow_made w.drew C G (Nat.le_refl _) HGM.out HC.out, (Below.refl _ _).drew.alloc (Nat.le_refl _) _⟩


set_option maxHeartbeats 2000000 in
set_option maxRecDepth 100000 in
theorem concat_nds (v : Value) (ls : List (List Nr)) (w : World) (hV : SsV Nr.cells 4 w v ls) (hp : ls.length ≤ 100000) (hn : ls.flatten.length ≤ 1000000) :
    Calls Try.prog 72 #[v] w fun e w' => ∃ v', e = .returned v' ∧ w'.ownsRow w.heap.size 30 4 v' ls.flatten.length (ls.flatten.flatMap Nr.cells) ∧ Below w.heap.size w w' := by
  obtain ⟨A, c, ss, rfl, hL, hA⟩ := hV
  obtain ⟨p, hpl⟩ : ∃ p, p = ls.length := ⟨_, rfl⟩
  obtain ⟨s, hs⟩ : ∃ s, s = ls.flatten.length := ⟨_, rfl⟩
  rw [← hpl] at hp ⊢
  rw [← hs] at hn ⊢
  have hss : ss.length = p := by rw [hA.len, hpl]
  have HP := Lib.hid hpl
  have HS := Lib.hid hs
  have HSS := Lib.hid hss
  have HLI := Lib.hid hL
  have HA := Lib.hid hA
  have hg := fun W => grow_nd s W (by omega)
  have HG := Lib.hid hg
  have hn0 : decide ((s : Int) < 0) = false := by simp
  clear hL hA hg hpl hs hss
  go_enter Try.func72, Try.ntmps72
  go_wp2
  go_loopw [3, 11] (fun sv iv wr => ∃ i m : Nat, iv = .int .i64 i ∧ sv = .int .i64 m ∧ i ≤ p ∧ Hid (m = (ls.take i).flatten.length) ∧ wr = w) (fun _ iv _ => (p - intOf iv).toNat)
  case atStart => exact ⟨0, 0, rfl, rfl, by omega, by show _ = _; rfl, rfl⟩
  case round =>
    obtain ⟨i, m, rfl, rfl, hip, HM, hwe⟩ := hrel
    replace hwe := hwe.symm
    subst hwe
    by_cases hlt : i < p
    · have hil : i < ls.length := by rw [← HP.out]; exact hlt
      have his : i < ss.length := by rw [HSS.out]; exact hlt
      obtain ⟨ad, rfl, hab, hca⟩ := HLI.out (by omega)
      have c0 := hca i his 0 _ rfl
      rw [Addr.add_zero', Nat.mul_one] at c0
      have hsl := HA.out.get i his hil
      obtain ⟨x, hx⟩ : ∃ x, x = ss[i]'his := ⟨_, rfl⟩
      rw [← hx] at c0 hsl
      obtain ⟨xa, xn, xc⟩ := x
      simp only at c0
      obtain ⟨m2, hm2⟩ : ∃ m2, m2 = m + xn := ⟨_, rfl⟩
      have hst : m2 = (ls.take (i + 1)).flatten.length := by
        have h1 : xn = ls[i].length := hsl.1
        rw [hm2, List.take_succ_eq_append_getElem hil, List.flatten_append, List.length_append, ← HM.out, h1]
        simp
      have hms : m2 ≤ s := by
        rw [hst, HS.out]
        have := congrArg List.length (congrArg List.flatten (List.take_append_drop (i + 1) ls))
        rw [List.flatten_append, List.length_append] at this
        omega
      have HST := Lib.hid hst
      have wm : IntKind.i64.wrap ((m : Int) + (xn : Int)) = (m2 : Int) := by rw [IntKind.wrap_i64]; omega
      have wm2 : (m : Int) + (xn : Int) = (m2 : Int) := by omega
      have hn1 : decide ((m2 : Int) < 0) = false := by simp
      clear hst hx hca hsl hm2 HM
      go_wp2
      go_roundw
      case rel => exact ⟨i + 1, m2, by first | rfl | go_num, by first | rfl | go_num, by omega, HST, by first | rfl | trivial⟩
      case measure => simp [intOf]; omega
    · have hip2 : i = p := by omega
      have hms : m = s := by rw [HM.out, hip2, HP.out, List.take_length, ← HS.out]
      subst hms
      clear HM hip2
      go_wp2_with fail
      refine (HG.out _).mono ?_
      rintro e w1 ⟨v1, rfl, hown, hb1⟩
      have HB1 := Lib.hid hb1
      have HO1 := Lib.hid hown
      clear hown hb1
      go_wp2
      go_loopw [6, 27] (fun av iv wq => ∃ i m : Nat, iv = .int .i64 i ∧ i ≤ p ∧ Hid (m = (ls.take i).flatten.length) ∧ Hid (wq.ownsRow w.heap.size 30 4 av m ((ls.take i).flatten.flatMap Nr.cells)) ∧ Below w.heap.size w wq) (fun _ iv _ => (p - intOf iv).toNat)
      case atStart => exact ⟨0, 0, rfl, by omega, by show _ = _; rfl, HO1, HB1.out⟩
      case round =>
        clear HO1 HB1
        obtain ⟨i, m1, rfl, hip, HM, HO, hbq⟩ := hrel
        by_cases hlt : i < p
        · have hil : i < ls.length := by rw [← HP.out]; exact hlt
          have his : i < ss.length := by rw [HSS.out]; exact hlt
          obtain ⟨ad, rfl, hab, hca⟩ := HLI.out (by omega)
          have c0 := hca i his 0 _ rfl
          rw [Addr.add_zero', Nat.mul_one] at c0
          replace c0 := (hbq.cell (lt_of_cell c0)).trans c0
          have hsl := HA.out.get i his hil
          obtain ⟨x, hx⟩ : ∃ x, x = ss[i]'his := ⟨_, rfl⟩
          rw [← hx] at c0 hsl
          obtain ⟨xa, xn, xc⟩ := x
          simp only at c0
          obtain ⟨h1, h2, h3, h4⟩ := hsl
          simp only at h1 h2 h3 h4
          obtain ⟨l, hl⟩ : ∃ l, l = ls[i]'hil := ⟨_, rfl⟩
          rw [← hl] at h1 h2 h3
          have HLE := Lib.hid h1.symm
          have HLL := Lib.hid (h2.lies (B := w.heap.size) (fun b h => h))
          have HLZ := Lib.hid h4
          have hst : (ls.take (i + 1)).flatten = (ls.take i).flatten ++ l := by
            rw [hl, List.take_succ_eq_append_getElem hil, List.flatten_append]; simp
          have hms : m1 + xn ≤ 1000000 := by
            have h5 := congrArg List.length (congrArg List.flatten (List.take_append_drop (i + 1) ls))
            rw [List.flatten_append, List.length_append, hst, List.length_append, ← HM.out, HLE.out, ← HS.out] at h5
            omega
          have HST := Lib.hid hst
          have HMS := Lib.hid hms
          have hown := HO.out
          clear h1 h2 h3 h4 hl hx hca hst hms
          go_wp2_with (at_builtin; refine append_nds _ rfl _ _ rfl w.heap.size _ m1 _ rfl hown w.heap.size xa xn xc l rfl HLE.out (HLL.out.below hbq) HLZ.out ?a2 hbq.size ?_)
          case a2 => exact HMS.out
          intro v' w' hown' hg'
          have hbf : Below w.heap.size w w' := hbq.grown hg' hbq.size (fun k hk => (hown.lt k hk).1)
          have HF := Lib.hid (show m1 + xn = (ls.take (i + 1)).flatten.length ∧ w'.ownsRow w.heap.size 30 4 v' (m1 + xn) ((ls.take (i + 1)).flatten.flatMap Nr.cells) from ⟨by rw [HST.out, List.length_append, ← HM.out, HLE.out], by rw [HST.out, List.flatMap_append]; exact hown'⟩)
          clear hown hown' hg' c0
          go_wp2
          go_roundw
          case rel => exact ⟨i + 1, m1 + xn, by first | rfl | go_num, by omega, HF.out.1, HF.out.2, hbf⟩
          case measure => simp [intOf]; omega
        · have hip2 : i = p := by omega
          have HIP := Lib.hid hip2
          clear hip2
          go_wp2
          go_ret
          have h1 := HO.out
          have h2 := HM.out
          have h3 : ls.take i = ls := by rw [HIP.out, HP.out, List.take_length]
          rw [h3] at h1 h2
          rw [← HS.out] at h2
          rw [h2] at h1
          exact ⟨_, rfl, h1, hbq⟩

set_option maxHeartbeats 2000000 in
set_option maxRecDepth 100000 in
theorem concat_nts (v : Value) (ls : List (List Nt)) (w : World) (hV : SsV Nt.cells 4 w v ls) (hp : ls.length ≤ 100000) (hn : ls.flatten.length ≤ 1000000) :
    Calls Try.prog 37 #[v] w fun e w' => ∃ v', e = .returned v' ∧ w'.ownsRow w.heap.size 52 4 v' ls.flatten.length (ls.flatten.flatMap Nt.cells) ∧ Below w.heap.size w w' := by
  obtain ⟨A, c, ss, rfl, hL, hA⟩ := hV
  obtain ⟨p, hpl⟩ : ∃ p, p = ls.length := ⟨_, rfl⟩
  obtain ⟨s, hs⟩ : ∃ s, s = ls.flatten.length := ⟨_, rfl⟩
  rw [← hpl] at hp ⊢
  rw [← hs] at hn ⊢
  have hss : ss.length = p := by rw [hA.len, hpl]
  have HP := Lib.hid hpl
  have HS := Lib.hid hs
  have HSS := Lib.hid hss
  have HLI := Lib.hid hL
  have HA := Lib.hid hA
  have hg := fun W => grow_nil s W (by omega)
  have HG := Lib.hid hg
  have hn0 : decide ((s : Int) < 0) = false := by simp
  clear hL hA hg hpl hs hss
  go_enter Try.func37, Try.ntmps37
  go_wp2
  go_loopw [3, 11] (fun sv iv wr => ∃ i m : Nat, iv = .int .i64 i ∧ sv = .int .i64 m ∧ i ≤ p ∧ Hid (m = (ls.take i).flatten.length) ∧ wr = w) (fun _ iv _ => (p - intOf iv).toNat)
  case atStart => exact ⟨0, 0, rfl, rfl, by omega, by show _ = _; rfl, rfl⟩
  case round =>
    obtain ⟨i, m, rfl, rfl, hip, HM, hwe⟩ := hrel
    replace hwe := hwe.symm
    subst hwe
    by_cases hlt : i < p
    · have hil : i < ls.length := by rw [← HP.out]; exact hlt
      have his : i < ss.length := by rw [HSS.out]; exact hlt
      obtain ⟨ad, rfl, hab, hca⟩ := HLI.out (by omega)
      have c0 := hca i his 0 _ rfl
      rw [Addr.add_zero', Nat.mul_one] at c0
      have hsl := HA.out.get i his hil
      obtain ⟨x, hx⟩ : ∃ x, x = ss[i]'his := ⟨_, rfl⟩
      rw [← hx] at c0 hsl
      obtain ⟨xa, xn, xc⟩ := x
      simp only at c0
      obtain ⟨m2, hm2⟩ : ∃ m2, m2 = m + xn := ⟨_, rfl⟩
      have hst : m2 = (ls.take (i + 1)).flatten.length := by
        have h1 : xn = ls[i].length := hsl.1
        rw [hm2, List.take_succ_eq_append_getElem hil, List.flatten_append, List.length_append, ← HM.out, h1]
        simp
      have hms : m2 ≤ s := by
        rw [hst, HS.out]
        have := congrArg List.length (congrArg List.flatten (List.take_append_drop (i + 1) ls))
        rw [List.flatten_append, List.length_append] at this
        omega
      have HST := Lib.hid hst
      have wm : IntKind.i64.wrap ((m : Int) + (xn : Int)) = (m2 : Int) := by rw [IntKind.wrap_i64]; omega
      have wm2 : (m : Int) + (xn : Int) = (m2 : Int) := by omega
      have hn1 : decide ((m2 : Int) < 0) = false := by simp
      clear hst hx hca hsl hm2 HM
      go_wp2
      go_roundw
      case rel => exact ⟨i + 1, m2, by first | rfl | go_num, by first | rfl | go_num, by omega, HST, by first | rfl | trivial⟩
      case measure => simp [intOf]; omega
    · have hip2 : i = p := by omega
      have hms : m = s := by rw [HM.out, hip2, HP.out, List.take_length, ← HS.out]
      subst hms
      clear HM hip2
      go_wp2_with fail
      refine (HG.out _).mono ?_
      rintro e w1 ⟨v1, rfl, hown, hb1⟩
      have HB1 := Lib.hid hb1
      have HO1 := Lib.hid hown
      clear hown hb1
      go_wp2
      go_loopw [6, 27] (fun av iv wq => ∃ i m : Nat, iv = .int .i64 i ∧ i ≤ p ∧ Hid (m = (ls.take i).flatten.length) ∧ Hid (wq.ownsRow w.heap.size 52 4 av m ((ls.take i).flatten.flatMap Nt.cells)) ∧ Below w.heap.size w wq) (fun _ iv _ => (p - intOf iv).toNat)
      case atStart => exact ⟨0, 0, rfl, by omega, by show _ = _; rfl, HO1, HB1.out⟩
      case round =>
        clear HO1 HB1
        obtain ⟨i, m1, rfl, hip, HM, HO, hbq⟩ := hrel
        by_cases hlt : i < p
        · have hil : i < ls.length := by rw [← HP.out]; exact hlt
          have his : i < ss.length := by rw [HSS.out]; exact hlt
          obtain ⟨ad, rfl, hab, hca⟩ := HLI.out (by omega)
          have c0 := hca i his 0 _ rfl
          rw [Addr.add_zero', Nat.mul_one] at c0
          replace c0 := (hbq.cell (lt_of_cell c0)).trans c0
          have hsl := HA.out.get i his hil
          obtain ⟨x, hx⟩ : ∃ x, x = ss[i]'his := ⟨_, rfl⟩
          rw [← hx] at c0 hsl
          obtain ⟨xa, xn, xc⟩ := x
          simp only at c0
          obtain ⟨h1, h2, h3, h4⟩ := hsl
          simp only at h1 h2 h3 h4
          obtain ⟨l, hl⟩ : ∃ l, l = ls[i]'hil := ⟨_, rfl⟩
          rw [← hl] at h1 h2 h3
          have HLE := Lib.hid h1.symm
          have HLL := Lib.hid (h2.lies (B := w.heap.size) (fun b h => h))
          have HLZ := Lib.hid h4
          have hst : (ls.take (i + 1)).flatten = (ls.take i).flatten ++ l := by
            rw [hl, List.take_succ_eq_append_getElem hil, List.flatten_append]; simp
          have hms : m1 + xn ≤ 1000000 := by
            have h5 := congrArg List.length (congrArg List.flatten (List.take_append_drop (i + 1) ls))
            rw [List.flatten_append, List.length_append, hst, List.length_append, ← HM.out, HLE.out, ← HS.out] at h5
            omega
          have HST := Lib.hid hst
          have HMS := Lib.hid hms
          have hown := HO.out
          clear h1 h2 h3 h4 hl hx hca hst hms
          go_wp2_with (at_builtin; refine append_nts _ rfl _ _ rfl w.heap.size _ m1 _ rfl hown w.heap.size xa xn xc l rfl HLE.out (HLL.out.below hbq) HLZ.out ?a2 hbq.size ?_)
          case a2 => exact HMS.out
          intro v' w' hown' hg'
          have hbf : Below w.heap.size w w' := hbq.grown hg' hbq.size (fun k hk => (hown.lt k hk).1)
          have HF := Lib.hid (show m1 + xn = (ls.take (i + 1)).flatten.length ∧ w'.ownsRow w.heap.size 52 4 v' (m1 + xn) ((ls.take (i + 1)).flatten.flatMap Nt.cells) from ⟨by rw [HST.out, List.length_append, ← HM.out, HLE.out], by rw [HST.out, List.flatMap_append]; exact hown'⟩)
          clear hown hown' hg' c0
          go_wp2
          go_roundw
          case rel => exact ⟨i + 1, m1 + xn, by first | rfl | go_num, by omega, HF.out.1, HF.out.2, hbf⟩
          case measure => simp [intOf]; omega
        · have hip2 : i = p := by omega
          have HIP := Lib.hid hip2
          clear hip2
          go_wp2
          go_ret
          have h1 := HO.out
          have h2 := HM.out
          have h3 : ls.take i = ls := by rw [HIP.out, HP.out, List.take_length]
          rw [h3] at h1 h2
          rw [← HS.out] at h2
          rw [h2] at h1
          exact ⟨_, rfl, h1, hbq⟩

end Go.Proofs.Yteddjmkoleclpaa

namespace Go.Proofs.Yteddjmkoleclpaa
open Go.RowKit Go.Sort

/-- A region without a mark. -/
theorem phase0n {F : Nat → Nat → Oper → Prop} {l : List Oper} (h : Steps1 (F 0) 0 l) : ∀ (p i : Nat) (o : Oper), l.toArray[i]? = some o → p ≤ 0 → F p i o := fun p i o hi hp => by
  match p, hp with
  | 0, _ => exact steps_of h i o hi

/-- What taking does, h above the leaves. -/
def TakeC (h : Nat) : Prop := ∀ (r : Nr) (lo : ByteArray) (hi : Option ByteArray) (t : TrH h) (u : Value) (ns : List Nt) (w : World) (S : Nat → Prop), Und w S → NodeB h w S r lo t → okN h lo hi t → NV w u ns → wellN ns = true → (∀ n ∈ ns, inLow lo hi n.key = true) → szH h t + ns.length ≤ 1000 →
  Calls Try.prog 24 #[r.v, u] w fun e w' => ∃ v' ks, e = .returned v' ∧ TsV h w' (Gr S w w') v' ks ∧ TkR h lo hi ks (foldOne (pairsH h t) ns) (szH h t + ns.length) ∧ Below w.heap.size w w'
/-- What sink does, h above the leaves. -/
def SinkC (h : Nat) : Prop := ∀ (lo : ByteArray) (hi : Option ByteArray) (v u : Value) (ks : List (ByteArray × TrH h)) (W : List Nt) (w : World) (S : Nat → Prop), Und w S → TsV h w S v ks → NV w u W → Lv h lo hi ks W → 0 < W.length → szK h ks + W.length ≤ 1000 →
  Calls Try.prog 45 #[v, u] w fun e w' => ∃ v' u' ks' W', e = .returned (.tuple #[v', u']) ∧ TsV h w' (Gr S w w') v' ks' ∧ NV w' u' W' ∧ Lv h lo hi ks' W' ∧ W'.length < W.length ∧ foldOne (kp h ks') W' = foldOne (kp h ks) W ∧ szK h ks' + W'.length ≤ szK h ks + W.length ∧ Below w.heap.size w w'

def TakeP (h : Nat) (S : Nat → Prop) (w3 : World) (k : ByteArray × TrH h) (hi2 : Option ByteArray) (P : List Nt) (v : Value) (w : World) : Prop :=
  ∃ ks2, Und w S ∧ TsV h w (Gr S w3 w) v ks2 ∧ TkR h k.1 hi2 ks2 (foldOne (pairsH h k.2) P) (szH h k.2 + P.length)
def LitP (h : Nat) (S : Nat → Prop) (w3 : World) (k : ByteArray × TrH h) (hi2 : Option ByteArray) (P : List Nt) (KA KR : Value) (v : Value) (w : World) : Prop :=
  ∃ g v2, v = .slice (some ⟨g, 0, none⟩) 3 3 ∧ Box w g 26 #[KA, v2, KR] ∧ TakeP h S w3 k hi2 P v2 w
def ConP (h : Nat) (S : Nat → Prop) (w3 : World) (k : ByteArray × TrH h) (hi2 : Option ByteArray) (P : List Nt) (ra rb : List Nr) (v : Value) (w : World) : Prop :=
  ∃ ks2 rs2, Und w S ∧ NodesR h w (Gr S w3 w) rs2 ks2 ∧ TkR h k.1 hi2 ks2 (foldOne (pairsH h k.2) P) (szH h k.2 + P.length) ∧ w.ownsRow w3.heap.size 30 4 v (ra ++ (rs2 ++ rb)).length ((ra ++ (rs2 ++ rb)).flatMap Nr.cells)
section
variable {h : Nat} {S : Nat → Prop} {w3 : World} {k : ByteArray × TrH h} {hi2 : Option ByteArray} {P : List Nt} {ra rb : List Nr} {KA KR v : Value} {w w' : World}
theorem und_gr (h : Und w S) : Und w (Gr S w3 w) := fun b hb => by
  rcases hb with hb | hb
  · exact h b hb
  · exact hb.2
theorem TakeP.on (g : TakeP h S w3 k hi2 P v w) (hb : Below w.heap.size w w') : TakeP h S w3 k hi2 P v w' := by
  obtain ⟨ks2, g1, g2, g3⟩ := g
  exact ⟨ks2, g1.on hb, (g2.on (und_gr g1) hb).mono fun b hg => gr_mono hb.size b hg, g3⟩
theorem TakeP.shape (g : TakeP h S w3 k hi2 P v w) : ∃ a n c, v = .slice a n c := let ⟨_, _, ⟨s, _, e, _⟩, _⟩ := g; ⟨s.a, s.n, s.c, e⟩
theorem TakeP.lit (g : TakeP h S w3 k hi2 P v w) : LitP h S w3 k hi2 P KA KR (.slice (some ⟨w.heap.size, 0, none⟩) 3 3) (w.alloc (.cells #[KA, v, KR] 26)) :=
  ⟨w.heap.size, v, rfl, Box.fresh w _ _, g.on ((Below.refl _ w).alloc (Nat.le_refl _) _)⟩
theorem LitP.on (g : LitP h S w3 k hi2 P KA KR v w) (hb : Below w.heap.size w w') : LitP h S w3 k hi2 P KA KR v w' := by
  obtain ⟨q, v2, g1, g2, g3⟩ := g
  exact ⟨q, v2, g1, g2.on hb, g3.on hb⟩
theorem ConP.on (g : ConP h S w3 k hi2 P ra rb v w) (hb : Below w.heap.size w w') : ConP h S w3 k hi2 P ra rb v w' := by
  obtain ⟨ks2, rs2, g1, g2, g3, g4⟩ := g
  exact ⟨ks2, rs2, g1.on hb, (NodesR.on g2 (und_gr g1) hb).mono fun b hg => gr_mono hb.size b hg, g3, own_below g4 hb⟩
end
/-- A part that is left out. -/
theorem own_nil {w : World} {base g n c m : Nat} {ps : List (List Nt)} (h : OwnX 52 27 Nt.cells 4 base w (.slice (some ⟨g, 0, none⟩) n c) ps) (hn : n = ps.length) :
    OwnX 52 27 Nt.cells 4 base (w.setCell ⟨g, m, none⟩ (.slice none 0 0)) (.slice (some ⟨g, 0, none⟩) n c) (ps.set m []) ∧ w.grownBy (w.setCell ⟨g, m, none⟩ (.slice none 0 0)) (some g) := by
  obtain ⟨vs, h1, h2, h3⟩ := h
  subst hn
  have h4 := h1.stored m (.slice none 0 0)
  refine ⟨⟨vs.set m (.slice none 0 0), by simpa using h4.1, by simp [h2], fun i hi => ?_⟩, h4.2⟩
  have hi' : i < ps.length := by simpa using hi
  obtain ⟨u, h5, h6⟩ := h3 i hi'
  by_cases hm : m = i
  · subst hm
    refine ⟨.slice none 0 0, by rw [List.getElem?_set_self (by omega)], ?_⟩
    rw [List.getElem_set_self]
    exact World.ownsRow_nil _ _ _ _
  · refine ⟨u, by rw [List.getElem?_set_ne hm]; exact h5, ?_⟩
    rw [List.getElem_set_ne hm]
    obtain ⟨A, c2, rfl⟩ := own_shape h6
    refine h6.kept h4.2 ?_
    cases e : Value.ownBlock (.slice A ps[i].length c2) with
    | none => exact .inl rfl
    | some g2 =>
      refine .inr fun e2 => own_apartN h6 h1 (by decide) g2 e ?_
      simpa [Value.ownBlock] using e2.symm
theorem ssv_of {α : Type} {T T2 : TypeId} {cs : α → List Value} {k base : Nat} {w : World} {v : Value} {ps : List (List α)} (hk : ∀ x, (cs x).length = k) (h : OwnX T T2 cs k base w v ps) : SsV cs k w v ps := by
  obtain ⟨A, c, ss, rfl, h1, h2, _⟩ := h.all hk
  exact ⟨A, c, ss, rfl, h2.lies fun b hb => hb.2, h1.imp fun s p hx => hx.mono fun b hb => hb.2⟩

def SinkV (h : Nat) (S : Nat → Prop) (w3 : World) (k : ByteArray × TrH h) (hi2 : Option ByteArray) (P : List Nt) (ra rb : List Nr) (SL KA PK ND PS PQ NP KR : Value) (m : Nat) (t : Nat) (v : Value) (w : World) : Prop :=
  match t with
  | 17 => v = SL
  | 18 => v = .int .i64 m
  | 19 => v = KA
  | 20 => v = SL
  | 21 => v = .int .i64 m
  | 22 => v = PK
  | 23 => v = ND
  | 24 => v = PS
  | 25 => v = .int .i64 m
  | 26 => v = PQ
  | 27 => v = NP
  | 28 => TakeP h S w3 k hi2 P v w
  | 29 => v = SL
  | 30 => v = .int .i64 m
  | 31 => v = .int .i64 ((m : Int) + 1)
  | 32 => v = KR
  | 33 => LitP h S w3 k hi2 P KA KR v w
  | 34 => ConP h S w3 k hi2 P ra rb v w
  | 0 => ConP h S w3 k hi2 P ra rb v w
  | _ => True
theorem SinkV.on {h : Nat} {S : Nat → Prop} {w3 : World} {k : ByteArray × TrH h} {hi2 : Option ByteArray} {P : List Nt} {ra rb : List Nr} {SL KA PK ND PS PQ NP KR : Value} {m : Nat} {t : Nat} {v : Value} {w w' : World} (g : SinkV h S w3 k hi2 P ra rb SL KA PK ND PS PQ NP KR m t v w) (hb : Below w.heap.size w w') : SinkV h S w3 k hi2 P ra rb SL KA PK ND PS PQ NP KR m t v w' := by
  unfold SinkV at *
  split at g <;> first | exact g | exact TakeP.on g hb | exact LitP.on g hb | exact ConP.on g hb

set_option maxHeartbeats 8000000 in
set_option maxRecDepth 100000 in
theorem sink_any (h : Nat) (HT : TakeC h) : SinkC h := by
  intro lo hi v u ks W w S hS hV hB hL h0 hsz
  obtain ⟨⟨A1, n1', c1⟩, rs, rfl, hR, hN⟩ := hV
  obtain ⟨n1, hn1⟩ : ∃ n1, n1 = rs.length := ⟨_, rfl⟩
  obtain rfl : n1' = rs.length := hR.1
  have hlen : rs.length = ks.length := hN.len
  have hkb : ks.length ≤ 1000 := by have := len_szK hL.1; omega
  have hWb : W.length ≤ 1000 := by omega
  have hlw := lows_v (hR.rv hS) (by omega)
  rw [NodesR.lows hN] at hlw
  show Calls Try.prog 45 #[.slice A1 rs.length c1, u] w fun e w' => ∃ v' u' ks' W', e = .returned (.tuple #[v', u']) ∧ TsV h w' (Gr S w w') v' ks' ∧ NV w' u' W' ∧ Lv h lo hi ks' W' ∧ W'.length < W.length ∧ foldOne (kp h ks') W' = foldOne (kp h ks) W ∧ szK h ks' + W'.length ≤ szK h ks + W.length ∧ Below w.heap.size w w'
  have hlw : Calls Try.prog 58 #[.slice A1 rs.length c1] w fun e w' => ∃ v', e = .returned v' ∧ SSV w' v' (lowsOf ks) ∧ Below w.heap.size w w' := hlw
  rw [← hn1] at hlw ⊢
  have HU := Lib.hid hS
  have HR := Lib.hid hR
  have HN := Lib.hid hN
  have HW := Lib.hid hB
  have HL := Lib.hid hL
  have H0 := Lib.hid h0
  have HSZ := Lib.hid hsz
  have HN1 := Lib.hid (And.intro hn1 hlen)
  have HKB := Lib.hid (And.intro hkb hWb)
  clear hS hR hN hB hL h0 hsz hn1 hlen hkb hWb
  go_enter Try.func45, Try.ntmps45
  go_wp2_with fail
  refine hlw.mono ?_
  clear hlw
  rintro e w1 ⟨vl, rfl, hsv1, hb1⟩
  have hm1 := pmost_v (HW.out.on hb1) hsv1 HKB.out.2 (by rw [List.length_map]; exact HKB.out.1)
  have HSV1 := Lib.hid hsv1
  have HB1 := Lib.hid hb1
  clear hsv1 hb1
  go_wp2_with fail
  refine hm1.mono ?_
  clear hm1
  rintro e w2 ⟨m, rfl, hmost, hb2⟩
  have HB2 := Lib.hid (HB1.out.trans (hb2.mono HB1.out.size))
  have HSV2 := Lib.hid (HSV1.out.on hb2)
  have hW2 := HW.out.on HB2.out
  have HS2 := Lib.hid HB2.out.size
  obtain ⟨B, d, rfl, hBn, hBc, hBz⟩ := hW2
  obtain ⟨Sa, cs, rfl, hst⟩ := HSV2.out
  have hsp := psplit_own B d W Sa cs (lowsOf ks) w2 hBn hBc hBz hst (by have := HKB.out; omega) (by rw [List.length_map]; have := HKB.out; omega)
  obtain ⟨A, k, rest, P, eks, hAl, hplen, hpm, hPw, hPin, hPl, hfin⟩ := sink_plain HL.out H0.out hmost
  have hml0 : (lowsOf ks).length = n1 := by rw [List.length_map, HN1.out.1, HN1.out.2]
  rw [hml0] at hsp ⊢
  obtain ⟨nw, hnw⟩ : ∃ nw, W.length = nw := ⟨_, rfl⟩
  rw [hnw] at hsp ⊢
  have HNW := Lib.hid hnw
  have HFIN := Lib.hid hfin
  have HPF := Lib.hid (And.intro hPw (And.intro hPin hPl))
  have HEK := Lib.hid (And.intro eks (And.intro hAl (And.intro hplen hpm)))
  clear hnw hml0 hmost hb2 hBn hBc hBz hst eks hAl hplen hpm hPw hPin hPl hfin HSV1 HB1
  go_wp2_with fail
  refine hsp.mono ?_
  clear hsp
  rintro e w3 ⟨v3, rfl, ⟨vs3, h3o, h3p⟩, hb3⟩
  have HB3 := Lib.hid (HB2.out.trans (hb3.mono HB2.out.size))
  have hox : OwnX 52 27 Nt.cells 4 w2.heap.size w3 v3 (splitA W (lowsOf ks)) := ⟨vs3, h3o, h3p⟩
  obtain ⟨A4, c4, rfl⟩ := own_shape h3o
  have hpl3 : (splitA W (lowsOf ks)).length = n1 := by rw [HEK.out.2.2.1, HN1.out.1, HN1.out.2]
  have hmn : m < n1 := by
    have h1 := congrArg List.length HEK.out.1
    have h2 := HEK.out.2.1
    have h3 := HN1.out
    rw [List.length_append, List.length_cons] at h1
    omega
  rw [hpl3] at hox h3o ⊢
  obtain ⟨g4, cur4, hA4, hg4, _, _⟩ := row_box h3o (by omega)
  subst hA4
  have HG4 := Lib.hid (show w2.heap.size ≤ g4 ∧ g4 < w3.heap.size from ⟨hg4, (h3o.lt g4 rfl).2⟩)
  obtain ⟨ad4, s4, hsa, _, _, hc4, hs4⟩ := hox.at_ Nt.cells4 (i := m) (by rw [hpl3]; exact hmn)
  injection hsa with hsa
  subst hsa
  have hPs : (splitA W (lowsOf ks))[m]'(by rw [hpl3]; exact hmn) = P := by
    have h1 := HEK.out.2.2.2
    rw [List.getElem?_eq_getElem (by rw [hpl3]; exact hmn)] at h1
    injection h1
  rw [hPs] at hs4
  obtain ⟨qa, qn, qc⟩ := s4
  simp only at hc4
  replace hc4 : w3.cell? ⟨g4, m, none⟩ = some (.slice qa qn qc) := by rw [Addr.add_lit, Nat.zero_add] at hc4; exact hc4
  -- the kid
  have HN3 := Lib.hid (NodesR.on HN.out HU.out HB3.out)
  have HU3 := Lib.hid (HU.out.on HB3.out)
  have HR3 := Lib.hid (HR.out.on HU.out HB3.out)
  have hrl : rs.length = n1 := HN1.out.1.symm
  obtain ⟨ad, hA1, hab, hca⟩ := (HR3.out.2.1.lies HU3.out).seeK (by rw [hrl]; omega)
  simp only at hA1
  subst hA1
  have hml : m < rs.length := by rw [hrl]; exact hmn
  obtain ⟨k0, k1, k2, k3⟩ := hca m hml
  have hnd := AllN.get HN3.out m hml (by rw [← HN1.out.2]; exact hml)
  have hkm : ks[m]'(by rw [← HN1.out.2]; exact hml) = k := by
    have h1 := HEK.out.1
    have h2 := HEK.out.2.1
    have h3 : ks[m]? = some k := by rw [h1, List.getElem?_append_right (by omega), h2, Nat.sub_self]; rfl
    rw [List.getElem?_eq_getElem (by rw [← HN1.out.2]; exact hml)] at h3
    injection h3
  rw [hkm] at hnd
  obtain ⟨r, hr⟩ : ∃ r, r = rs[m]'hml := ⟨_, rfl⟩
  rw [← hr] at k0 k1 k2 k3 hnd
  have hokk : okN h k.1 (nextLo hi rest) k.2 := by
    have h1 := HL.out.1
    rw [HEK.out.1] at h1
    exact (okK_append.1 h1).2.1
  have hszk : szH h k.2 + P.length ≤ 1000 := by
    have h1 := HSZ.out
    have h2 : szK h ks = szK h A + (szH h k.2 + szK h rest) := by
      conv => lhs; rw [HEK.out.1]
      rw [szK, szS_append, szS_cons]
    have := HPF.out.2.2
    omega
  obtain ⟨hi2, hh2⟩ : ∃ hi2, hi2 = nextLo hi rest := ⟨_, rfl⟩
  rw [← hh2] at hokk
  have HTK := Lib.hid (show ∀ wx, Below w3.heap.size w3 wx → Calls Try.prog 24 #[.agg #[.string r.low, .slice r.k.a r.k.n r.k.c, .slice r.n.a r.n.n r.n.c, .slice r.p.a r.p.n r.p.c], .slice qa qn qc] wx fun e w' => ∃ v', e = .returned v' ∧ TakeP h S w3 k hi2 P v' w' ∧ Below wx.heap.size wx w' from fun wx hS => by
    have h1 : NV wx (.slice qa qn qc) P := (SlB.nv (hs4.mono (S' := All w3) fun b hb => hb.2) (fun b hb => hb)).on hS
    refine (HT r k.1 hi2 k.2 _ P wx S (HU3.out.on hS) (NodeB.on hnd HU3.out hS) hokk h1 HPF.out.1 (fun n hn => by rw [hh2]; exact HPF.out.2.1 n hn) hszk).mono ?_
    rintro e w' ⟨v', ks2, rfl, ht, hk, hb⟩
    exact ⟨v', rfl, ⟨ks2, (HU3.out.on hS).on hb, ht.mono fun b hg => gr_late hS.size b hg, hk⟩, hb⟩)
  have HCK := Lib.hid (show ∀ wx, Below w3.heap.size w3 wx → wx.cell? (ad.add (m * 4)) = some (.string r.low) ∧ wx.cell? ⟨(ad.add (m * 4)).block, (ad.add (m * 4)).off + 1, none⟩ = some (.slice r.k.a r.k.n r.k.c) ∧ wx.cell? ⟨(ad.add (m * 4)).block, (ad.add (m * 4)).off + 2, none⟩ = some (.slice r.n.a r.n.n r.n.c) ∧ wx.cell? ⟨(ad.add (m * 4)).block, (ad.add (m * 4)).off + 3, none⟩ = some (.slice r.p.a r.p.n r.p.c) from fun wx hS =>
    ⟨(hS.cell (lt_of_cell k0)).trans k0, (hS.cell (lt_of_cell k1)).trans k1, (hS.cell (lt_of_cell k2)).trans k2, (hS.cell (lt_of_cell k3)).trans k3⟩)
  have HCP := Lib.hid (show ∀ wx, Below w3.heap.size w3 wx → wx.cell? ⟨g4, m, none⟩ = some (.slice qa qn qc) ∧ True from fun wx hS => ⟨(hS.cell (lt_of_cell hc4)).trans hc4, trivial⟩)
  obtain ⟨klo, ⟨ka, kn, kc⟩, ⟨na, nn, nc⟩, ⟨pa, pn, pc⟩⟩ := r
  have hc1 : n1 ≤ c1 := by have := HR.out.2.2.1; simp only at this; omega
  obtain ⟨AR, hAR⟩ : ∃ AR : Option Addr, (c1 = m + 1 → AR = some ad) ∧ (¬ c1 = m + 1 → AR = some (ad.add ((m + 1) * 4))) := by
    by_cases hck : c1 = m + 1
    · exact ⟨some ad, fun _ => rfl, fun h => absurd hck h⟩
    · exact ⟨some (ad.add ((m + 1) * 4)), fun h => absurd h hck, fun _ => rfl⟩
  have HAR := Lib.hid hAR
  obtain ⟨ra, hra⟩ : ∃ ra, ra = rs.take m := ⟨_, rfl⟩
  obtain ⟨rb, hrb⟩ : ∃ rb, rb = rs.drop (m + 1) := ⟨_, rfl⟩
  have hslb : SlB Nr.cells 4 w3 S ⟨AR, n1 - (m + 1), c1 - (m + 1)⟩ rb := by
    refine ⟨by rw [hrb]; simp; omega, ?_, by rw [hrb]; simp; omega, fun e => ?_⟩
    · by_cases hck : c1 = m + 1
      · have : rb = [] := by rw [hrb]; exact List.drop_of_length_le (by omega)
        rw [this]; exact LiesS.nil
      · show LiesS Nr.cells 4 w3 S AR rb
        rw [hAR.2 hck, hrb]
        intro hl
        obtain ⟨ad', e, hB, hc⟩ := HR3.out.2.1 (by simp at hl; omega)
        injection e with e
        subst e
        refine ⟨_, rfl, by rw [block_of_add]; exact hB, fun i hi j v hv => ?_⟩
        simp at hi
        rw [List.getElem_drop] at hv
        have h1 := hc (m + 1 + i) (by omega) j v hv
        rw [Nat.add_mul, ← Go.Addr.add_add] at h1
        exact h1
    · simp only at e
      by_cases hck : c1 = m + 1
      · rw [hAR.1 hck] at e; cases e
      · rw [hAR.2 hck] at e; cases e
  have HSA := Lib.hid (show SlB Nr.cells 4 w3 S ⟨some ad, m, c1⟩ ra from by rw [hra]; exact SlB.take HR3.out (by omega))
  have HSB := Lib.hid hslb
  have HCC := Lib.hid (show ∀ wx v, Below w3.heap.size w3 wx → LitP h S w3 k hi2 P (.slice (some ad) m c1) (.slice AR (n1 - (m + 1)) (c1 - (m + 1))) v wx → Calls Try.prog 72 #[v] wx fun e w' => ∃ v', e = .returned v' ∧ ConP h S w3 k hi2 P ra rb v' w' ∧ Below wx.heap.size wx w' from fun wx v hS hl => by
    obtain ⟨g, v2, rfl, hbx, ks2, hu, ⟨s2, rs2, rfl, hsl2, hn2⟩, htk⟩ := hl
    have hsv : SsV Nr.cells 4 wx (.slice (some ⟨g, 0, none⟩) 3 3) [ra, rs2, rb] := by
      refine ⟨some ⟨g, 0, none⟩, 3, [⟨some ad, m, c1⟩, s2, ⟨AR, n1 - (m + 1), c1 - (m + 1)⟩], rfl, fun _ => ⟨_, rfl, Box.lt hbx, fun i hi j x hx => ?_⟩, ?_⟩
      · match i, hi, j, hx with
        | 0, _, 0, hx => simp at hx; subst hx; simpa [Addr.add] using Box.cell hbx 0 rfl
        | 1, _, 0, hx => simp at hx; subst hx; simpa [Addr.add] using Box.cell hbx 1 rfl
        | 2, _, 0, hx => simp at hx; subst hx; simpa [Addr.add] using Box.cell hbx 2 rfl
      · refine ⟨?_, ?_, ?_, trivial⟩
        · exact (HSA.out.on HU3.out hS).mono fun b hb => hu b hb
        · exact hsl2.mono fun b hb => und_gr hu b hb
        · exact (HSB.out.on HU3.out hS).mono fun b hb => hu b hb
    have hlen2 : rs2.length ≤ 1000 := by
      rw [hn2.len]
      have h1 := len_szK htk.1
      have h2 : szK h ks2 ≤ szH h k.2 + P.length := htk.2.2.2
      omega
    have hlen3 : ra.length + (rs2.length + (rb.length + 0)) ≤ 1000000 := by
      have h1 : ra.length ≤ 1000 := by rw [hra, List.length_take]; have := HKB.out; have := HN1.out; omega
      have h2 : rb.length ≤ 1000 := by rw [hrb, List.length_drop]; have := HKB.out; have := HN1.out; omega
      omega
    refine (concat_nds _ [ra, rs2, rb] wx hsv (by simp) (by simpa using hlen3)).mono ?_
    rintro e w' ⟨v', rfl, hown, hb⟩
    refine ⟨v', rfl, ⟨ks2, rs2, hu.on hb, (NodesR.on hn2 (und_gr hu) hb).mono fun b hg => gr_mono hb.size b hg, htk, ?_⟩, hb⟩
    have h1 := own_baseN hown hS.size
    simpa using h1)
  have HOX := Lib.hid hox
  have HRA := Lib.hid (And.intro hra hrb)
  have w1m : IntKind.i64.wrap ((m : Int) + 1) = (m : Int) + 1 := by rw [IntKind.wrap_i64]; have := HKB.out; have := HN1.out; omega
  have hmc : m ≤ c1 := by omega
  have hmc1 : m + 1 ≤ n1 := by omega
  have hnb : n1 ≤ 1000 := by have := HKB.out; have := HN1.out; omega
  have HH2 := Lib.hid hh2
  clear hs4 hnd
  clear k0 k1 k2 k3 hokk hszk hslb hAR hra hrb hr hca hkm hPs hc4 hox h3o h3p hb3 hpl3 hrl hml hg4 hh2
  go_upto_region 3 with fail
  refine wp_region_phase 12 [17, 18, 19, 20, 21, 22, 23, 24, 25, 26, 27, 28, 29, 30, 31, 32, 33, 34, 0] (by kernel_rfl) [] [] (fun _ _ => True) 0 rfl (by kernel_rfl) (fun _ w' => Below w3.heap.size w3 w') (fun wa wb => Below wa.heap.size wa wb) (fun _ => SinkV h S w3 k hi2 P ra rb (.slice (some ad) n1 c1) (.slice (some ad) m c1) (.pointer (some (ad.add (m * 4)))) (.agg #[.string klo, .slice ka kn kc, .slice na nn nc, .slice pa pn pc]) (.slice (some ⟨g4, 0, none⟩) n1 c4) (.pointer (some ⟨g4, m, none⟩)) (.slice qa qn qc) (.slice AR (n1 - (m + 1)) (c1 - (m + 1))) m) (by kernel_rfl) (fun _ wa wb h1 h2 => h2.trans (h1.mono h2.size)) (fun _ t v wa wb h1 h2 => SinkV.on h2 h1) (fun _ _ _ _ _ _ _ => trivial) (Below.refl _ _).drew trivial (phase0 ?_) ?_
  · skip
    refine Steps1.cons (fun _ ax wx hS _ hG => ?_) (Steps1.cons (fun _ ax wx hS _ hG => ?_) (Steps1.cons (fun _ ax wx hS _ hG => ?_) (Steps1.cons (fun _ ax wx hS _ hG => ?_) (Steps1.cons (fun _ ax wx hS _ hG => ?_) (Steps1.cons (fun _ ax wx hS _ hG => ?_) (Steps1.cons (fun _ ax wx hS _ hG => ?_) (Steps1.cons (fun _ ax wx hS _ hG => ?_) (Steps1.cons (fun _ ax wx hS _ hG => ?_) (Steps1.cons (fun _ ax wx hS _ hG => ?_) (Steps1.cons (fun _ ax wx hS _ hG => ?_) (Steps1.cons (fun _ ax wx hS _ hG => ?_) (Steps1.cons (fun _ ax wx hS _ hG => ?_) (Steps1.cons (fun _ ax wx hS _ hG => ?_) (Steps1.cons (fun _ ax wx hS _ hG => ?_) (Steps1.cons (fun _ ax wx hS _ hG => ?_) (Steps1.cons (fun _ ax wx hS _ hG => ?_) (Steps1.cons (fun _ ax wx hS _ hG => ?_) (Steps1.cons (fun _ ax wx hS _ hG => ?_) Steps1.nil))))))))))))))))))
    · have q0 := hG.old 0 (by kernel_rfl) (by kernel_rfl)
      refine step_slot rfl rfl rfl (step_value (v := .slice (some ad) n1 c1) (w' := wx) rfl rfl ?_ (Below.refl _ _) (fun d hd => by cases hd; exact rfl))
      go_simp
    · have q7 := hG.old 7 (by kernel_rfl) (by kernel_rfl)
      refine step_slot rfl rfl rfl (step_value (v := .int .i64 m) (w' := wx) rfl rfl ?_ (Below.refl _ _) (fun d hd => by cases hd; exact rfl))
      go_simp
    · obtain ⟨_, q17, rfl⟩ := hG.new 17 (by kernel_rfl) (by kernel_rfl)
      obtain ⟨_, q18, rfl⟩ := hG.new 18 (by kernel_rfl) (by kernel_rfl)
      refine step_slot rfl rfl rfl (step_value (v := .slice (some ad) m c1) (w' := wx) rfl rfl ?_ (Below.refl _ _) (fun d hd => by cases hd; exact rfl))
      go_simp
    · have q0 := hG.old 0 (by kernel_rfl) (by kernel_rfl)
      refine step_slot rfl rfl rfl (step_value (v := .slice (some ad) n1 c1) (w' := wx) rfl rfl ?_ (Below.refl _ _) (fun d hd => by cases hd; exact rfl))
      go_simp
    · have q7 := hG.old 7 (by kernel_rfl) (by kernel_rfl)
      refine step_slot rfl rfl rfl (step_value (v := .int .i64 m) (w' := wx) rfl rfl ?_ (Below.refl _ _) (fun d hd => by cases hd; exact rfl))
      go_simp
    · obtain ⟨_, q20, rfl⟩ := hG.new 20 (by kernel_rfl) (by kernel_rfl)
      obtain ⟨_, q21, rfl⟩ := hG.new 21 (by kernel_rfl) (by kernel_rfl)
      refine step_slot rfl rfl rfl (step_value (v := .pointer (some (ad.add (m * 4)))) (w' := wx) rfl rfl ?_ (Below.refl _ _) (fun d hd => by cases hd; exact rfl))
      go_simp
    · obtain ⟨_, q22, rfl⟩ := hG.new 22 (by kernel_rfl) (by kernel_rfl)
      obtain ⟨z0, z1, z2, z3⟩ := HCK.out wx hS
      refine step_slot rfl rfl rfl (step_value (v := .agg #[.string klo, .slice ka kn kc, .slice na nn nc, .slice pa pn pc]) (w' := wx) rfl rfl ?_ (Below.refl _ _) (fun d hd => by cases hd; exact rfl))
      go_simp
    · have q8 := hG.old 8 (by kernel_rfl) (by kernel_rfl)
      refine step_slot rfl rfl rfl (step_value (v := .slice (some ⟨g4, 0, none⟩) n1 c4) (w' := wx) rfl rfl ?_ (Below.refl _ _) (fun d hd => by cases hd; exact rfl))
      go_simp
    · have q7 := hG.old 7 (by kernel_rfl) (by kernel_rfl)
      refine step_slot rfl rfl rfl (step_value (v := .int .i64 m) (w' := wx) rfl rfl ?_ (Below.refl _ _) (fun d hd => by cases hd; exact rfl))
      go_simp
    · obtain ⟨_, q24, rfl⟩ := hG.new 24 (by kernel_rfl) (by kernel_rfl)
      obtain ⟨_, q25, rfl⟩ := hG.new 25 (by kernel_rfl) (by kernel_rfl)
      refine step_slot rfl rfl rfl (step_value (v := .pointer (some ⟨g4, m, none⟩)) (w' := wx) rfl rfl ?_ (Below.refl _ _) (fun d hd => by cases hd; exact rfl))
      go_simp
    · obtain ⟨_, q26, rfl⟩ := hG.new 26 (by kernel_rfl) (by kernel_rfl)
      obtain ⟨z0, z1⟩ := HCP.out wx hS
      refine step_slot rfl rfl rfl (step_value (v := .slice qa qn qc) (w' := wx) rfl rfl ?_ (Below.refl _ _) (fun d hd => by cases hd; exact rfl))
      go_simp
    · obtain ⟨_, q23, rfl⟩ := hG.new 23 (by kernel_rfl) (by kernel_rfl)
      obtain ⟨_, q27, rfl⟩ := hG.new 27 (by kernel_rfl) (by kernel_rfl)
      refine step_slot rfl rfl rfl (step_call (w1 := wx) (f := 24) (args := #[.agg #[.string klo, .slice ka kn kc, .slice na nn nc, .slice pa pn pc], .slice qa qn qc]) rfl rfl ?_ ((HTK.out wx hS).mono ?_))
      · skip
        go_simp
      · rintro e w' ⟨v', rfl, hv, hq⟩
        exact ⟨_, rfl, hq, fun d hd => by cases hd; exact hv⟩
    · have q0 := hG.old 0 (by kernel_rfl) (by kernel_rfl)
      refine step_slot rfl rfl rfl (step_value (v := .slice (some ad) n1 c1) (w' := wx) rfl rfl ?_ (Below.refl _ _) (fun d hd => by cases hd; exact rfl))
      go_simp
    · have q7 := hG.old 7 (by kernel_rfl) (by kernel_rfl)
      refine step_slot rfl rfl rfl (step_value (v := .int .i64 m) (w' := wx) rfl rfl ?_ (Below.refl _ _) (fun d hd => by cases hd; exact rfl))
      go_simp
    · obtain ⟨_, q30, rfl⟩ := hG.new 30 (by kernel_rfl) (by kernel_rfl)
      refine step_slot rfl rfl rfl (step_value (v := .int .i64 ((m : Int) + 1)) (w' := wx) rfl rfl ?_ (Below.refl _ _) (fun d hd => by cases hd; exact rfl))
      go_simp
    · obtain ⟨_, q29, rfl⟩ := hG.new 29 (by kernel_rfl) (by kernel_rfl)
      obtain ⟨_, q31, rfl⟩ := hG.new 31 (by kernel_rfl) (by kernel_rfl)
      refine step_slot rfl rfl rfl (step_value (v := .slice AR (n1 - (m + 1)) (c1 - (m + 1))) (w' := wx) rfl rfl ?_ (Below.refl _ _) (fun d hd => by cases hd; exact rfl))
      have hi0 : (0 : Int) ≤ (m : Int) + 1 := by omega
      have hi1 : (m : Int) + 1 ≤ (n1 : Int) := by omega
      have hi2 : ¬ ((n1 : Int) < (m : Int) + 1) := by omega
      by_cases hck : c1 = m + 1
      · have e := HAR.out.1 hck
        have hck2 : c1 - (m + 1) = 0 := by omega
        have hck3 : n1 - (m + 1) = 0 := by omega
        rw [e, hck2, hck3]
        go_simp
      · have e := HAR.out.2 hck
        have hck2 : ¬ c1 - (m + 1) = 0 := by omega
        rw [e]
        go_simp
    · obtain ⟨_, q19, rfl⟩ := hG.new 19 (by kernel_rfl) (by kernel_rfl)
      obtain ⟨v28, q28, h28⟩ := hG.new 28 (by kernel_rfl) (by kernel_rfl)
      obtain ⟨_, q32, rfl⟩ := hG.new 32 (by kernel_rfl) (by kernel_rfl)
      have p28 : TakeP h S w3 k hi2 P v28 wx := h28
      obtain ⟨sa, sn, sc, e28⟩ := p28.shape
      subst e28
      refine step_slot rfl rfl rfl (step_value (v := .slice (some ⟨wx.heap.size, 0, none⟩) 3 3) (w' := wx.alloc (.cells #[.slice (some ad) m c1, .slice sa sn sc, .slice AR (n1 - (m + 1)) (c1 - (m + 1))] 26)) rfl rfl ?_ ((Below.refl _ _).alloc (Nat.le_refl _) _) (fun d hd => by cases hd; exact p28.lit))
      clear h28 p28
      go_simp
    · obtain ⟨v33, q33, h33⟩ := hG.new 33 (by kernel_rfl) (by kernel_rfl)
      have p33 : LitP h S w3 k hi2 P (.slice (some ad) m c1) (.slice AR (n1 - (m + 1)) (c1 - (m + 1))) v33 wx := h33
      refine step_slot rfl rfl rfl (step_call (w1 := wx) (f := 72) (args := #[v33]) rfl rfl ?_ ((HCC.out wx v33 hS p33).mono ?_))
      · clear h33 p33
        go_simp
      · rintro e w' ⟨v', rfl, hv, hq⟩
        exact ⟨_, rfl, hq, fun d hd => by cases hd; exact hv⟩
    · obtain ⟨v34, q34, h34⟩ := hG.new 34 (by kernel_rfl) (by kernel_rfl)
      have p34 : ConP h S w3 k hi2 P ra rb v34 wx := h34
      refine step_slot rfl rfl rfl (step_value (v := v34) (w' := wx) rfl rfl ?_ (Below.refl _ _) (fun d hd => by cases hd; exact p34))
      clear h34 p34
      go_simp
  intro fv w8 hS8 _ hV8
  have e0 : ConP h S w3 k hi2 P ra rb (fv 0) w8 := hV8 0 (by decide)
  simp only [puts, Act.put, List.setIfInBounds_toArray, List.set_cons_succ, List.set_cons_zero]
  clear hV8
  obtain ⟨ks2, rs2, hu8, hn8, htk, hown8⟩ := e0
  obtain ⟨A9, c9, e9⟩ := own_shape hown8
  rw [e9] at hown8 ⊢
  have hox8 := HOX.out.on hS8
  have h9 := own_nil (m := m) hox8 (by rw [HEK.out.2.2.1]; have := HN1.out; omega)
  obtain ⟨hox9, hgr9⟩ := h9
  obtain ⟨vs8, h8o, h8p⟩ := hox8
  have hpl8 : (splitA W (lowsOf ks)).length = n1 := by rw [HEK.out.2.2.1, HN1.out.1, HN1.out.2]
  rw [hpl8] at h8o
  obtain ⟨g8, cur8, hA8, _, hbx8, _⟩ := row_box h8o (by omega)
  injection hA8 with hA8
  injection hA8 with hA8
  subst hA8
  obtain ⟨z0, _⟩ := HCP.out w8 hS8
  have f8 := Box.free hbx8 m
  have HB8 := Lib.hid (HB3.out.trans (hS8.mono HB3.out.size))
  have hG8 := HG4.out
  have hb9 : Below w.heap.size w (w8.setCell ⟨g4, m, none⟩ (.slice none 0 0)) := HB8.out.setCell (by have := HS2.out; show w.heap.size ≤ g4; omega) _
  have hkp : ∀ p : Addr, p.block ≠ g4 → (w8.setCell ⟨g4, m, none⟩ (.slice none 0 0)).cell? p = w8.cell? p := fun p hp => by
    simp only [World.cell?]
    rw [Below.heap_setCell _ _ _ _ (show p.block ≠ (⟨g4, m, none⟩ : Addr).block from hp)]
  have hzs : (w8.setCell ⟨g4, m, none⟩ (.slice none 0 0)).heap.size = w8.heap.size := by simp
  have HS8 := Lib.hid hS8.size
  have HNN := Lib.hid (show NodesR h (w8.setCell ⟨g4, m, none⟩ (.slice none 0 0)) (Gr S w3 w8) rs2 ks2 from NodesR.keep hn8 fun p hp => hkp p fun e => by
    rw [e] at hp
    have h1 := HG4.out
    rcases hp with hp | hp
    · have := HU.out _ hp; have := HS2.out; omega
    · omega)
  have HNA := Lib.hid (show NodesR h (w8.setCell ⟨g4, m, none⟩ (.slice none 0 0)) S rs ks from NodesR.keep (NodesR.on HN3.out HU3.out hS8) fun p hp => hkp p fun e => by
    rw [e] at hp
    have h1 := HG4.out
    have := HU.out _ hp; have := HS2.out; omega)
  obtain ⟨w9, hw9⟩ : ∃ w9, w9 = w8.setCell ⟨g4, m, none⟩ (.slice none 0 0) := ⟨_, rfl⟩
  have hown9 : w9.ownsRow w3.heap.size 30 4 (.slice A9 (ra ++ (rs2 ++ rb)).length c9) (ra ++ (rs2 ++ rb)).length ((ra ++ (rs2 ++ rb)).flatMap Nr.cells) := by
    rw [hw9]
    refine hown8.kept hgr9 ?_
    cases e : Value.ownBlock (.slice A9 (ra ++ (rs2 ++ rb)).length c9) with
    | none => exact .inl rfl
    | some g2 =>
      refine .inr fun e2 => ?_
      injection e2 with e2
      have h1 := (hown8.lt g2 e).1
      omega
  rw [← hw9] at hox9 hzs HNN HNA hb9
  obtain ⟨nq, hnq⟩ : ∃ nq, (ra ++ (rs2 ++ rb)).length = nq := ⟨_, rfl⟩
  rw [hnq] at hown9 ⊢
  have HNQ := Lib.hid hnq
  have HOW := Lib.hid hown9
  have HB9 := Lib.hid hb9
  have HZS := Lib.hid hzs
  have hssv := ssv_of Nt.cells4 hox9
  have hfl : ((splitA W (lowsOf ks)).set m []).flatten.length ≤ 1000 := by
    have h1 := (HFIN.out ks2 (by rw [← HH2.out]; exact htk)).2.1
    have := HKB.out.2
    unfold restW at h1
    omega
  have hcc := concat_nts _ _ w9 hssv (by rw [List.length_set, hpl8]; omega) (by omega)
  have HTKR := Lib.hid htk
  clear e9 hown8 hox9 hgr9 h8o h8p hbx8 hkp hown9 hb9 hzs hssv hfl hn8 hu8 htk hS8 hpl8 hG8 HCK HTK HCC HCP
  clear hnq
  go_wp2_with fail
  rw [← hw9]
  refine hcc.mono ?_
  clear hcc z0 f8 hw9
  rintro e w10 ⟨v10, rfl, hown10, hb10⟩
  have HO10 := Lib.hid hown10
  clear hown10
  go_wp2
  go_ret2
  obtain ⟨hLv, hlt, hpe, hse⟩ := HFIN.out ks2 (by rw [← HH2.out]; exact HTKR.out)
  have hmk := HEK.out.2.1
  have htm : ks.take m = A := by rw [HEK.out.1, List.take_left' hmk]
  have hdm : ks.drop (m + 1) = rest := by
    rw [HEK.out.1, ← List.singleton_append, ← List.append_assoc]
    exact List.drop_left' (by simp; omega)
  have hall : NodesR h w9 (Gr S w3 w9) (ra ++ (rs2 ++ rb)) (A ++ (ks2 ++ rest)) := by
    refine AllN.app ?_ (AllN.app ?_ ?_)
    · rw [HRA.out.1, ← htm]
      exact NodesR.mono (AllN.take HNA.out m) gr_in
    · exact NodesR.mono HNN.out fun b hb => gr_mono (by rw [HZS.out]; exact Nat.le_refl _) b hb
    · rw [HRA.out.2, ← hdm]
      exact NodesR.mono (AllN.drop HNA.out (m + 1)) gr_in
  have hu9 : Und w9 (Gr S w3 w9) := und_gr (HU.out.on HB9.out)
  obtain ⟨s9, e9, hs9⟩ := sl_own Nr.cells4 HOW.out HNQ.out.symm
  have hs10 := hb10.size
  refine ⟨.slice A9 nq c9, v10, A ++ (ks2 ++ rest), restW W (lowsOf ks) m, rfl, ?_, NV.own HO10.out rfl, hLv, hlt, hpe, hse, HB9.out.trans (hb10.mono HB9.out.size)⟩
  have h1 : TsV h w9 (Gr S w3 w9) (.slice A9 nq c9) (A ++ (ks2 ++ rest)) := ⟨s9, _, e9, hs9.mono fun b hb => .inr hb, hall⟩
  exact (h1.on hu9 hb10).mono fun b hb => gr_mono hs10 b (gr_late HB3.out.size b hb)

end Go.Proofs.Yteddjmkoleclpaa
