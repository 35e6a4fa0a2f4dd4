/- The walk of slices.Repeat of one string. -/
import Derived.Test.YtdgjnjhmjgdhnaaDoorWDone
import Derived.Test.YtdgjnjhmjgdhnaaDoorShelf
import Derived.Test.YtdgjnjhmjgdhnaaDoorPhase
import Derived.Laws.CopyOwn
import Derived.Laws.OwnMore
namespace Go.Proofs.YtdgjnjhmjgdhnaaDoor
open Go.RowKit

/-- The block g has N strings, of which the first k are e. -/
def Rep (e : ByteArray) (N g k : Nat) (w : World) : Prop := ∃ cur : Array Value, w.heap[g]? = some (.cells cur 9 (0, 0)) ∧ cur.size = N ∧ ∀ j, j < k → cur[j]? = some (.string e)

theorem str_size1 : (Tryd.prog.info? 9).map (·.size) = some 1 := by kernel_rfl

/-- What a copy of m of them, laid behind the first k, makes. -/
theorem Rep.more {e : ByteArray} {N g k m : Nat} {w : World} (h : Rep e N g k w) (hN : k + m ≤ N) : ∃ cur : Array Value, w.heap[g]? = some (.cells cur 9 (0, 0)) ∧ cur.size = N ∧ (∀ j, j < k → cur[j]? = some (.string e)) ∧
    ∀ j, Rep e N g j w → Rep e N g j (w.setRow g (cur.toList.take k ++ List.replicate m (Value.string e) ++ cur.toList.drop (k + (List.replicate m (Value.string e)).length)).toArray) ∧ Rep e N g (k + m) (w.setRow g (cur.toList.take k ++ List.replicate m (Value.string e) ++ cur.toList.drop (k + (List.replicate m (Value.string e)).length)).toArray) := by
  obtain ⟨cur, h1, h2, h3⟩ := h
  refine ⟨cur, h1, h2, h3, fun j hj => ?_⟩
  obtain ⟨cur', h1', h2', h3'⟩ := hj
  obtain rfl : cur = cur' := by rw [h1] at h1'; simpa using h1'
  have hget : ∀ i, (cur.toList.take k ++ List.replicate m (Value.string e) ++ cur.toList.drop (k + (List.replicate m (Value.string e)).length))[i]? = if i < k then cur[i]? else if i < k + m then some (.string e) else cur[i]? := by
    intro i
    rw [List.length_replicate]
    by_cases hi : i < k
    · rw [if_pos hi, List.append_assoc, List.getElem?_append_left (by simp; omega), List.getElem?_take_of_lt hi]; simp
    · rw [if_neg hi]
      have hlt : (cur.toList.take k).length = k := by simp; omega
      by_cases hi2 : i < k + m
      · rw [if_pos hi2, List.getElem?_append_left (by rw [List.length_append, hlt, List.length_replicate]; omega), List.getElem?_append_right (by rw [hlt]; omega), hlt, List.getElem?_replicate, if_pos (by omega)]
      · rw [if_neg hi2, List.getElem?_append_right (by rw [List.length_append, hlt, List.length_replicate]; omega), List.length_append, hlt, List.length_replicate, List.getElem?_drop]
        rw [show k + m + (i - (k + m)) = i by omega]; simp
  have hsz : (cur.toList.take k ++ List.replicate m (Value.string e) ++ cur.toList.drop (k + (List.replicate m (Value.string e)).length)).toArray.size = N := by simp; omega
  have hrow := setRow_heap w g cur (cur.toList.take k ++ List.replicate m (Value.string e) ++ cur.toList.drop (k + (List.replicate m (Value.string e)).length)).toArray 9 (0, 0) h1
  refine ⟨⟨_, hrow, hsz, fun i hi => ?_⟩, ⟨_, hrow, hsz, fun i hi => ?_⟩⟩
  · rw [List.getElem?_toArray, hget]
    split
    · exact h3' i hi
    · split
      · rfl
      · exact h3' i hi
  · rw [List.getElem?_toArray, hget]
    split
    · rename_i h; exact h3 i h
    · first | rfl | rw [if_pos hi]

/-- What each slot of the copying line holds. -/
def RepV (e : ByteArray) (N g k : Nat) (t : Nat) (v : Value) (w : World) : Prop :=
  match t with
  | 38 => v = .int .i64 k
  | 39 => v = .slice (some ⟨g, 0, none⟩) N N
  | 40 => v = .int .i64 k
  | 41 => v = .slice (some ⟨g, k, none⟩) (N - k) (N - k)
  | 42 => v = .slice (some ⟨g, 0, none⟩) N N
  | 43 => v = .int .i64 k
  | 44 => v = .slice (some ⟨g, 0, none⟩) k N
  | 45 => v = .int .i64 (min k (N - k) : Nat) ∧ Rep e N g (k + min k (N - k)) w
  | 46 => v = .int .i64 (k + min k (N - k) : Nat) ∧ Rep e N g (k + min k (N - k)) w
  | 8 => v = .int .i64 (k + min k (N - k) : Nat) ∧ Rep e N g (k + min k (N - k)) w
  | _ => True
def RepR (e : ByteArray) (N g B : Nat) (w w' : World) : Prop := Below B w w' ∧ ∀ j, Rep e N g j w → Rep e N g j w'
theorem RepR.refl {e : ByteArray} {N g B : Nat} {w : World} : RepR e N g B w w := ⟨Below.refl _ _, fun _ h => h⟩
theorem RepV.on {e : ByteArray} {N g k B : Nat} {t : Nat} {v : Value} {w w' : World} (h : RepV e N g k t v w) (hb : RepR e N g B w w') : RepV e N g k t v w' := by
  unfold RepV at *
  split at h <;> first | exact h | exact ⟨h.1, hb.2 _ h.2⟩

theorem mul_one_n (n : Nat) (w : World) (hn : n ≤ 1000000) :
    Calls Tryd.prog 59 #[.int .u64 1, .int .u64 n] w fun e w' => e = .returned (.tuple #[.int .u64 0, .int .u64 n]) ∧ w' = w := by
  have h := Tryd.bits_Mul 1 n (by decide) (by omega) w
  rw [Nat.one_mul, Nat.div_eq_of_lt (by omega), Nat.mod_eq_of_lt (by omega)] at h
  exact h

set_option maxHeartbeats 2000000 in
set_option maxRecDepth 100000 in
theorem repeat_any (e : ByteArray) (n : Nat) (A : Option Addr) (c : Nat) (w : World) (hA : Strs w w.heap.size A [e]) (hn : n ≤ 512) (hn0 : 1 ≤ n) :
    Calls Tryd.prog 45 #[.slice A 1 c, .int .i64 n] w fun r w' => ∃ g, r = .returned (.slice (some ⟨g, 0, none⟩) n n) ∧ g = w.heap.size ∧ Strs w' w'.heap.size (some ⟨g, 0, none⟩) (List.replicate n e) ∧ Below w.heap.size w w' := by
  obtain ⟨ad, rfl, hab, hca⟩ := hA (by simp)
  have c1 := hca 0 (by simp)
  simp only [List.getElem_cons_zero] at c1
  clear hca hA
  obtain ⟨i0, hi0, hz0, hz1, hz2⟩ := info_parts str_info
  have hmu := mul_one_n n w (by omega)
  obtain ⟨wm, hmk, hown, hgr⟩ := run_make_full (P := Tryd.prog) w w.heap.size 22 9 i0 (.string ⟨#[]⟩) 1 Tryd.underlying22 hi0 hz0 hz1 .i64 .i64 n (by rw [hz2]; omega) (by unfold maxLen; omega) (Nat.le_refl _)
  have hbm : Below w.heap.size w wm := (Below.refl _ w).grown hgr (Nat.le_refl _) (fun k hk => by cases hk)
  have HR0 := Lib.hid (show Rep e n w.heap.size 0 wm by
    rcases hown.2 with ⟨h0, _⟩ | ⟨g', cap', cur, hv, hb, hg, hc, hm, hs, ht⟩
    · simp at h0
    · simp only [Value.slice.injEq, Option.some.injEq, Addr.mk.injEq, and_true, true_and] at hv
      obtain ⟨rfl, rfl⟩ := hv
      exact ⟨cur, hg, by omega, fun j hj => by omega⟩)
  have hcs := (Below.cell hbm (by rw [block_of_add]; exact hab)).trans c1
  obtain ⟨cur, hcg, hsz, _, hmore⟩ := Rep.more (m := 1) HR0.out (by omega)
  have hrep1 := (hmore 0 HR0.out).2
  have hb2 := below_setRow hbm (Nat.le_refl _) (cur.toList.take 0 ++ List.replicate 1 (Value.string e) ++ cur.toList.drop (0 + (List.replicate 1 (Value.string e)).length)).toArray
  have hcp := run_copy_row Tryd.prog wm 22 22 3 9 w.heap.size 0 n n ad 1 c cur 9 (List.replicate 1 (.string e)) Tryd.underlying22 str_size1 hcg (by rw [List.length_replicate]; exact (Nat.min_eq_left hn0).symm) (by intro j u hj; match j, hj with | 0, hj => (simp at hj; subst hj; exact hcs)) (by simp; omega) (by intro u hu; simp at hu; subst hu; rfl)
  have hcp2 : (Builtin.copy_ #[22, 22] 3 #[.slice (some ⟨w.heap.size, 0, none⟩) n n, .slice (some ad) 1 c]).run Tryd.prog wm = .ok (.int .i64 1) _ := hcp
  generalize wm.setRow w.heap.size _ = w2 at *
  have HR2 := Lib.hid hrep1
  have HB2 := Lib.hid hb2
  clear hown hgr hbm c1 HR0 hb2 hrep1 hmore hcg hcs hsz hcp
  go_enter Tryd.func45, Tryd.ntmps45
  go_wp2_with fail
  refine hmu.mono ?_
  clear hmu
  rintro r w1 ⟨rfl, rfl⟩
  generalize hB : w1.heap.size = g at *
  have HG := Lib.hid hB
  clear hB
  go_wp2
  clear hmk hcp2
  go_loopw [8] (fun i wr => ∃ (k : Nat), i = .int .i64 k ∧ 1 ≤ k ∧ k ≤ n ∧ Rep e n g k wr ∧ Below g w1 wr) (fun i _ => (n - intOf i).toNat)
  case atStart => exact ⟨1, rfl, by omega, hn0, HR2.out, HB2.out⟩
  case round =>
    obtain ⟨k, rfl, hk1, hk, hrp, hbr⟩ := hrel
    have HRP := Lib.hid hrp
    have HBR := Lib.hid hbr
    clear hrp
    by_cases hlt : k < n
    · have hbk : ¬ (n : Int) ≤ k := by omega
      go_wp2
      refine wp_region_phase 2 [38, 39, 40, 41, 42, 43, 44, 45, 46, 8] (by kernel_rfl) [] [] (fun _ _ => True) 0 rfl (by kernel_rfl) (fun _ w' => Rep e n g k w' ∧ Below g w1 w') (fun wa wb => RepR e n g g wa wb) (fun _ => RepV e n g k) (by kernel_rfl) (fun _ wa wb h1 h2 => ⟨h1.2 _ h2.1, h2.2.trans h1.1⟩) (fun _ t v wa wb h1 h2 => h2.on h1) (fun _ _ _ _ _ _ _ => trivial) ⟨HRP.out, HBR.out.drew⟩ trivial (phase0 ?_) ?_
      · refine Steps1.cons (fun _ ax wx hS _ hG => ?_) (Steps1.cons (fun _ ax wx hS _ hG => ?_) (Steps1.cons (fun _ ax wx hS _ hG => ?_) (Steps1.cons (fun _ ax wx hS _ hG => ?_) (Steps1.cons (fun _ ax wx hS _ hG => ?_) (Steps1.cons (fun _ ax wx hS _ hG => ?_) (Steps1.cons (fun _ ax wx hS _ hG => ?_) (Steps1.cons (fun _ ax wx hS _ hG => ?_) (Steps1.cons (fun _ ax wx hS _ hG => ?_) (Steps1.cons (fun _ ax wx hS _ hG => ?_) Steps1.nil)))))))))
        · have q8 := hG.old 8 (by kernel_rfl) (by kernel_rfl)
          refine step_slot rfl rfl rfl (step_value (v := .int .i64 k) (w' := wx) rfl rfl ?_ RepR.refl (fun d hd => by cases hd; exact rfl))
          go_simp
        · have q7 := hG.old 7 (by kernel_rfl) (by kernel_rfl)
          refine step_slot rfl rfl rfl (step_value (v := .slice (some ⟨g, 0, none⟩) n n) (w' := wx) rfl rfl ?_ RepR.refl (fun d hd => by cases hd; exact rfl))
          go_simp
        · have q8 := hG.old 8 (by kernel_rfl) (by kernel_rfl)
          refine step_slot rfl rfl rfl (step_value (v := .int .i64 k) (w' := wx) rfl rfl ?_ RepR.refl (fun d hd => by cases hd; exact rfl))
          go_simp
        · obtain ⟨_, q39, rfl⟩ := hG.new 39 (by kernel_rfl) (by kernel_rfl)
          obtain ⟨_, q40, rfl⟩ := hG.new 40 (by kernel_rfl) (by kernel_rfl)
          refine step_slot rfl rfl rfl (step_value (v := .slice (some ⟨g, k, none⟩) (n - k) (n - k)) (w' := wx) rfl rfl ?_ RepR.refl (fun d hd => by cases hd; exact rfl))
          go_simp
          omega
        · have q7 := hG.old 7 (by kernel_rfl) (by kernel_rfl)
          refine step_slot rfl rfl rfl (step_value (v := .slice (some ⟨g, 0, none⟩) n n) (w' := wx) rfl rfl ?_ RepR.refl (fun d hd => by cases hd; exact rfl))
          go_simp
        · have q8 := hG.old 8 (by kernel_rfl) (by kernel_rfl)
          refine step_slot rfl rfl rfl (step_value (v := .int .i64 k) (w' := wx) rfl rfl ?_ RepR.refl (fun d hd => by cases hd; exact rfl))
          go_simp
        · obtain ⟨_, q42, rfl⟩ := hG.new 42 (by kernel_rfl) (by kernel_rfl)
          obtain ⟨_, q43, rfl⟩ := hG.new 43 (by kernel_rfl) (by kernel_rfl)
          refine step_slot rfl rfl rfl (step_value (v := .slice (some ⟨g, 0, none⟩) k n) (w' := wx) rfl rfl ?_ RepR.refl (fun d hd => by cases hd; exact rfl))
          go_simp
        · obtain ⟨_, q41, rfl⟩ := hG.new 41 (by kernel_rfl) (by kernel_rfl)
          obtain ⟨_, q44, rfl⟩ := hG.new 44 (by kernel_rfl) (by kernel_rfl)
          obtain ⟨cur, hcg, hsz, hfst, hmore⟩ := Rep.more (m := min k (n - k)) hS.1 (by omega)
          have hcp := run_copy_row Tryd.prog wx 22 22 3 9 g k (n - k) (n - k) ⟨g, 0, none⟩ k n cur 9 (List.replicate (min k (n - k)) (.string e)) Tryd.underlying22 str_size1 hcg (by rw [List.length_replicate]) (by
            intro j u hj
            rw [List.getElem?_replicate] at hj
            split at hj
            · injection hj with hj
              subst hj
              have h1 := cell_of_row wx g j cur 9 (0, 0) hcg
              rw [hfst j (by omega)] at h1
              rw [← h1]; congr 1; unfold Addr.add; split <;> simp_all
            · cases hj) (by rw [List.length_replicate]; omega) (by intro u hu; rw [List.mem_replicate] at hu; rw [hu.2]; rfl)
          rw [show goInt (List.replicate (min k (n - k)) (Value.string e)).length = .int .i64 (min k (n - k) : Nat) by rw [List.length_replicate]; rfl] at hcp
          refine step_slot rfl rfl rfl (step_value (v := .int .i64 (min k (n - k) : Nat)) (w' := _) rfl rfl ?_ ⟨below_setRow (Below.refl _ _) (Nat.le_refl _) _, fun j hj => (hmore j hj).1⟩ (fun d hd => by cases hd; exact ⟨rfl, (hmore k hS.1).2⟩))
          clear hmore hfst hS
          generalize min k (n - k) = mm at *
          go_simp
        · obtain ⟨_, q38, rfl⟩ := hG.new 38 (by kernel_rfl) (by kernel_rfl)
          obtain ⟨v1, q45, h1⟩ := hG.new 45 (by kernel_rfl) (by kernel_rfl)
          obtain ⟨rfl, hr1⟩ : v1 = .int .i64 (min k (n - k) : Nat) ∧ Rep e n g (k + min k (n - k)) wx := h1
          refine step_slot rfl rfl rfl (step_value (v := .int .i64 (k + min k (n - k) : Nat)) (w' := wx) rfl rfl ?_ RepR.refl (fun d hd => by cases hd; exact ⟨rfl, hr1⟩))
          have hmm : min k (n - k) ≤ 512 := by omega
          clear hr1
          generalize min k (n - k) = mm at *
          go_simp
          exact IntWalk.i64_in _ (by omega)
        · obtain ⟨v1, q46, h1⟩ := hG.new 46 (by kernel_rfl) (by kernel_rfl)
          obtain ⟨rfl, hr1⟩ : v1 = .int .i64 (k + min k (n - k) : Nat) ∧ Rep e n g (k + min k (n - k)) wx := h1
          refine step_slot rfl rfl rfl (step_value (v := .int .i64 (k + min k (n - k) : Nat)) (w' := wx) rfl rfl ?_ RepR.refl (fun d hd => by cases hd; exact ⟨rfl, hr1⟩))
          clear hr1
          go_simp
      intro f w3 hS3 _ hV3
      obtain ⟨hv8, hr8⟩ : f 8 = .int .i64 (k + min k (n - k) : Nat) ∧ Rep e n g (k + min k (n - k)) w3 := hV3 8 (by decide)
      simp only [puts, Act.put, List.setIfInBounds_toArray, List.set_cons_succ, List.set_cons_zero]
      clear hV3
      rw [hv8]
      have hmm : k + min k (n - k) ≤ n ∧ k < k + min k (n - k) := by omega
      generalize k + min k (n - k) = k2 at *
      have HR8 := Lib.hid hr8
      have HB8 := Lib.hid hS3.2
      clear hv8 hr8 hS3
      go_wp2
      go_roundw
      case rel => exact ⟨k2, rfl, by omega, hmm.1, HR8.out, HB8.out⟩
      case measure => simp [intOf]; omega
    · have hkn : k = n := by omega
      have HKN := Lib.hid hkn
      clear hkn
      go_wp2
      go_ret
      refine ⟨g, rfl, HG.out.symm, ?_, by rw [HG.out]; exact HBR.out⟩
      intro _
      obtain ⟨cur, hcg, hsz, hfst⟩ := HRP.out
      refine ⟨_, rfl, (Array.getElem?_eq_some_iff.1 hcg).1, fun j hj => ?_⟩
      rw [List.length_replicate] at hj
      have h1 := cell_of_row wr g j cur 9 (0, 0) hcg
      rw [hfst j (by rw [HKN.out]; exact hj)] at h1
      rw [List.getElem_replicate, ← h1]; congr 1; unfold Addr.add; split <;> simp_all

end Go.Proofs.YtdgjnjhmjgdhnaaDoor
