/- The walk of slices.Insert of one item ahead of all others, in a row of the call's own. -/
import Derived.Test.YthoffknkpogfhaaRw
import Derived.Lib.AppendZerosOnto
import Derived.Lib.Overlaps
import Derived.Lib.SliceRun
import Derived.Lib.Walk
import Derived.Lib.Hide
set_option linter.unusedVariables false
set_option linter.unusedSimpArgs false
namespace Go.Proofs.Ythoffknkpogfhaa
open Go.RowKit

theorem ins_flat (l : List It) (x : It) : (x :: l).flatMap It.cells = x.cells ++ l.flatMap It.cells := rfl
theorem item_size : (Try.prog.info? 27).map (·.size) = some 3 := by kernel_rfl
theorem zero_size (cs : Array Value) (k : Nat) : (Builtin.zeroCells cs k).size = k * cs.size := by simp [Builtin.zeroCells]
theorem cells_plain (x : It) : ∀ u ∈ x.cells, u.oneCell' = true := fun u hu => its_plain [x] u (by simpa using hu)

/-- There is room: what the two operations make of the row. -/
theorem ins_room (w : World) (base g c h n : Nat) (l : List It) (x : It) (C : Array Value) (hO : OwnR w base 27 g c n (l.flatMap It.cells) C) (hln : l.length = n) (hx : Box w h 27 x.cells.toArray) (hgh : h ≠ g) (hroom : n + 1 ≤ c) :
    ∃ W1 W2 D, (∀ ty dc sc, (Builtin.copy_ #[22, 22] ty #[.slice (some ⟨g, 3, none⟩) n dc, .slice (some ⟨g, 0, none⟩) (n + 1) sc]).run Try.prog w.drew = .ok (goInt n) W1) ∧
      (∀ ty dc sc, (Builtin.copy_ #[22, 22] ty #[.slice (some ⟨g, 0, none⟩) (n + 1) dc, .slice (some ⟨h, 0, none⟩) 1 sc]).run Try.prog W1 = .ok (goInt 1) W2) ∧
      OwnR W2 base 27 g c (n + 1) ((x :: l).flatMap It.cells) D ∧ w.grownBy W2 (some g) := by
  have hpl := its_plain l
  rw [ins_flat]
  have hxl : (l.flatMap It.cells).length = n * 3 := by rw [its_len, hln]
  generalize l.flatMap It.cells = xs at *
  have hd : OwnR w.drew base 27 g c n xs C := ⟨hO.box, hO.low, hO.fit, hO.max, hO.size, hO.len, hO.take⟩
  have hC := hO.size
  have r1 := fun ty dc sc => run_copy_k (P := Try.prog) w.drew 22 22 ty 27 3 g 3 n dc ⟨g, 0, none⟩ (n + 1) sc C 27 xs Try.underlying22 item_size hd.box
    (by rw [hxl, show Nat.min (n + 1) n = n from Nat.min_eq_right (by omega)]) (fun j v hj => by rw [Addr.add_lit, Nat.zero_add]; exact hd.cell hj) (by omega) hpl
  have hb1 := box_setRow hd.box ((C.toList.take 3 ++ xs ++ C.toList.drop (3 + xs.length)).toArray)
  have hx1 : Box (w.drew.setRow g ((C.toList.take 3 ++ xs ++ C.toList.drop (3 + xs.length)).toArray)) h 27 x.cells.toArray := by
    have : Box w.drew h 27 x.cells.toArray := hx
    unfold Box at *
    rw [setRow_other _ _ _ _ hgh]
    exact this
  have hz1 : ((C.toList.take 3 ++ xs ++ C.toList.drop (3 + xs.length)).toArray).size = c * 3 := by
    simp only [List.size_toArray, List.length_append, List.length_take, List.length_drop, Array.length_toList]
    omega
  obtain ⟨C1, hC1⟩ : ∃ C1, C1 = (C.toList.take 3 ++ xs ++ C.toList.drop (3 + xs.length)).toArray := ⟨_, rfl⟩
  rw [← hC1] at r1 hb1 hx1 hz1
  have r2 := fun ty dc sc => run_copy_k (P := Try.prog) (w.drew.setRow g C1) 22 22 ty 27 3 g 0 (n + 1) dc ⟨h, 0, none⟩ 1 sc C1 27 x.cells Try.underlying22 item_size hb1
    (by rw [show Nat.min 1 (n + 1) = 1 from Nat.min_eq_left (by omega)]; rfl) (fun j v hj => by rw [Addr.add_lit, Nat.zero_add]; exact Box.cell hx1 j (by simpa using hj)) (by rw [It.cells3]; omega) (cells_plain x)
  have e1 : Nat.min (n + 1) n = n := Nat.min_eq_right (by omega)
  have e2 : Nat.min 1 (n + 1) = 1 := Nat.min_eq_left (by omega)
  rw [e1] at r1
  rw [e2] at r2
  refine ⟨_, _, _, r1, r2, ⟨box_setRow hb1 _, hO.low, hroom, hO.max, ?_, ?_, ?_⟩, grown_trans (grown_trans (grown_drew w _) (grown_setRow _ _ _)) (grown_setRow _ _ _)⟩
  · simp only [List.size_toArray, List.length_append, List.length_take, List.length_drop, Array.length_toList, It.cells3]
    omega
  · rw [List.length_append, It.cells3]; omega
  · have e3 : C1.toList.drop (0 + x.cells.length) = xs ++ C.toList.drop (3 + xs.length) := by
      rw [hC1, It.cells3, List.append_assoc, Nat.zero_add]
      exact List.drop_left' (by rw [List.length_take, Array.length_toList]; omega)
    rw [List.take_zero, List.nil_append, e3]
    show (x.cells ++ (xs ++ _)).take _ = _
    rw [← List.append_assoc]
    exact List.take_left' (by rw [List.length_append, It.cells3]; omega)

/-- There is no room: what the three operations make. -/
theorem ins_grow (w : World) (base g c h n : Nat) (l : List It) (x : It) (C : Array Value) (hO : OwnR w base 27 g c n (l.flatMap It.cells) C) (hln : l.length = n) (hx : Box w h 27 x.cells.toArray) (hbase : base ≤ w.heap.size) (hroom : ¬ n + 1 ≤ c) (hn : n ≤ 1000000) :
    ∃ G W1 W2 W3 D, n + 1 ≤ G ∧ G ≤ maxLen ∧ (∀ ty, (Builtin.append_ #[22, 3] ty #[.slice (some ⟨g, 0, none⟩) 0 c, .int .i64 ((n + 1 : Nat) : Int)]).run Try.prog w = .ok (.slice (some ⟨w.heap.size, 0, none⟩) (n + 1) G) W1) ∧
      (∀ ty dc sc, (Builtin.copy_ #[22, 22] ty #[.slice (some ⟨w.heap.size, 0, none⟩) (n + 1) dc, .slice (some ⟨h, 0, none⟩) 1 sc]).run Try.prog W1 = .ok (goInt 1) W2) ∧
      (∀ ty dc sc, (Builtin.copy_ #[22, 22] ty #[.slice (some ⟨w.heap.size, 3, none⟩) n dc, .slice (some ⟨g, 0, none⟩) n sc]).run Try.prog W2.drew = .ok (goInt n) W3) ∧
      OwnR W3 base 27 w.heap.size G (n + 1) ((x :: l).flatMap It.cells) D ∧ w.grownBy W3 none := by
  have hpl := its_plain l
  rw [ins_flat]
  have hxl : (l.flatMap It.cells).length = n * 3 := by rw [its_len, hln]
  generalize l.flatMap It.cells = xs at *
  obtain ⟨i0, hi0, hz0, hz1, hz2⟩ := info_parts item_info
  have hfit := hO.fit
  obtain ⟨G, hG⟩ : ∃ G, G = grownCap w (n + 1) c 27 := ⟨_, rfl⟩
  have hGn : n + 1 ≤ G := by rw [hG]; exact grownCap_ge w _ _ _
  have hGm : G ≤ maxLen := by rw [hG]; exact grownCap_le_maxLen w (n + 1) c _ (by unfold maxLen; omega)
  have hold : (Builtin.firstCells i0.size 0 (.slice (some ⟨g, 0, none⟩) 0 c)).run Try.prog w.drew = .ok (([] : List Value).toArray) w.drew := by
    have := run_loadCells_list (P := Try.prog) w.drew ⟨g, 0, none⟩ [] (by simp)
    simpa [Builtin.firstCells] using this
  have r1 := fun ty => Lib.run_append_grow_zeros w 22 3 ty 27 i0 (.agg #[.int .i64 0, .string ⟨#[]⟩, .bool false]) .i64 .i64 Try.underlying22 Try.underlying3 hi0 hz0 (some ⟨g, 0, none⟩) 0 c [] hold (n + 1) (by omega) (by omega) (by omega) (by omega) (by rw [hz2]; omega)
    (growslice_fits (need := 0 + (n + 1)) (old := c) (bytes := i0.bytes) (by omega) (by rw [hz2]; omega))
  simp only [Nat.zero_add] at r1
  rw [← hG] at r1
  obtain ⟨C0, hC0⟩ : ∃ C0, C0 = (([] : List Value).toArray ++ Builtin.zeroCells (Value.cells (.agg #[.int .i64 0, .string ⟨#[]⟩, .bool false])) (n + 1) ++ Builtin.zeroCells (Value.cells (.agg #[.int .i64 0, .string ⟨#[]⟩, .bool false])) (G - (n + 1))) := ⟨_, rfl⟩
  have hs0 : C0.size = G * 3 := by
    rw [hC0]
    simp [zero_size]
    show (n + 1) * 3 + (G - (n + 1)) * 3 = G * 3
    omega
  rw [← hC0] at r1
  clear hC0
  obtain ⟨W1, hW1⟩ : ∃ W1, W1 = w.drew.alloc (.cells C0 27) := ⟨_, rfl⟩
  rw [← hW1] at r1
  have hbq : Box W1 w.heap.size 27 C0 := by rw [hW1]; exact Box.at_ w.drew _ _ rfl
  have hbh : Box W1 h 27 x.cells.toArray := by rw [hW1]; exact Box.push (show Box w.drew h _ _ from hx) _
  have hbg : Box W1 g 27 C := by rw [hW1]; exact Box.push (show Box w.drew g _ _ from hO.box) _
  have hg1 : w.grownBy W1 none := by rw [hW1]; exact grown_trans (grown_drew w _) (World.grownBy_alloc _ _ _)
  have hgl := Box.lt hO.box
  clear hW1
  have r2 := fun ty dc sc => run_copy_k (P := Try.prog) W1 22 22 ty 27 3 w.heap.size 0 (n + 1) dc ⟨h, 0, none⟩ 1 sc C0 27 x.cells Try.underlying22 item_size hbq
    (by rw [show Nat.min 1 (n + 1) = 1 from Nat.min_eq_left (by omega)]; rfl) (fun j v hj => by rw [Addr.add_lit, Nat.zero_add]; exact Box.cell hbh j (by simpa using hj)) (by rw [It.cells3]; omega) (cells_plain x)
  rw [show Nat.min 1 (n + 1) = 1 from Nat.min_eq_left (by omega)] at r2
  obtain ⟨C1, hC1⟩ : ∃ C1, C1 = (C0.toList.take 0 ++ x.cells ++ C0.toList.drop (0 + x.cells.length)).toArray := ⟨_, rfl⟩
  rw [← hC1] at r2
  have hs1 : C1.size = G * 3 := by
    rw [hC1]
    simp only [List.size_toArray, List.length_append, List.length_take, List.length_drop, Array.length_toList, It.cells3]
    omega
  have hb1 : Box (W1.setRow w.heap.size C1).drew w.heap.size 27 C1 := box_setRow hbq C1
  have hbg1 : Box (W1.setRow w.heap.size C1).drew g 27 C := by
    have h3 : Box (W1.setRow w.heap.size C1) g 27 C := by
      unfold Box at *
      rw [setRow_other _ _ _ _ (by omega)]
      exact hbg
    exact h3
  have hO1 : OwnR (W1.setRow w.heap.size C1).drew base 27 g c n xs C := ⟨hbg1, hO.low, hO.fit, hO.max, hO.size, hO.len, hO.take⟩
  have r3 := fun ty dc sc => run_copy_k (P := Try.prog) (W1.setRow w.heap.size C1).drew 22 22 ty 27 3 w.heap.size 3 n dc ⟨g, 0, none⟩ n sc C1 27 xs Try.underlying22 item_size hb1
    (by rw [hxl, show Nat.min n n = n from Nat.min_eq_right (by omega)]) (fun j v hj => by rw [Addr.add_lit, Nat.zero_add]; exact hO1.cell hj) (by omega) hpl
  rw [show Nat.min n n = n from Nat.min_eq_right (by omega)] at r3
  refine ⟨G, W1, _, _, _, hGn, hGm, r1, r2, r3, ⟨box_setRow hb1 _, hbase, hGn, hGm, ?_, ?_, ?_⟩, ?_⟩
  · simp only [List.size_toArray, List.length_append, List.length_take, List.length_drop, Array.length_toList]
    omega
  · rw [List.length_append, It.cells3]; omega
  · have e3 : C1.toList.take 3 = x.cells := by
      rw [hC1, List.take_zero, List.nil_append]
      exact List.take_left' (It.cells3 x)
    rw [e3]
    show (x.cells ++ xs ++ _).take _ = _
    exact List.take_left' (by rw [List.length_append, It.cells3]; omega)
  · have h4 : ∀ D (W : World), w.grownBy W none → w.grownBy (W.setRow w.heap.size D) none := fun D W h5 =>
      ⟨h5.os, h5.tape, h5.output, by simpa using h5.size, fun k hk hn => (setRow_other _ _ _ _ (by omega)).trans (h5.block k hk hn)⟩
    exact h4 _ _ (grown_trans (h4 _ _ hg1) (grown_drew _ _))

theorem overlaps_no (w : World) (h g lb cb : Nat) (x : It) (C : Array Value) (hx : Box w h 27 x.cells.toArray) (hb : Box w g 27 C) (hC : C.size ≠ 0) (hgh : h ≠ g) :
    (callFunc 33 #[.slice (some ⟨h, 0, none⟩) 1 1, .slice (some ⟨g, 3, none⟩) lb cb]).run Try.prog w = .ok (.value (.bool false)) w := by
  have s1 : w.shape? h = some (27, 3) := by
    have h1 : w.heap[h]? = some (.cells x.cells.toArray 27 (0, 0)) := hx
    simp [World.shape?, h1, It.cells]
  have s2 : w.shape? g = some (27, C.size) := by
    have h1 : w.heap[g]? = some (.cells C 27 (0, 0)) := hb
    simp [World.shape?, h1]
  rw [run_callFunc_extern Try.func33 (by kernel_rfl) (by kernel_rfl) (by kernel_rfl) (e := Extern.SlicesOverlaps.overlaps #[22, 22] #[4]) (by kernel_rfl),
    Lib.run_overlaps_apart w 22 4 27 Try.underlying22 3 Try.sizeOf27 ⟨h, 0, none⟩ ⟨g, 3, none⟩ 1 1 lb cb hgh _ _ _ _ s1 s2 hC (Box.free hx 0) (Box.free hx 3)]
  rfl

set_option maxHeartbeats 2000000 in
set_option maxRecDepth 100000 in
theorem ins_first (w : World) (base : Nat) (v : Value) (n h : Nat) (l : List It) (x : It) (hO : w.ownsRow base 27 3 v n (l.flatMap It.cells)) (hln : l.length = n) (hx : Box w h 27 x.cells.toArray) (hgh : v.ownBlock ≠ some h) (hbase : base ≤ w.heap.size) (hn : n ≤ 100000) :
    Calls Try.prog 32 #[v, .int .i64 0, .slice (some ⟨h, 0, none⟩) 1 1] w fun e w' => ∃ v', e = .returned v' ∧ w'.ownsRow base 27 3 v' (n + 1) ((x :: l).flatMap It.cells) ∧ w.grownBy w' v.ownBlock ∧ (v'.ownBlock = v.ownBlock ∨ ∃ q, w.heap.size ≤ q ∧ v'.ownBlock = some q) := by
  by_cases h0 : n = 0
  · subst h0
    have hl : l = [] := List.eq_nil_of_length_eq_zero hln
    subst hl
    obtain ⟨v', w', hr, o1, g1, a1⟩ := run_push item_info Try.underlying22 w 0 base v 0 [] hO h x hx (by omega) hbase
    have hr' : ∀ ty, (Builtin.append_ #[22, 22] ty #[v, .slice (some ⟨h, 0, none⟩) 1 1]).run Try.prog w = .ok v' w' := fun _ => hr
    have HR := Lib.hid (show w'.ownsRow base 27 3 v' (0 + 1) ([x].flatMap It.cells) ∧ w.grownBy w' v.ownBlock ∧ (v'.ownBlock = v.ownBlock ∨ ∃ q, w.heap.size ≤ q ∧ v'.ownBlock = some q) from
      ⟨by simpa using o1, g1, a1.imp id (fun h => ⟨_, Nat.le_refl _, h⟩)⟩)
    clear o1 g1 a1 hr hx hgh hbase
    rcases own_open hO with ⟨rfl, _, _⟩ | ⟨g, c, C, rfl, hC⟩
    · clear hO
      go_enter Try.func32, Try.ntmps32
      go_wp2_with (at_builtin; refine Lib.wpList_append_run _ rfl _ _ _ _ rfl _ _ rfl rfl _ _ (hr' _) ?_)
      go_ret
      exact ⟨v', rfl, HR.out⟩
    · clear hO hC
      go_enter Try.func32, Try.ntmps32
      go_wp2_with (at_builtin; refine Lib.wpList_append_run _ rfl _ _ _ _ rfl _ _ rfl rfl _ _ (hr' _) ?_)
      go_ret
      exact ⟨v', rfl, HR.out⟩
  · rcases own_open hO with ⟨rfl, h1, _⟩ | ⟨g, c, C, rfl, hC⟩
    · exact absurd h1 h0
    have hgg : h ≠ g := fun e => hgh (by rw [e]; rfl)
    have hfit := hC.fit
    have hcm := hC.max
    unfold maxLen at hcm
    have hn0 : ¬ ((n : Int) = 0) := by omega
    have h0n : ¬ ((0 : Int) = (n : Int)) := by omega
    have wn1 : IntKind.i64.wrap ((n : Int) + 1) = ((n + 1 : Nat) : Int) := by rw [IntKind.wrap_i64]; omega
    have hw1 : IntKind.i64.wrap 1 = 1 := by decide
    have h1n : (1 : Int) ≤ (n : Int) + 1 := by omega
    have h0n1 : (0 : Int) ≤ (n : Int) + 1 := by omega
    by_cases hroom : n + 1 ≤ c
    · obtain ⟨W1, W2, D, r1, r2, hD, hg⟩ := ins_room w base g c h n l x C hC hln hx hgg hroom
      have HR := Lib.hid (show _ ∧ _ from ⟨hD, hg⟩)
      have hov := fun lb cb => overlaps_no w h g lb cb x C hx hC.box (by rw [hC.size]; omega) hgg
      have hgt : ¬ (c : Int) < ((n + 1 : Nat) : Int) := by omega
      have hc1 : ¬ c = 1 := by omega
      have hc0 : ¬ c = 0 := by omega
      clear hC hD hg hO hx hgh hgg
      go_enter Try.func32, Try.ntmps32
      go_wp2_with (simp only [hov])
      go_region_law (refine step_copy_runI rfl (.tmp 73) (.tmp 76) 22 22 rfl (.slice (some ⟨g, 3, none⟩) n (c - 1)) (.slice (some ⟨g, 0, none⟩) (n + 1) c) (by simp [Act.eval, Act.put]) (by simp [Act.eval, Act.put]) (r1 _ _ _) ?_)
      go_wp2_with (at_builtin; refine wpList_copy_runI _ rfl _ _ _ _ rfl _ _ rfl rfl (r2 _ _ _) ?_)
      go_ret
      exact ⟨_, rfl, HR.out.1.own, HR.out.2, .inl rfl⟩
    · obtain ⟨G, W1, W2, W3, D, hGn, hGm, r1, r2, r3, hD, hg⟩ := ins_grow w base g c h n l x C hC hln hx hbase hroom (by omega)
      have HR := Lib.hid (show _ ∧ _ from ⟨hD, hg⟩)
      have hgt : (c : Int) < ((n + 1 : Nat) : Int) := by omega
      obtain ⟨q, hq⟩ : ∃ q, q = w.heap.size := ⟨_, rfl⟩
      rw [← hq] at r1 r2 r3
      have HQ := Lib.hid hq
      unfold maxLen at hGm
      have hG1 : ¬ G = 1 := by omega
      clear hC hD hg hO hx hgh hgg hq
      go_enter Try.func32, Try.ntmps32
      go_wp2_with (at_builtin; first | refine Lib.wpList_append_run _ rfl _ _ _ _ rfl _ _ rfl rfl _ _ (r1 _) ?_ | refine wpList_copy_runI _ rfl _ _ _ _ rfl _ _ rfl rfl (r2 _ _ _) ?_)
      go_region_law (refine step_copy_runI rfl (.tmp 50) (.tmp 53) 22 22 rfl (.slice (some ⟨q, 3, none⟩) n (G - 1)) (.slice (some ⟨g, 0, none⟩) n c) (by simp [Act.eval, Act.put]) (by simp [Act.eval, Act.put]) (r3 _ _ _) ?_)
      go_wp2
      go_ret
      rw [HQ.out]
      exact ⟨_, rfl, HR.out.1.own, ⟨HR.out.2.os, HR.out.2.tape, HR.out.2.output, HR.out.2.size, fun k hk _ => HR.out.2.block k hk (by simp)⟩, .inr ⟨_, Nat.le_refl _, rfl⟩⟩

end Go.Proofs.Ythoffknkpogfhaa
