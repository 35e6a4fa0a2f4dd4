/- The walk of the law BlockBroken. -/
import Derived.Test.YtaodhghpphpflaaFill
import Derived.Test.YtaodhghpphpflaaBytes
namespace Go.Proofs.Ytaodhghpphpflaa
open Go.RowKit

/-- What each slot of the line holds that puts the changed sectors. -/
def BrokenV (base m2 : Nat) (D BS : Value) (bs : ByteArray) (L S : List ByteArray) (W2 : List Wr) (p t : Nat) (v : Value) (w : World) : Prop :=
  match t with
  | 81 => v = D
  | 82 => v = BS
  | 83 => v = .string bs
  | 84 => RowV w v L
  | 85 => Tup 80 m2 S W2 w v
  | 80 => Tup 80 m2 S W2 w v
  | 86 => Dsk 80 m2 S W2 w v
  | 87 => v = .int .i64 0
  | 14 => (p = 0 → Zero base w v) ∧ (1 ≤ p → Fill base 80 m2 S W2 w v)
  | 15 => v = .int .i64 0
  | _ => True
theorem BrokenV.on {base m2 : Nat} {D BS : Value} {bs : ByteArray} {L S : List ByteArray} {W2 : List Wr} {p t : Nat} {v : Value} {w w' : World} (h : BrokenV base m2 D BS bs L S W2 p t v w) (hb : Below w.heap.size w w') : BrokenV base m2 D BS bs L S W2 p t v w' := by
  unfold BrokenV at *
  split at h <;> first | exact h | exact RowV.on h hb | exact Tup.on h hb | exact Dsk.on h hb | exact ⟨fun e => (h.1 e).on hb, fun e => (h.2 e).on hb⟩

theorem xor_bit (c : UInt8) (r : Nat) (hr : r < 8) : bits .xor .u8 (c.toNat : Int) (2 ^ r % 256) = ((c ^^^ UInt8.ofNat (2 ^ r)).toNat : Int) := by
  have H : ∀ r : Fin 8, ((2 : Int) ^ r.val % 256) = ((UInt8.ofNat (2 ^ r.val)).toNat : Int) := by decide
  rw [H ⟨r, hr⟩, u8_xor_nat _ _ c.toNat_lt (UInt8.ofNat (2 ^ r)).toNat_lt, UInt8.toNat_xor]
theorem xor_bit_ne (c : UInt8) (r : Nat) (hr : r < 8) : c ^^^ UInt8.ofNat (2 ^ r) ≠ c := by
  intro e
  have h1 : UInt8.ofNat (2 ^ r) = 0 := by
    have := congrArg (fun x => c ^^^ x) e
    simpa [← UInt8.xor_assoc] using this
  have H : ∀ r : Fin 8, UInt8.ofNat (2 ^ r.val) ≠ 0 := by decide
  exact H ⟨r, hr⟩ h1

set_option maxHeartbeats 4000000 in
set_option maxRecDepth 100000 in
theorem broken_walk (t : ByteArray) (bit : Nat) (w : World) (ht : t.size ≤ maxLen) (hbit : bit < 4294967296) :
    Calls Try.prog 4 #[.string t, .int .u32 bit] w fun e w' => e = .returned (.bool true) ∧ Below w.heap.size w w' := by
  unfold maxLen at ht
  by_cases h1 : 2000 < t.size
  · go_enter Try.func4, Try.ntmps4
    go_wp2_with fail
    refine (awake_true _).mono ?_
    rintro e w1 ⟨rfl, hb1⟩
    go_wp2
    go_ret
    exact ⟨rfl, hb1⟩
  have g1 : decide (2000 < (t.size : Int)) = false := decide_eq_false (by omega)
  have hna := need_room t.size
  have HNA := Lib.hid (fun wx => need_in t.size wx (by omega))
  have HNW := Lib.hid (new_ok 80 w (by decide) (by decide))
  obtain ⟨n, hn⟩ : ∃ n, n = needN t.size := ⟨_, rfl⟩
  rw [← hn] at hna HNA
  have hn63 : n ≤ 63 := by omega
  have hn1 : 1 ≤ n := by omega
  have hn0 : ((n : Int) == 0) = false := by rw [beq_eq_false_iff_ne]; omega
  obtain ⟨S, hS⟩ : ∃ S, S = List.replicate 80 zeroS := ⟨_, rfl⟩
  have hSl : S.length = 80 := by rw [hS, List.length_replicate]
  have HSL := Lib.hid hSl
  have HR0 := Lib.hid (show rightB S [] = true by rw [hS]; exact zero_right 80 (by decide) (by decide))
  rw [← hS] at HNW
  have HN := Lib.hid hn
  have HZt := Lib.hid (show t.size ≤ 65535 by omega)
  obtain ⟨W1, hW1⟩ : ∃ W1, W1 = [] ++ putL ((3 : Nat) : Int) (secsL t.data.toList) := ⟨_, rfl⟩
  have HR1 := Lib.hid (show rightB S W1 = true by rw [hW1]; exact right_write HR0.out (by rw [hSl, ← HN.out]; omega))
  have hl1 : W1.length = n := by rw [hW1, len_write, ← HN.out]; simp
  have hLy : Lays S W1 3 t := by rw [hW1]; exact Lays.put S [] 3 t (by rw [hSl, ← HN.out]; omega)
  have HLY := Lib.hid hLy
  obtain ⟨s, hs⟩ : ∃ s : ByteArray, s = ⟨(padL (bytesL t.data.toList)).toArray⟩ := ⟨_, rfl⟩
  have HRS := Lib.hid (show flatS (((doneL S W1).drop 3).take n) = s by rw [HN.out, hLy.2, flat_secs, hs])
  have hsz : s.size = 32 * n := by rw [hs, hn]; show (padL _).toArray.size = _; rw [List.size_toArray, pad_bytes_len]; simp
  have HW1 := Lib.hid hW1
  have HL1 := Lib.hid hl1
  have HS := Lib.hid hs
  obtain ⟨x, hx⟩ : ∃ x : Nat, (bit : Int) % (8 * (32 * (n : Int)) - 32) = (x : Int) := ⟨bit % (8 * (32 * n) - 32), by rw [Int.natCast_emod]; congr 1; omega⟩
  have hx2 : x + 32 < 256 * n := by
    have := Int.emod_lt_of_pos (bit : Int) (show (0 : Int) < 8 * (32 * (n : Int)) - 32 by omega)
    omega
  clear hS hn hna h1 hW1 hl1 hSl hLy hs
  go_enter Try.func4, Try.ntmps4
  go_wp2_with fail
  refine HNW.out.mono ?_
  rintro e w1 ⟨v1, rfl, hv1, hb1⟩
  obtain ⟨A1, c1, B1, d1, rfl, hA1, hB1⟩ := hv1
  have hv1 : DV w1 _ S [] := ⟨A1, c1, B1, d1, rfl, hA1, hB1⟩
  rw [HSL.out, show ([] : List Wr).length = 0 from rfl] at hv1 ⊢
  have H1 := Lib.hid (Holds.fresh hv1 hb1)
  clear hv1 hb1 hA1 hB1 HNW
  have hwr := write_nat (a := 3) (ai := 3) (t := t) (by omega) H1.out.dv (by decide) HZt.out HR0.out (by rw [HSL.out, ← HN.out]; omega)
  rw [← HW1.out] at hwr
  go_wp2_with fail
  refine hwr.mono ?_
  clear hwr
  rintro e w2 ⟨v2, rfl, hv2, hb2⟩
  obtain ⟨A2, c2, B2, d2, rfl, hA2, hB2⟩ := hv2
  have hv2 : DV w2 _ S W1 := ⟨A2, c2, B2, d2, rfl, hA2, hB2⟩
  rw [HSL.out, HL1.out] at hv2 ⊢
  have H3 := Lib.hid (Holds.fresh hv2 (H1.out.below.trans (hb2.mono H1.out.below.size)))
  clear hv2 hb2 hA2 hB2 H1
  go_wp2_with fail
  refine (HNA.out _).mono ?_
  rintro e w3 ⟨rfl, rfl⟩
  have hrd := read_dv (a := 3) (k := n) H3.out.dv (by rw [HL1.out]; omega) HR1.out (by rw [HSL.out]; omega)
  rw [HRS.out, show ((3 : Nat) : Int) = 3 from rfl] at hrd
  go_wp2_with fail
  refine hrd.mono ?_
  clear hrd
  rintro e w5 ⟨rfl, hb5⟩
  have H5 := Lib.hid (H3.out.on hb5)
  clear hb5 H3
  obtain ⟨cap, w6, hcv, hb6, hB⟩ := conv_bytes (P := Try.prog) (ts := 9) (tt := 44) (te := 5) Try.underlying9 Try.underlying44 Try.underlying5 s w5
  have HB6 := Lib.hid hb6
  have HBy := Lib.hid hB
  rw [hsz] at hcv
  clear hb6 hB
  obtain ⟨j, hj⟩ : ∃ j : Nat, (32 + (x : Int)) / 8 = (j : Int) := ⟨(32 + x) / 8, by omega⟩
  obtain ⟨r, hr⟩ : ∃ r : Nat, (32 + (x : Int)) % 8 = (r : Int) := ⟨(32 + x) % 8, by omega⟩
  have hjs : (j : Int) < 32 * n := by omega
  have hj4 : 4 ≤ j := by omega
  have hr8 : r < 8 := by omega
  obtain ⟨hcell, hfro⟩ := HBy.out j (by simp only [Array.length_toList, ByteArray.size_data, hsz]; omega)
  obtain ⟨c, hcc⟩ : ∃ c, s.data.toList.getD j 0 = c := ⟨_, rfl⟩
  rw [hcc] at hcell
  have HCE := Lib.hid hcc
  clear hcc
  have hcj : (padL (bytesL t.data.toList))[j]? = some c := by
    have h1 := HCE.out
    rw [HS.out] at h1
    have hjl : j < (padL (bytesL t.data.toList)).length := by rw [pad_bytes_len]; have h2 := HN.out; simp only [Array.length_toList, ByteArray.size_data]; omega
    rw [List.getElem?_eq_getElem hjl]
    rw [← h1]
    simp [List.getD, hjl]
  go_wp2
  go_region
  have hb7 : Below w5.heap.size w5 ((w6.setCell ⟨w5.heap.size, j, none⟩ (.int .u8 (bits .xor .u8 (c.toNat : Int) (2 ^ r % 256)))).drew) := (HB6.out.setCell (Nat.le_refl _) _).drew
  have hBy7 : BytesAt ((w6.setCell ⟨w5.heap.size, j, none⟩ (.int .u8 (bits .xor .u8 (c.toNat : Int) (2 ^ r % 256)))).drew) w5.heap.size (s.data.toList.set j (c ^^^ UInt8.ofNat (2 ^ r))) := by
    have h1 := HBy.out.set j (c ^^^ UInt8.ofNat (2 ^ r)) (by simp only [Array.length_toList, ByteArray.size_data, hsz]; omega)
    rw [← xor_bit c r hr8] at h1
    exact h1.drew
  go_wp2
  generalize (w6.setCell ⟨w5.heap.size, j, none⟩ (.int .u8 (bits .xor .u8 (c.toNat : Int) (2 ^ r % 256)))).drew = w7 at *
  have H7 := Lib.hid (H5.out.on hb7)
  have HBY7 := Lib.hid hBy7
  obtain ⟨l2, hl2⟩ : ∃ l2, l2 = s.data.toList.set j (c ^^^ UInt8.ofNat (2 ^ r)) := ⟨_, rfl⟩
  rw [← hl2] at HBY7
  have hll : l2.length = 32 * n := by rw [hl2, List.length_set]; simp only [Array.length_toList, ByteArray.size_data, hsz]
  have hbz := hb7.size
  have hbg : w5.heap.size < w7.heap.size := by
    have h1 := HBY7.out j (by omega)
    exact lt_of_cell h1.1
  obtain ⟨bs, hbs⟩ : ∃ bs : ByteArray, bs = ⟨l2.toArray⟩ := ⟨_, rfl⟩
  obtain ⟨L, hL⟩ : ∃ L, L = cutL l2 := ⟨_, rfl⟩
  obtain ⟨W2, hW2⟩ : ∃ W2, W2 = W1 ++ putL ((3 : Nat) : Int) L := ⟨_, rfl⟩
  have hLl : L.length = n := by rw [hL, cut_len, hll, sec_whole]
  have hLf : fillB L = true := by rw [hL]; exact cut_fill _
  have HW2L := Lib.hid (show W2.length = n + n by rw [hW2, List.length_append, put_len, hLl, HL1.out])
  have HR2 := Lib.hid (show rightB S W2 = true by rw [hW2]; exact put_right HR1.out hLf (by rw [hLl, HSL.out]; exact has_nat (by omega)))
  have HC1 := Lib.hid (fun (wx : World) (h : Below w7.heap.size w7 wx) => DBlk.cells (Box.on H7.out.blk h))
  have HCV := Lib.hid (fun (wx : World) (h : Below w7.heap.size w7 wx) => show (convert 44 9 (.slice (some ⟨w5.heap.size, 0, none⟩) (32 * n) cap)).run Try.prog wx = .ok (.string bs) wx by
    rw [hbs]
    exact conv_cells Try.underlying44 Try.underlying5 Try.underlying9 hll (fun i hi => (h.cell (show (⟨w5.heap.size, i, none⟩ : Addr).block < _ from hbg)).trans (HBY7.out i (by omega)).1))
  have HCUT := Lib.hid (fun (wx : World) => show Calls Try.prog 19 #[.string bs] wx fun e w' => ∃ v', e = .returned v' ∧ RowV w' v' L ∧ Below wx.heap.size wx w' by
    have h := cut_any bs wx (by rw [hbs]; show l2.toArray.size ≤ _; rw [List.size_toArray]; omega)
    rw [hbs] at h ⊢
    rw [hL]
    exact h)
  have HPUT := Lib.hid (fun (wx : World) (h : Below w7.heap.size w7 wx) (v : Value) (hv : RowV wx v L) => show Calls Try.prog 16 #[.agg #[.slice A2 80 c2, .slice B2 n d2], .int .i64 3, v] wx fun e w' => ∃ v', e = .returned v' ∧ Tup 80 (n + n) S W2 w' v' ∧ Below wx.heap.size wx w' by
    refine (put_dv_ok (a := 3) (H7.out.dv.on h) hv.sv (by rw [HL1.out]; omega) (by rw [hLl]; omega) HR1.out hLf (by rw [hLl, HSL.out]; exact has_nat (a := 3) (by omega))).mono ?_
    rintro e w' ⟨v', rfl, hdv, hb⟩
    obtain ⟨A3, c3, B3, d3, rfl, hA3, hB3⟩ := hdv
    have hdv : DV w' _ S (W1 ++ putL 3 L) := ⟨A3, c3, B3, d3, rfl, hA3, hB3⟩
    rw [show W1 ++ putL 3 L = W2 from hW2.symm, HSL.out, HW2L.out] at hdv
    refine ⟨_, rfl, ⟨A3, c3, B3, d3, ?_, hdv⟩, hb⟩
    rw [show W1 ++ putL 3 L = W2 from hW2.symm, HSL.out, HW2L.out])
  have HTELL := Lib.hid (show tellT (readS S W2 3 n).data.toList n = [] ∧ tellE (readS S W2 3 n).data.toList n = 4 by
    have e1 : (readS S W2 3 n).data.toList = l2 := by
      unfold readS
      rw [hW2]
      have h1 := read_put S W1 3 L (by rw [hLl, HSL.out]; omega)
      rw [hLl] at h1
      rw [h1]
      unfold flatS
      rw [hL, cut_flat, pad_whole l2 n hll]
    have e2 : l2 = (padL (bytesL t.data.toList)).set j (c ^^^ UInt8.ofNat (2 ^ r)) := by rw [hl2, HS.out]
    obtain ⟨hjl, hcg⟩ := List.getElem?_eq_some_iff.1 hcj
    have hbk := broken t.data.toList (by have := HZt.out; simpa using this) j (c ^^^ UInt8.ofNat (2 ^ r)) hj4 hjl (by rw [hcg]; exact xor_bit_ne c r hr8)
    rw [show t.data.toList.length = t.size by simp, ← HN.out] at hbk
    rw [e1, e2]
    unfold tellT tellE
    rw [hbk.1, hbk.2]
    exact ⟨rfl, rfl⟩)
  have HB7 := Lib.hid H7.out.below
  clear hW2 hL hbs hl2 hll hLl hLf hBy7 hb7 hbz hbg hcj hcell hfro hj hr hx hcv
  refine wp_region_phase 8 [81, 82, 83, 84, 85, 80, 86, 87, 14, 15] (by kernel_rfl) [9] [] (fun _ _ => True) 1 rfl (by kernel_rfl) (fun _ w' => Below w7.heap.size w7 w') (fun wa wb => Below wa.heap.size wa wb) (BrokenV w7.heap.size (n + n) (.agg #[.slice A2 80 c2, .slice B2 n d2]) (.slice (some ⟨w5.heap.size, 0, none⟩) (32 * n) cap) bs L S W2) (by kernel_rfl) (fun _ wa wb h1 h2 => h2.trans (h1.mono h2.size)) (fun _ t v wa wb h1 h2 => h2.on h1) (fun _ _ _ _ _ _ _ => trivial) (Below.refl _ _).drew trivial (phase1 ?_ ?_) ?_
  refine Steps1.cons (fun _ ax wx hS hJ hG => ?_) (Steps1.cons (fun _ ax wx hS hJ hG => ?_) (Steps1.cons (fun _ ax wx hS hJ hG => ?_) (Steps1.cons (fun _ ax wx hS hJ hG => ?_) (Steps1.cons (fun _ ax wx hS hJ hG => ?_) (Steps1.cons (fun _ ax wx hS hJ hG => ?_) (Steps1.cons (fun _ ax wx hS hJ hG => ?_) (Steps1.cons (fun _ ax wx hS hJ hG => ?_) (Steps1.cons (fun _ ax wx hS hJ hG => ?_) (Steps1.cons (fun _ ax wx hS hJ hG => ?_) (Steps1.cons (fun hin _ _ _ _ _ => out (by kernel_rfl) hin) Steps1.nil))))))))))
  · have q7 := hG.old 7 (by kernel_rfl) (by kernel_rfl)
    obtain ⟨z0, z1⟩ := HC1.out wx hS
    refine step_slot rfl rfl rfl (step_value (v := .agg #[.slice A2 80 c2, .slice B2 n d2]) (w' := wx) rfl rfl ?_ (Below.refl _ _) (fun d hd => by cases hd; exact rfl))
    go_simp
  · have q12 := hG.old 12 (by kernel_rfl) (by kernel_rfl)
    refine step_slot rfl rfl rfl (step_value (v := .slice (some ⟨w5.heap.size, 0, none⟩) (32 * n) cap) (w' := wx) rfl rfl ?_ (Below.refl _ _) (fun d hd => by cases hd; exact rfl))
    go_simp
  · obtain ⟨_, q82, rfl⟩ := hG.new 82 (by kernel_rfl) (by kernel_rfl)
    refine step_slot rfl rfl rfl (step_value (v := .string bs) (w' := wx) rfl rfl ?_ (Below.refl _ _) (fun d hd => by cases hd; exact rfl))
    have hcv := HCV.out wx hS
    go_simp
  · obtain ⟨_, q83, rfl⟩ := hG.new 83 (by kernel_rfl) (by kernel_rfl)
    refine step_slot rfl rfl rfl (step_call (w1 := wx) (f := 19) (args := #[.string bs]) rfl rfl ?_ ((HCUT.out wx).mono ?_))
    · skip
      go_simp
    · rintro e w' ⟨v', rfl, hv, hq⟩
      exact ⟨_, rfl, hq, fun d hd => by cases hd; exact hv⟩
  · obtain ⟨_, q81, rfl⟩ := hG.new 81 (by kernel_rfl) (by kernel_rfl)
    obtain ⟨v84, q84, h84⟩ := hG.new 84 (by kernel_rfl) (by kernel_rfl)
    have p84 : RowV wx v84 L := h84
    refine step_slot rfl rfl rfl (step_call (w1 := wx) (f := 16) (args := #[.agg #[.slice A2 80 c2, .slice B2 n d2], .int .i64 3, v84]) rfl rfl ?_ ((HPUT.out wx hS v84 p84).mono ?_))
    · clear h84 p84
      go_simp
    · rintro e w' ⟨v', rfl, hv, hq⟩
      exact ⟨_, rfl, hq, fun d hd => by cases hd; exact hv⟩
  · obtain ⟨v85, q85, h85⟩ := hG.new 85 (by kernel_rfl) (by kernel_rfl)
    have p85 : Tup 80 (n + n) S W2 wx v85 := h85
    refine step_slot rfl rfl rfl (step_value (v := v85) (w' := wx) rfl rfl ?_ (Below.refl _ _) (fun d hd => by cases hd; exact p85))
    clear h85 p85
    go_simp
  · obtain ⟨v80, q80, h80⟩ := hG.new 80 (by kernel_rfl) (by kernel_rfl)
    obtain ⟨A3, c3, B3, d3, rfl, hdv⟩ : Tup 80 (n + n) S W2 wx v80 := h80
    refine step_slot rfl rfl rfl (step_value (v := .agg #[.slice A3 80 c3, .slice B3 (n + n) d3]) (w' := wx) rfl rfl ?_ (Below.refl _ _) (fun d hd => by cases hd; exact ⟨A3, c3, B3, d3, rfl, hdv⟩))
    clear hdv
    go_simp
  · obtain ⟨v80, q80, h80⟩ := hG.new 80 (by kernel_rfl) (by kernel_rfl)
    obtain ⟨A3, c3, B3, d3, rfl, hdv⟩ : Tup 80 (n + n) S W2 wx v80 := h80
    refine step_slot rfl rfl rfl (step_value (v := .int .i64 0) (w' := wx) rfl rfl ?_ (Below.refl _ _) (fun d hd => by cases hd; exact rfl))
    clear hdv
    go_simp
  · refine step_slot rfl rfl rfl (step_value (v := ptr wx.heap.size) (w' := wx.alloc (.cells #[.slice none 0 0, .slice none 0 0] 25)) rfl rfl ?_ ((Below.refl _ _).alloc (Nat.le_refl _) _) (fun d hd => by cases hd; exact ⟨fun _ => Zero.fresh wx hS.size, fun h => absurd h (by decide)⟩))
    unfold ptr
    go_simp
  · obtain ⟨v14, q14, h14⟩ := hG.new 14 (by kernel_rfl) (by kernel_rfl)
    obtain ⟨v86, q86, h86⟩ := hG.new 86 (by kernel_rfl) (by kernel_rfl)
    obtain ⟨g, rfl, hg, hz⟩ : Zero w7.heap.size wx v14 := (show (0 = 0 → Zero w7.heap.size wx v14) ∧ _ from h14).1 rfl
    obtain ⟨A3, c3, B3, d3, rfl, hdv⟩ : Dsk 80 (n + n) S W2 wx v86 := h86
    have f0 := Box.free hz 0
    have f1 := Box.free hz 1
    obtain ⟨k0, k1⟩ := DBlk.cells hz
    refine step_store (w' := laidD wx g A3 80 c3 B3 (n + n) d3) rfl rfl rfl rfl ?_ (laid_below hS hg) trivial ?_
    · clear h14 hdv hz hJ hS
      unfold laidD
      unfold ptr at q14
      go_simp
    · intro t u _ hu hV
      unfold BrokenV at hV ⊢
      split at hV
      · exact hV
      · exact hV
      · exact hV
      · exact laid_row hz hV
      · exact laid_tup hz hV
      · exact laid_tup hz hV
      · exact laid_dsk hz hV
      · exact hV
      · obtain rfl : ptr g = u := by rw [q14] at hu; exact Option.some.inj hu
        exact ⟨fun h => absurd h (by decide), fun _ => laid_fill hg hz hdv⟩
      · exact hV
      · trivial
  refine Steps1.cons (fun hin _ _ _ _ _ => out (by kernel_rfl) hin) (Steps1.cons (fun hin _ _ _ _ _ => out (by kernel_rfl) hin) (Steps1.cons (fun hin _ _ _ _ _ => out (by kernel_rfl) hin) (Steps1.cons (fun hin _ _ _ _ _ => out (by kernel_rfl) hin) (Steps1.cons (fun hin _ _ _ _ _ => out (by kernel_rfl) hin) (Steps1.cons (fun hin _ _ _ _ _ => out (by kernel_rfl) hin) (Steps1.cons (fun hin _ _ _ _ _ => out (by kernel_rfl) hin) (Steps1.cons (fun _ ax wx hS hJ hG => ?_) (Steps1.cons (fun hin _ _ _ _ _ => out (by kernel_rfl) hin) (Steps1.cons (fun hin _ _ _ _ _ => out (by kernel_rfl) hin) (Steps1.cons (fun _ ax wx hS hJ hG => ?_) Steps1.nil))))))))))
  · obtain ⟨v80, q80, h80⟩ := hG.new 80 (by kernel_rfl) (by kernel_rfl)
    obtain ⟨A3, c3, B3, d3, rfl, hdv⟩ : Tup 80 (n + n) S W2 wx v80 := h80
    refine step_slot rfl rfl rfl (step_value (v := .int .i64 0) (w' := wx) rfl rfl ?_ (Below.refl _ _) (fun d hd => by cases hd; exact rfl))
    clear hdv
    go_simp
  · obtain ⟨_, q87, rfl⟩ := hG.new 87 (by kernel_rfl) (by kernel_rfl)
    refine step_slot rfl rfl rfl (step_value (v := .int .i64 0) (w' := wx) rfl rfl ?_ (Below.refl _ _) (fun d hd => by cases hd; exact rfl))
    go_simp
  intro f w8 hS8 _ hV8
  obtain ⟨g, A3, c3, B3, d3, e14, hg, hbk, hdv⟩ : Fill w7.heap.size 80 (n + n) S W2 w8 (f 14) := (show (1 = 0 → _) ∧ (1 ≤ 1 → Fill w7.heap.size 80 (n + n) S W2 w8 (f 14)) from hV8 14 (by decide)).2 (Nat.le_refl _)
  have e15 : f 15 = .int .i64 0 := hV8 15 (by decide)
  simp only [puts, Act.put, List.setIfInBounds_toArray, List.set_cons_succ, List.set_cons_zero]
  rw [e14, e15]
  unfold ptr
  have HB8 := Lib.hid (HB7.out.trans (hS8.mono HB7.out.size))
  have hrd := tell_any (a := 3) (k := n) hdv (by rw [HW2L.out]; omega) HR2.out (by rw [HSL.out]; omega)
  rw [HTELL.out.1, HTELL.out.2, show ((3 : Nat) : Int) = 3 from rfl] at hrd
  obtain ⟨k0, k1⟩ := DBlk.cells hbk
  have hz8 := Box.lt hbk
  have HBK := Lib.hid hbk
  clear hV8 hS8 hbk hdv e14 e15
  go_wp2_with fail
  refine hrd.mono ?_
  clear hrd k0 k1
  rintro e w9 ⟨rfl, hb9⟩
  have HB9 := Lib.hid (HB8.out.trans (hb9.mono HB8.out.size))
  clear hb9
  go_wp2_with fail
  refine (awake_true _).mono ?_
  rintro e wA ⟨rfl, hbA⟩
  go_wp2
  go_ret
  exact ⟨rfl, HB9.out.trans (hbA.mono HB9.out.size)⟩

end Go.Proofs.Ytaodhghpphpflaa
