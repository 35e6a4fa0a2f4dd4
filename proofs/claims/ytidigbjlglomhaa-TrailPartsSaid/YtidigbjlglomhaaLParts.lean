/- The walk of TrailParts: what is told in parts is what is told at once. -/
import Derived.Test.YtidigbjlglomhaaAwk
import Derived.Test.YtidigbjlglomhaaSf
import Derived.Test.YtidigbjlglomhaaRSame
import Derived.Test.YtidigbjlglomhaaPh
set_option linter.unusedVariables false
set_option linter.unusedSimpArgs false
namespace Go.Proofs.Ytidigbjlglomhaa
open Go.RowKit

def PaV (Aa : Option Addr) (na ca z cp bs : Nat) (ap : Addr) (ls : Int) (L P : List Ch) (p t : Nat) (v : Value) (w : World) : Prop :=
  match t with
  | 53 => v = (.slice Aa na ca)
  | 54 => v = (.slice (some ap) (z + 1) cp)
  | 55 => p = 1 → World.ownsRow w bs 30 6 v (na + (z + 1)) (L.flatMap Ch.cells ++ P.flatMap Ch.cells)
  | 56 => v = (.slice (some ap) (z + 1) cp)
  | 57 => v = (.slice (some ap) (z + 1) cp)
  | 58 => v = (.int .i64 ((z : Int) + 1))
  | 59 => v = (.int .i64 z)
  | 60 => v = (.pointer (some (ap.add (z * 6))))
  | 61 => v = (.pointer (some (ap.add (z * 6))))
  | 62 => v = (.int .i64 ls)
  | 10 => 1 ≤ p ∧ World.ownsRow w bs 30 6 v (na + (z + 1)) (L.flatMap Ch.cells ++ P.flatMap Ch.cells)
  | 11 => v = (.int .i64 ls)
  | _ => True
theorem PaV.on {Aa : Option Addr} {na ca z cp bs : Nat} {ap : Addr} {ls : Int} {L P : List Ch} {p t : Nat} {v : Value} {w w' : World} (h : PaV Aa na ca z cp bs ap ls L P p t v w) (hb : Below w.heap.size w w') : PaV Aa na ca z cp bs ap ls L P p t v w' := by
  unfold PaV at *
  split at h <;> first | exact h | exact fun hp => own_on (h hp) hb | exact ⟨h.1, own_on h.2 hb⟩


set_option maxRecDepth 100000 in
set_option maxHeartbeats 8000000 in
theorem parts_walk (v : Value) (l : List Ch) (s : Int) (n8 : Nat) (rl rh : ByteArray) (ro : Bool) (w : World) (hv : CV w v l) (hn : l.length ≤ maxLen) (hb8 : n8 ≤ 255) :
    Calls Try.prog 4 #[v, .int .i64 s, .int .u8 (n8 : Int), .agg #[.string rl, .string rh, .bool ro]] w fun e w' => e = .returned (.bool true) ∧ Below w.heap.size w w' := by
  obtain ⟨A, n, c, rfl, hnl⟩ : ∃ A n c, v = .slice A n c ∧ l.length = n := by obtain ⟨A, c, e, _⟩ := hv; exact ⟨A, _, c, e, rfl⟩
  obtain ⟨gc, hgc⟩ : ∃ g, g = w.heap.size := ⟨_, rfl⟩
  obtain ⟨w1, hw1⟩ : ∃ q, q = w.alloc (.cells #[.string rl, .string rh, .bool ro] 35) := ⟨_, rfl⟩
  have hb0 : Below w.heap.size w w1 := by rw [hw1]; exact (Below.refl _ _).alloc (Nat.le_refl _) _
  have BR1 := Lib.hid (show Box w1 gc 35 #[.string rl, .string rh, .bool ro] from by rw [hw1]; exact Box.at_ w _ _ hgc)
  have HLN := Lib.hid hnl
  have HMX := Lib.hid hn
  have VL1 := Lib.hid (hv.on hb0)
  have HB1 := Lib.hid hb0
  have H8 := Lib.hid hb8
  clear hv hn hnl hb0 hb8
  go_enter Try.func4, Try.ntmps4
  go_upto_region 1 with fail
  rw [← hgc, ← hw1]
  clear hgc hw1
  go_wp2_with fail
  refine (few_v VL1.out).mono ?_
  rintro e w2 ⟨R1, rfl, h1, hb⟩
  have HB2 := Lib.hid (HB1.out.trans (hb.mono HB1.out.size))
  have VL2 := Lib.hid (VL1.out.on hb)
  have BR2 := Lib.hid (BR1.out.on hb)
  clear hb HB1 VL1 BR1 
  have H1 := Lib.hid h1
  clear h1
  cases R1 with
  | false =>
    go_wp2_with fail
    refine (awake_true _).mono ?_
    rintro e w3 ⟨rfl, hb⟩
    have HB3 := Lib.hid (HB2.out.trans (hb.mono HB2.out.size))
    clear hb HB2 
    go_wp2
    go_ret
    exact ⟨rfl, HB3.out⟩
  | true =>
    have HL := Lib.hid (H1.out (by simp)).1
    have HL2 := Lib.hid (show l.length ≤ 1000 from by have := HL.out; omega)
    clear H1
    obtain ⟨R, hR⟩ : ∃ R, trailB l = R := ⟨_, rfl⟩
    have HRR := Lib.hid hR
    have hk := right_v VL2.out HMX.out
    rw [hR] at hk
    go_wp2_with fail
    refine (hk).mono ?_
    rintro e w4 ⟨rfl, hb⟩
    have HB4 := Lib.hid (HB2.out.trans (hb.mono HB2.out.size))
    have VL4 := Lib.hid (VL2.out.on hb)
    have BR4 := Lib.hid (BR2.out.on hb)
    clear hb HB2 VL2 BR2 hk
    cases R with
    | false =>
      go_wp2_with fail
      refine (awake_true _).mono ?_
      rintro e w5 ⟨rfl, hb⟩
      have HB5 := Lib.hid (HB4.out.trans (hb.mono HB4.out.size))
      clear hb HB4 
      go_wp2
      go_ret
      exact ⟨rfl, HB5.out⟩
    | true =>
      have HT := Lib.hid (trail_t.1 hR)
      clear hR
      go_upto_region 4 with fail
      obtain ⟨k, hk⟩ : ∃ k : Nat, (k : Int) = 1 + (n8 : Int) % 20 := ⟨1 + n8 % 20, by omega⟩
      have HK := Lib.hid (show 1 ≤ k ∧ k ≤ 20 from by omega)
      rw [← hk]
      clear hk
      have hnb : n ≤ 60 := by have := HL.out; rw [HLN.out] at this; exact this
      go_wp2
      go_loopw [10, 11, 30] (fun av tv iv wr => ∃ (j : Nat) (L : List Ch) (t : Int), iv = .int .i64 j ∧ j ≤ n + 1 ∧ tv = .int .i64 t ∧ Hid (L ++ inL l t [⟨rl, rh, ro⟩] = inL l s [⟨rl, rh, ro⟩]) ∧ Hid ((inL l t [⟨rl, rh, ro⟩]).length + j ≤ n ∧ L.length ≤ 60) ∧ Hid (wr.ownsRow w4.heap.size 30 6 av L.length (L.flatMap Ch.cells)) ∧ Below w4.heap.size w4 wr) (fun _ _ iv _ => (n + 1 - intOf iv).toNat)
      case atStart => exact ⟨0, [], s, rfl, by omega, rfl, (show _ = _ from rfl), (show _ ∧ _ from ⟨by have := (in_sub l s [⟨rl, rh, ro⟩]).length_le; rw [HLN.out] at this; omega, by simp⟩), (show World.ownsRow _ _ _ _ _ _ _ from World.ownsRow_nil _ _ _ _), Below.refl _ _⟩
      case round =>
        obtain ⟨j, L, t, rfl, hj, rfl, HE, HN, HO, hbr⟩ := hrel
        have hjn : j < n + 1 := by have := HN.out.1; omega
        have HJN := Lib.hid hjn
        obtain ⟨Aa, ca, rfl⟩ := own_shape HO.out
        obtain ⟨na, hna⟩ : ∃ na, L.length = na := ⟨_, rfl⟩
        rw [hna] at HO ⊢
        have HNA := Lib.hid hna
        have hnab : na ≤ 60 := by rw [← hna]; exact HN.out.2
        have HBO := Lib.hid hbr
        clear hna
        obtain ⟨I, hI⟩ : ∃ I, inL l t [⟨rl, rh, ro⟩] = I := ⟨_, rfl⟩
        have hpp : sinceL l t k [⟨rl, rh, ro⟩] = I.take k := by unfold sinceL; rw [HRR.out, ← hI]; rfl
        have HI := Lib.hid hI
        rw [hI] at HE HN
        clear hI
        have HBr := Lib.hid (HB4.out.trans (hbr.mono HB4.out.size))
        have VLr := Lib.hid (VL4.out.on hbr)
        have BRr := Lib.hid (BR4.out.on hbr)
        clear hbr HB4 VL4 BR4 
        have HOr := Lib.hid (show World.ownsRow wr w4.heap.size 30 6 (.slice Aa na ca) na (L.flatMap Ch.cells) from HO.out)
        have HBOr := Lib.hid HBO.out
        obtain ⟨z0, z1, z2⟩ := (⟨Box.cell BRr.out 0 rfl, Box.cell BRr.out 1 rfl, Box.cell BRr.out 2 rfl⟩ : _ ∧ _ ∧ _)
        obtain ⟨wq, hwq⟩ : ∃ q, q = wr.alloc (.cells #[.string rl, .string rh, .bool ro] 35) := ⟨_, rfl⟩
        obtain ⟨gq, hgq⟩ : ∃ q, q = wr.heap.size := ⟨_, rfl⟩
        have hb : Below wr.heap.size wr wq := by rw [hwq]; exact (Below.refl _ _).alloc (Nat.le_refl _) _
        have VRq := Lib.hid (show RgV wq (.slice (some ⟨gq, 0, none⟩) 1 1) [⟨rl, rh, ro⟩] from by rw [hwq]; exact RgV.lit hgq rfl rfl)
        have HBq := Lib.hid (HBr.out.trans (hb.mono HBr.out.size))
        have VLq := Lib.hid (VLr.out.on hb)
        have BRq := Lib.hid (BRr.out.on hb)
        have HOq := Lib.hid (own_on HOr.out hb)
        have HBOq := Lib.hid (HBOr.out.trans (hb.mono HBOr.out.size))
        clear hb HBr VLr BRr HOr HBOr 
        have HSQ := Lib.hid (show w4.heap.size ≤ gq ∧ gq < wq.heap.size from ⟨by rw [hgq]; exact HBO.out.size, by rw [hgq, hwq]; simp⟩)
        have HAO := Lib.hid (show ∀ g, (Value.slice Aa na ca).ownBlock = some g → g < gq from fun g h => by rw [hgq]; exact (own_lt HO.out h).2)
        have hk := since_o t k VLq.out VRq.out HL2.out (by simp [maxLen])
        rw [hpp] at hk
        go_wp2_with fail
        rw [← hgq, ← hwq]
        clear hgq hwq z0 z1 z2
        refine hk.mono ?_
        clear hk
        rintro e w6 ⟨v12, rfl, hp, hb⟩
        have HP6 := Lib.hid hp
        clear hp
        have HB6 := Lib.hid (HBq.out.trans (hb.mono HBq.out.size))
        have VL6 := Lib.hid (VLq.out.on hb)
        have BR6 := Lib.hid (BRq.out.on hb)
        have HO6 := Lib.hid (own_on HOq.out hb)
        have HBO6 := Lib.hid (HBOq.out.trans (hb.mono HBOq.out.size))
        have VR6 := Lib.hid (VRq.out.on hb)
        clear hb HBq VLq BRq HOq HBOq VRq 
        clear VR6
        cases I with
        | nil =>
          have HP0 := HP6.out
          rw [List.take_nil] at HP0
          obtain ⟨Ap, cp, rfl⟩ := own_shape HP0
          have HEL := Lib.hid (show L = sinceL l s n [⟨rl, rh, ro⟩] from by
            have h1 := HE.out
            rw [List.append_nil] at h1
            unfold sinceL
            rw [HRR.out, if_pos rfl, ← h1, List.take_of_length_le]
            rw [h1, Int.toNat_natCast, ← HLN.out]
            exact (in_sub l s _).length_le)
          have VA := Lib.hid (CV.own HO6.out HNA.out.symm)
          clear HP0 hjn
          have VA6 := Lib.hid VA.out
          clear HP6 HO6 HBO6
          clear HBO HO VA
          go_upto_region 14 with fail
          obtain ⟨z0, z1, z2⟩ := (⟨Box.cell BR6.out 0 rfl, Box.cell BR6.out 1 rfl, Box.cell BR6.out 2 rfl⟩ : _ ∧ _ ∧ _)
          obtain ⟨wy, hwy⟩ : ∃ q, q = w6.alloc (.cells #[.string rl, .string rh, .bool ro] 35) := ⟨_, rfl⟩
          obtain ⟨gy, hgy⟩ : ∃ q, q = w6.heap.size := ⟨_, rfl⟩
          have hb : Below w6.heap.size w6 wy := by rw [hwy]; exact (Below.refl _ _).alloc (Nat.le_refl _) _
          have VRy := Lib.hid (show RgV wy (.slice (some ⟨gy, 0, none⟩) 1 1) [⟨rl, rh, ro⟩] from by rw [hwy]; exact RgV.lit hgy rfl rfl)
          have HBy := Lib.hid (HB6.out.trans (hb.mono HB6.out.size))
          have VLy := Lib.hid (VL6.out.on hb)
          have BRy := Lib.hid (BR6.out.on hb)
          have VAy := Lib.hid (VA6.out.on hb)
          clear hb HB6 VL6 BR6 VA6 
          have hk := since_v s n VLy.out VRy.out HL2.out (by simp [maxLen])
          rw [← HEL.out] at hk
          go_wp2_with fail
          rw [← hgy, ← hwy]
          clear hgy hwy z0 z1 z2
          refine hk.mono ?_
          clear hk
          rintro e w7 ⟨v71, rfl, hp, hb⟩
          have VB7 := Lib.hid hp
          clear hp
          have HB7 := Lib.hid (HBy.out.trans (hb.mono HBy.out.size))
          have VL7 := Lib.hid (VLy.out.on hb)
          have BR7 := Lib.hid (BRy.out.on hb)
          have VA7 := Lib.hid (VAy.out.on hb)
          have VR7 := Lib.hid (VRy.out.on hb)
          clear hb HBy VLy BRy VAy VRy 
          clear VR7
          have hk := dsame_v VA7.out VB7.out (by have := HN.out.2; unfold maxLen; omega)
          rw [decide_eq_true rfl] at hk
          go_wp2_with fail
          refine (hk).mono ?_
          rintro e w8 ⟨rfl, hb⟩
          have HB8 := Lib.hid (HB7.out.trans (hb.mono HB7.out.size))
          have VL8 := Lib.hid (VL7.out.on hb)
          have BR8 := Lib.hid (BR7.out.on hb)
          have VA8 := Lib.hid (VA7.out.on hb)
          have VB8 := Lib.hid (VB7.out.on hb)
          clear hb HB7 VL7 BR7 VA7 VB7 hk
          obtain ⟨z0, z1, z2⟩ := (⟨Box.cell BR8.out 0 rfl, Box.cell BR8.out 1 rfl, Box.cell BR8.out 2 rfl⟩ : _ ∧ _ ∧ _)
          obtain ⟨wz, hwz⟩ : ∃ q, q = w8.alloc (.cells #[.string rl, .string rh, .bool ro] 35) := ⟨_, rfl⟩
          obtain ⟨gz, hgz⟩ : ∃ q, q = w8.heap.size := ⟨_, rfl⟩
          have hb : Below w8.heap.size w8 wz := by rw [hwz]; exact (Below.refl _ _).alloc (Nat.le_refl _) _
          have VRz := Lib.hid (show RgV wz (.slice (some ⟨gz, 0, none⟩) 1 1) [⟨rl, rh, ro⟩] from by rw [hwz]; exact RgV.lit hgz rfl rfl)
          have HBz := Lib.hid (HB8.out.trans (hb.mono HB8.out.size))
          have VLz := Lib.hid (VL8.out.on hb)
          have BRz := Lib.hid (BR8.out.on hb)
          have VAz := Lib.hid (VA8.out.on hb)
          have VBz := Lib.hid (VB8.out.on hb)
          clear hb HB8 VL8 BR8 VA8 VB8 
          have hk := since_v t k VLz.out VRz.out HL2.out (by simp [maxLen])
          rw [hpp, List.take_nil] at hk
          go_wp2_with fail
          rw [← hgz, ← hwz]
          clear hgz hwz z0 z1 z2
          refine hk.mono ?_
          clear hk
          rintro e w9 ⟨v79, rfl, hp, hb⟩
          have VD9 := Lib.hid hp
          clear hp
          have HB9 := Lib.hid (HBz.out.trans (hb.mono HBz.out.size))
          have VL9 := Lib.hid (VLz.out.on hb)
          have BR9 := Lib.hid (BRz.out.on hb)
          have VA9 := Lib.hid (VAz.out.on hb)
          have VB9 := Lib.hid (VBz.out.on hb)
          have VR9 := Lib.hid (VRz.out.on hb)
          clear hb HBz VLz BRz VAz VBz VRz 
          clear VR9
          obtain ⟨A79, c79, rfl⟩ : ∃ A c, v79 = .slice A 0 c := by obtain ⟨A, c, e, _⟩ := VD9.out; exact ⟨A, c, e⟩
          go_wp2_with fail
          refine (awake_true _).mono ?_
          rintro e w10 ⟨rfl, hb⟩
          have HB10 := Lib.hid (HB9.out.trans (hb.mono HB9.out.size))
          clear hb HB9 
          go_wp2
          go_ret
          exact ⟨rfl, HB10.out⟩
        | cons i0 I =>
          obtain ⟨P, hP⟩ : ∃ P, (i0 :: I).take k = P := ⟨_, rfl⟩
          have HPP := Lib.hid hP
          have HPr := Lib.hid (show World.ownsRow w6 wq.heap.size 30 6 v12 P.length (P.flatMap Ch.cells) from by rw [← hP]; exact HP6.out)
          obtain ⟨z, hz⟩ : ∃ z, P.length = z + 1 := ⟨P.length - 1, by rw [← hP, List.length_take, List.length_cons]; have := HK.out; omega⟩
          have HZL := Lib.hid hz
          have HZK := Lib.hid (show z + 1 ≤ k ∧ z + 1 ≤ (i0 :: I).length from by rw [← hz, ← hP, List.length_take]; omega)
          rw [hz] at HPr
          obtain ⟨Ap, cp, rfl⟩ := own_shape HPr.out
          have hcv := CV.own HPr.out hz.symm
          obtain ⟨A', c', e', hcs, _⟩ := hcv
          injection e' with e1 e2 e3
          subst e1 e3
          obtain ⟨ap, rfl, hapb, hcp⟩ := hcs.seeC (by omega)
          have q0 := (hcp 0 (by omega)).1
          have qz := (hcp z (by omega)).1
          obtain ⟨s0, hs0⟩ : ∃ s0, s0 = (P[0]'(by omega)).seq := ⟨_, rfl⟩
          obtain ⟨ls, hls⟩ : ∃ ls, ls = (P[z]'(by omega)).seq := ⟨_, rfl⟩
          rw [← hs0] at q0
          rw [← hls] at qz
          simp only [Nat.zero_mul, Addr.add_zero'] at q0
          have hgt : t < s0 := by
            have h0 : 0 < (inL l t [⟨rl, rh, ro⟩]).length := by rw [HI.out]; simp
            have h1 := in_above HT.out t [⟨rl, rh, ro⟩] h0
            have h2 : (inL l t [⟨rl, rh, ro⟩])[0]'h0 = P[0]'(by omega) := by
              simp only [← hP, List.getElem_take, HI.out]
            rw [h2, ← hs0] at h1
            exact h1
          have HNX := Lib.hid (show inL l ls [⟨rl, rh, ro⟩] = (i0 :: I).drop (z + 1) from by
            have h0 : z < (inL l t [⟨rl, rh, ro⟩]).length := by rw [HI.out]; have := HZK.out.2; omega
            have h1 := in_next HT.out t [⟨rl, rh, ro⟩] h0
            have h2 : (inL l t [⟨rl, rh, ro⟩])[z]'h0 = P[z]'(by omega) := by
              simp only [← hP, List.getElem_take, HI.out]
            rw [h2, ← hls, HI.out] at h1
            exact h1)
          have HPT := Lib.hid (show P = (i0 :: I).take (z + 1) from by
            have : (i0 :: I).take k = (i0 :: I).take (z + 1) := by
              rw [List.take_eq_take_iff]
              have h1 := HZL.out
              rw [← hP, List.length_take] at h1
              omega
            rw [← hP]; exact this)
          have hz0 : ¬ ((z : Int) + 1 = 0) := by omega
          have hzk : decide ((k : Int) < (z : Int) + 1) = false := by have := HZK.out.1; simp; omega
          have hzk2 : decide (k < z + 1) = false := by have := HZK.out.1; simp; omega
          have hsd : decide (s0 ≤ t) = false := by simp; omega
          have HAP := Lib.hid (show Apart2 (.slice Aa na ca) (.slice (some ap) (z + 1) cp) from by
            unfold Apart2
            cases h1 : (Value.slice Aa na ca).ownBlock with
            | none => right; simp [Value.ownBlock]
            | some g =>
              right
              have h2 := HAO.out g h1
              have h3 := (own_lt HPr.out (g := ap.block) (by simp [Value.ownBlock])).1
              intro e
              have e4 : ap.block = g := by simpa [Value.ownBlock] using e
              have := HSQ.out.2
              omega)
          have HLS := Lib.hid (show ∀ wx, w6.grownBy wx (Value.slice Aa na ca).ownBlock → wx.cell? (ap.add (z * 6)) = some (.int .i64 ls) from fun wx hg => by
            have h1 := own_grown HPr.out hg HAP.out
            obtain ⟨A', c', e', hcs, _⟩ := CV.own h1 HZL.out.symm
            injection e' with e1 e2 e3
            subst e1
            obtain ⟨ap', ea, _, hcp⟩ := hcs.seeC (by omega)
            injection ea with ea
            subst ea
            have := (hcp z (by omega)).1
            rw [← hls] at this
            exact this)
          have HWK := Lib.hid (show IntKind.i64.wrap (z : Int) = (z : Int) from by rw [IntKind.wrap_i64]; have := HZK.out.1; have := HK.out.2; omega)
          have HZZ := Lib.hid (show ¬ ((z : Int) + 1 ≤ (z : Int)) from by omega)
          clear hP hz hcs hcp hs0 hls hgt hapb e2
          go_upto_region 12 with fail
          clear q0 qz
          obtain ⟨bs, hbs⟩ : ∃ bs, bs = w4.heap.size := ⟨_, rfl⟩
          have Hbs := Lib.hid hbs
          have HAL := Lib.hid (show World.ownsRow w6 bs 30 6 (.slice Aa na ca) na (L.flatMap Ch.cells) from by rw [hbs]; exact HO6.out)
          clear hbs
          refine wp_region_phase 20 [53, 54, 55, 56, 57, 58, 59, 60, 61, 62, 10, 11] (by kernel_rfl) [2] [] (fun _ _ => True) 1 rfl (by kernel_rfl) (SP (fun wx => Below w6.heap.size w6 wx) (fun wx => World.grownBy w6 wx (Value.slice Aa na ca).ownBlock) (fun _ => True)) (fun wa wb => Below wa.heap.size wa wb) (PaV Aa na ca z cp bs ap ls L P) (by kernel_rfl) (SP.on below_grow (fun _ _ h1 h2 => grown_trans h2 (below_row h1 _)) (fun _ _ _ _ => trivial)) (fun _ t v wa wb h1 h2 => h2.on h1) (fun _ _ _ _ _ _ _ => trivial) (Below.refl _ _).drew trivial (phase1 ?_ ?_) ?_
          · refine Steps1.cons (fun _ ax wx hS _ hG => ?_) (Steps1.cons (fun _ ax wx hS _ hG => ?_) (Steps1.cons (fun _ ax wx hS _ hG => ?_) (Steps1.cons (fun _ ax wx hS _ hG => ?_) (Steps1.cons (fun _ ax wx hS _ hG => ?_) (Steps1.cons (fun _ ax wx hS _ hG => ?_) (Steps1.cons (fun _ ax wx hS _ hG => ?_) (Steps1.cons (fun _ ax wx hS _ hG => ?_) (Steps1.cons (fun _ ax wx hS _ hG => ?_) (Steps1.cons (fun _ ax wx hS _ hG => ?_) (Steps1.cons (fun hin _ _ _ _ _ => out (by kernel_rfl) hin) (Steps1.cons (fun _ ax wx hS _ hG => ?_) Steps1.nil)))))))))))
            · have q10 := hG.old 10 (by kernel_rfl) (by kernel_rfl)
              refine step_slot rfl rfl rfl (step_value (v := (.slice Aa na ca)) (w' := wx) rfl rfl ?_ (Below.refl _ _) (fun d hd => by cases hd; exact rfl))
              go_simp
            · have q12 := hG.old 12 (by kernel_rfl) (by kernel_rfl)
              refine step_slot rfl rfl rfl (step_value (v := (.slice (some ap) (z + 1) cp)) (w' := wx) rfl rfl ?_ (Below.refl _ _) (fun d hd => by cases hd; exact rfl))
              go_simp
            · obtain ⟨_, q53, rfl⟩ := hG.new 53 (by kernel_rfl) (by kernel_rfl)
              obtain ⟨_, q54, rfl⟩ := hG.new 54 (by kernel_rfl) (by kernel_rfl)
              have hown := own_on HAL.out (show Below _ _ _ from hS)
              have hcv : CV wx (.slice (some ap) (z + 1) cp) P := CV.own (own_on HPr.out (show Below _ _ _ from hS)) HZL.out.symm
              obtain ⟨v2, w2, hr, hown2, hg, _⟩ := run_app_cv wx bs _ na _ hown hcv (by rw [HZL.out]; have := HZK.out.1; have := HK.out.2; omega) (by rw [Hbs.out]; have := HBO6.out.size; have := (show Below _ _ _ from hS).size; omega)
              have hS2 : World.grownBy w6 w2 (Value.slice Aa na ca).ownBlock := grown_trans (below_row (show Below _ _ _ from hS) _) hg
              refine step_marked (v := v2) (w' := w2) rfl rfl rfl rfl ?_ hS2 trivial ?_ ?_
              · have e1 : ax.eval (.tmp 53) = .slice Aa na ca := by simp [Act.eval, q53]
                have e2 : ax.eval (.tmp 54) = .slice (some ap) (z + 1) cp := by simp [Act.eval, q54]
                unfold execOp
                simp only [resolve, invoke, builtin, Sem.run_bind, Sem.run_pure, Result.andThen_ok, List.map_toArray, List.map_cons, List.map_nil, e1, e2, hr]
              · exact fun _ => (by have h := hown2; rw [HZL.out] at h; exact h)
              · intro t u _ ht hu hV
                unfold PaV at hV ⊢
                split at hV <;> first | exact absurd rfl ht | trivial | exact fun h => absurd h (by decide) | exact hV | exact absurd hV.1 (by decide)
            · have q12 := hG.old 12 (by kernel_rfl) (by kernel_rfl)
              refine step_slot rfl rfl rfl (step_value (v := (.slice (some ap) (z + 1) cp)) (w' := wx) rfl rfl ?_ (Below.refl _ _) (fun d hd => by cases hd; exact rfl))
              go_simp
            · have q12 := hG.old 12 (by kernel_rfl) (by kernel_rfl)
              refine step_slot rfl rfl rfl (step_value (v := (.slice (some ap) (z + 1) cp)) (w' := wx) rfl rfl ?_ (Below.refl _ _) (fun d hd => by cases hd; exact rfl))
              go_simp
            · obtain ⟨_, q57, rfl⟩ := hG.new 57 (by kernel_rfl) (by kernel_rfl)
              refine step_slot rfl rfl rfl (step_value (v := (.int .i64 ((z : Int) + 1))) (w' := wx) rfl rfl ?_ (Below.refl _ _) (fun d hd => by cases hd; exact rfl))
              go_simp
            · obtain ⟨_, q58, rfl⟩ := hG.new 58 (by kernel_rfl) (by kernel_rfl)
              refine step_slot rfl rfl rfl (step_value (v := (.int .i64 z)) (w' := wx) rfl rfl ?_ (Below.refl _ _) (fun d hd => by cases hd; exact rfl))
              have hwk := HWK.out
              go_simp
            · obtain ⟨_, q56, rfl⟩ := hG.new 56 (by kernel_rfl) (by kernel_rfl)
              obtain ⟨_, q59, rfl⟩ := hG.new 59 (by kernel_rfl) (by kernel_rfl)
              refine step_slot rfl rfl rfl (step_value (v := (.pointer (some (ap.add (z * 6))))) (w' := wx) rfl rfl ?_ (Below.refl _ _) (fun d hd => by cases hd; exact rfl))
              have hzz := HZZ.out
              go_simp
            · obtain ⟨_, q60, rfl⟩ := hG.new 60 (by kernel_rfl) (by kernel_rfl)
              refine step_slot rfl rfl rfl (step_value (v := (.pointer (some (ap.add (z * 6))))) (w' := wx) rfl rfl ?_ (Below.refl _ _) (fun d hd => by cases hd; exact rfl))
              go_simp
            · obtain ⟨_, q61, rfl⟩ := hG.new 61 (by kernel_rfl) (by kernel_rfl)
              have z0 := HLS.out wx (below_row (show Below _ _ _ from hS) _)
              refine step_slot rfl rfl rfl (step_value (v := (.int .i64 ls)) (w' := wx) rfl rfl ?_ (Below.refl _ _) (fun d hd => by cases hd; exact rfl))
              go_simp
            · obtain ⟨_, q62, rfl⟩ := hG.new 62 (by kernel_rfl) (by kernel_rfl)
              refine step_slot rfl rfl rfl (step_value (v := (.int .i64 ls)) (w' := wx) rfl rfl ?_ (Below.refl _ _) (fun d hd => by cases hd; exact rfl))
              go_simp
          · refine Steps1.cons (fun hin _ _ _ _ _ => out (by kernel_rfl) hin) (Steps1.cons (fun hin _ _ _ _ _ => out (by kernel_rfl) hin) (Steps1.cons (fun hin _ _ _ _ _ => out (by kernel_rfl) hin) (Steps1.cons (fun _ ax wx hS _ hG => ?_) (Steps1.cons (fun _ ax wx hS _ hG => ?_) (Steps1.cons (fun _ ax wx hS _ hG => ?_) (Steps1.cons (fun _ ax wx hS _ hG => ?_) (Steps1.cons (fun _ ax wx hS _ hG => ?_) (Steps1.cons (fun _ ax wx hS _ hG => ?_) (Steps1.cons (fun _ ax wx hS _ hG => ?_) (Steps1.cons (fun _ ax wx hS _ hG => ?_) (Steps1.cons (fun _ ax wx hS _ hG => ?_) Steps1.nil)))))))))))
            · have q12 := hG.old 12 (by kernel_rfl) (by kernel_rfl)
              refine step_slot rfl rfl rfl (step_value (v := (.slice (some ap) (z + 1) cp)) (w' := wx) rfl rfl ?_ (Below.refl _ _) (fun d hd => by cases hd; exact rfl))
              go_simp
            · have q12 := hG.old 12 (by kernel_rfl) (by kernel_rfl)
              refine step_slot rfl rfl rfl (step_value (v := (.slice (some ap) (z + 1) cp)) (w' := wx) rfl rfl ?_ (Below.refl _ _) (fun d hd => by cases hd; exact rfl))
              go_simp
            · obtain ⟨_, q57, rfl⟩ := hG.new 57 (by kernel_rfl) (by kernel_rfl)
              refine step_slot rfl rfl rfl (step_value (v := (.int .i64 ((z : Int) + 1))) (w' := wx) rfl rfl ?_ (Below.refl _ _) (fun d hd => by cases hd; exact rfl))
              go_simp
            · obtain ⟨_, q58, rfl⟩ := hG.new 58 (by kernel_rfl) (by kernel_rfl)
              refine step_slot rfl rfl rfl (step_value (v := (.int .i64 z)) (w' := wx) rfl rfl ?_ (Below.refl _ _) (fun d hd => by cases hd; exact rfl))
              have hwk := HWK.out
              go_simp
            · obtain ⟨_, q56, rfl⟩ := hG.new 56 (by kernel_rfl) (by kernel_rfl)
              obtain ⟨_, q59, rfl⟩ := hG.new 59 (by kernel_rfl) (by kernel_rfl)
              refine step_slot rfl rfl rfl (step_value (v := (.pointer (some (ap.add (z * 6))))) (w' := wx) rfl rfl ?_ (Below.refl _ _) (fun d hd => by cases hd; exact rfl))
              have hzz := HZZ.out
              go_simp
            · obtain ⟨_, q60, rfl⟩ := hG.new 60 (by kernel_rfl) (by kernel_rfl)
              refine step_slot rfl rfl rfl (step_value (v := (.pointer (some (ap.add (z * 6))))) (w' := wx) rfl rfl ?_ (Below.refl _ _) (fun d hd => by cases hd; exact rfl))
              go_simp
            · obtain ⟨_, q61, rfl⟩ := hG.new 61 (by kernel_rfl) (by kernel_rfl)
              have z0 := HLS.out wx (show World.grownBy _ _ _ from hS)
              refine step_slot rfl rfl rfl (step_value (v := (.int .i64 ls)) (w' := wx) rfl rfl ?_ (Below.refl _ _) (fun d hd => by cases hd; exact rfl))
              go_simp
            · obtain ⟨v55, q55, h55⟩ := hG.new 55 (by kernel_rfl) (by kernel_rfl)
              have p55 : 1 = 1 → World.ownsRow wx bs 30 6 v55 (na + (z + 1)) (L.flatMap Ch.cells ++ P.flatMap Ch.cells) := h55
              refine step_slot rfl rfl rfl (step_value (v := v55) (w' := wx) rfl rfl ?_ (Below.refl _ _) (fun d hd => by cases hd; exact ⟨by decide, p55 rfl⟩))
              clear h55 p55
              go_simp
            · obtain ⟨_, q62, rfl⟩ := hG.new 62 (by kernel_rfl) (by kernel_rfl)
              refine step_slot rfl rfl rfl (step_value (v := (.int .i64 ls)) (w' := wx) rfl rfl ?_ (Below.refl _ _) (fun d hd => by cases hd; exact rfl))
              go_simp
          intro fv w8 hS8 _ hV8
          have e10 : 1 ≤ 1 ∧ World.ownsRow w8 bs 30 6 (fv 10) (na + (z + 1)) (L.flatMap Ch.cells ++ P.flatMap Ch.cells) := hV8 10 (by decide)
          have e11 : fv 11 = (.int .i64 ls) := hV8 11 (by decide)
          simp only [puts, Act.put, List.setIfInBounds_toArray, List.set_cons_succ, List.set_cons_zero]
          clear hV8
          rw [e11]
          have hg8 : World.grownBy w6 w8 (Value.slice Aa na ca).ownBlock := hS8
          have ho8 := e10.2
          generalize fv 10 = v10 at *
          have HO8 := Lib.hid (show World.ownsRow w8 w4.heap.size 30 6 v10 (L ++ P).length ((L ++ P).flatMap Ch.cells) from by
            rw [List.length_append, HNA.out, HZL.out, List.flatMap_append, ← Hbs.out]; exact ho8)
          have HB8 := Lib.hid (show Below w4.heap.size w4 w8 from HBO6.out.grown hg8 HBO6.out.size (fun g h => (own_lt HO6.out h).1))
          have HE8 := Lib.hid (show (L ++ P) ++ inL l ls [⟨rl, rh, ro⟩] = inL l s [⟨rl, rh, ro⟩] from by
            rw [← HE.out, HNX.out, HPT.out, List.append_assoc, List.take_append_drop])
          have HN8 := Lib.hid (show (inL l ls [⟨rl, rh, ro⟩]).length + (j + 1) ≤ n ∧ (L ++ P).length ≤ 60 from by
            have h1 := HN.out.1
            have h2 := congrArg List.length HE8.out
            have h3 := (in_sub l s [⟨rl, rh, ro⟩]).length_le
            have h4 := HL.out
            rw [List.length_append] at h2
            refine ⟨?_, by omega⟩
            rw [HNX.out, List.length_drop]
            have := HZK.out.2
            omega)
          clear hS8 e10 e11 hg8 ho8
          go_wp2
          go_roundw
          case rel => exact ⟨j + 1, L ++ P, ls, by go_num, by have := HJN.out; omega, by first | rfl | assumption, HE8, HN8, HO8, HB8.out⟩
          case measure => simp [intOf]; omega

end Go.Proofs.Ytidigbjlglomhaa
