/- Arguments that are roots, slices of bools and of 16-bit numbers: opened; Crash as a contract of values. -/
import Derived.Test.YthcolmdfpciolaaOpenD
import Derived.Deep.Strs
import Derived.ProofKit
import Derived.Test.YthcolmdfpciolaaRt
import Derived.Test.YthcolmdfpciolaaWCrash
namespace Go.Proofs.Ythcolmdfpciolaa
open Go.ChangeShapes Go.WideShapes Go.ChangeAt Go.RowKit

set_option maxRecDepth 100000 in
theorem crash_dv {v k : Value} {S : List ByteArray} {W : List Wr} {ks : List Bool} {w : World} (h : DV w v S W) (hk : BV w k ks) (hm : W.length ≤ 1000000) (hl : ks.length ≤ 1000000) (hR : rightB S W = true) :
    Calls Try.prog 22 #[v, k] w fun e w' => ∃ v', e = .returned v' ∧ DV w' v' (doneL S (keptL ks W)) [] ∧ Below w.heap.size w w' := by
  obtain ⟨A, c, B, d, rfl, hA, hB⟩ := h
  obtain ⟨K, kc, rfl, hK⟩ := hk
  exact crash_right A c S B d W K kc ks w hA hB hK hm hl hR

/-- A value that is a slice of these 16-bit numbers. -/
def u16C (n : Nat) : List Value := [.int .u16 n]
def UV (w : World) (v : Value) (l : List Nat) : Prop := ∃ A c, v = .slice A l.length c ∧ Lies u16C 1 w w.heap.size A l
theorem UV.on {w w' : World} {v : Value} {l : List Nat} (h : UV w v l) (hb : Below w.heap.size w w') : UV w' v l := by
  obtain ⟨A, c, e, hp⟩ := h
  exact ⟨A, c, e, hp.on hb⟩
theorem Lies.seeU {w : World} {B : Nat} {A : Option Addr} {l : List Nat} (h : Lies u16C 1 w B A l) (hl : 0 < l.length) : ∃ ad, A = some ad ∧ ad.block < B ∧ ∀ (i : Nat) (h : i < l.length), w.cell? (ad.add i) = some (.int .u16 l[i]) := by
  obtain ⟨ad, e, hB, hc⟩ := h hl
  refine ⟨ad, e, hB, fun i hi => ?_⟩
  have := hc i hi 0 _ rfl
  rwa [Addr.add_zero', Nat.mul_one] at this

section
variable {H : Type} {enc : TypeId × Value → H} {W : World}

set_option maxRecDepth 100000 in
theorem bool_trod {n : Nat} {xs : List Value} {y : DataW H × List MemPlace} (hl : xs.length = 1) (h : DataW.trod enc Try.prog W 0 (fun _ => true) true n 4 xs = some y) : ∃ b : Bool, xs = boolC b := by
  obtain ⟨b, e, _⟩ := DataW.trod_bool Try.underlying4 h
  exact ⟨b, e⟩
set_option maxRecDepth 100000 in
theorem bv_open {r : Reach} {b0 : Nat} {v : Value} {d : DataW H} {p : List MemPlace} (hv : Value.okWide Try.prog W r b0 53 v) (h : DataW.Trod enc Try.prog W 0 (fun _ => true) true 53 v d p) :
    ∃ l : List Bool, BV W v l ∧ l.length ≤ maxLen := by
  obtain ⟨a0, len, cap, rfl⟩ := okWide_slice Try.underlying53 hv
  obtain ⟨fuel, hf⟩ := h
  obtain ⟨A, c, l, e, hS, hn, _⟩ := lies_trod (cs := boolC) Try.underlying53 (by kernel_rfl) (by decide : 0 < 1) (fun _ _ _ hl ht => bool_trod hl ht) hf
  exact ⟨l, ⟨A, c, e, hS⟩, hn⟩

set_option maxRecDepth 100000 in
theorem u16_trod {n : Nat} {xs : List Value} {y : DataW H × List MemPlace} (hl : xs.length = 1) (h : DataW.trod enc Try.prog W 0 (fun _ => true) true n 52 xs = some y) : ∃ b : Nat, xs = u16C b ∧ b < 65536 := by
  obtain ⟨b, e, _, hw⟩ := DataW.trod_int Try.underlying52 h
  have hb := bounds_u16 hw
  obtain ⟨k, rfl⟩ := Int.eq_ofNat_of_zero_le hb.1
  exact ⟨k, e, by omega⟩
set_option maxRecDepth 100000 in
theorem uv_open {r : Reach} {b0 : Nat} {v : Value} {d : DataW H} {p : List MemPlace} (hv : Value.okWide Try.prog W r b0 59 v) (h : DataW.Trod enc Try.prog W 0 (fun _ => true) true 59 v d p) :
    ∃ l : List Nat, UV W v l ∧ l.length ≤ maxLen ∧ ∀ x ∈ l, x < 65536 := by
  obtain ⟨a0, len, cap, rfl⟩ := okWide_slice Try.underlying59 hv
  obtain ⟨fuel, hf⟩ := h
  obtain ⟨A, c, l, e, hS, hn, _⟩ := lies_trod (cs := fun x : Fin 65536 => u16C x.val) Try.underlying59 (by kernel_rfl) (by decide : 0 < 1) (fun _ _ _ hl ht => by
    obtain ⟨b, e, hb⟩ := u16_trod hl ht
    exact ⟨⟨b, hb⟩, e⟩) hf
  refine ⟨l.map (·.val), ⟨A, c, by rw [List.length_map]; exact e, ?_⟩, by rw [List.length_map]; exact hn, fun x hx => ?_⟩
  · intro hl
    rw [List.length_map] at hl
    obtain ⟨ad, ha, hb, hc⟩ := hS hl
    refine ⟨ad, ha, hb, fun i hi j u hu => ?_⟩
    rw [List.length_map] at hi
    rw [List.getElem_map] at hu
    exact hc i hi j u hu
  · obtain ⟨y, _, rfl⟩ := List.mem_map.1 hx
    exact y.isLt
set_option maxRecDepth 100000 in
theorem rt_open {r : Reach} {b0 : Nat} {v : Value} {d : DataW H} {p : List MemPlace} (hv : Value.okWide Try.prog W r b0 27 v) (h : DataW.Trod enc Try.prog W 0 (fun _ => true) true 27 v d p) :
    ∃ q : Rt, v = q.v := by
  obtain ⟨cs, rfl, hsz⟩ := okWide_struct Try.underlying27 hv
  have k3 : Try.prog.cellsOf 27 = 3 := by kernel_rfl
  have k1 : Try.prog.cellsOf 3 = 1 := by kernel_rfl
  obtain ⟨fuel, hf⟩ := h
  obtain ⟨y0, y1, y2, m, _, _, h0, h1, h2⟩ := Deep.trod_struct3 Try.underlying27 hf
  obtain ⟨l⟩ := cs
  have hlen : l.length = 3 := by simpa [Value.cells] using hsz.trans k3
  match l, hlen with
  | [a, b, c], _ =>
    simp only [k1, Value.cells] at h0 h1 h2
    obtain ⟨n0, e0, _⟩ := DataW.trod_int Try.underlying3 h0
    obtain ⟨n1, e1, _⟩ := DataW.trod_int Try.underlying3 h1
    obtain ⟨n2, e2, _⟩ := DataW.trod_int Try.underlying3 h2
    simp at e0 e1 e2
    subst e0 e1 e2
    exact ⟨⟨n0, n1, n2⟩, rfl⟩
end

end Go.Proofs.Ythcolmdfpciolaa
