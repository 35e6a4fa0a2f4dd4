/- The walks of Right, Behind, meetTwo. -/
import Derived.Test.YtmbcmacegncnmaaWIn
namespace Go.Proofs.Ytmbcmacegncnmaa
open Go.RowKit

/-- A range in a block of its own. -/
abbrev rcells (lo hi : ByteArray) (op : Bool) : Obj := .cells #[.string lo, .string hi, .bool op] 25

set_option maxHeartbeats 400000 in
theorem behind_any (lo hi key : ByteArray) (op : Bool) (w : World) (hk : key.size ≤ 300) :
    Calls Try.prog 15 #[.agg #[.string lo, .string hi, .bool op], .string key] w fun e w' => e = .returned (.agg #[.string (Lib.maxS lo (nextS key)), .string hi, .bool op]) ∧ Below w.heap.size w w' := by
  have hmx : ∀ (w : World) (ts : Array TypeId) (t : TypeId) (x y : ByteArray), (Builtin.max_ ts t #[.string x, .string y]).run Try.prog w = .ok (.string (Lib.maxS x y)) w := Lib.run_max_strs
  have hn : key ++ ⟨#[0]⟩ = nextS key := rfl
  go_enter Try.func15, Try.ntmps15
  go_wp2
  exact bodyPost_ret (v := .agg #[.string (Lib.maxS lo (nextS key)), .string hi, .bool op]) (by simp [results, Try.results15, go_sem]) rfl ⟨rfl, by (repeat (first | exact Below.refl _ _ | refine Below.setCell ?_ (by simp) _ | refine Below.alloc ?_ (by simp <;> omega) _))⟩

set_option maxHeartbeats 400000 in
theorem meet2_any (lo hi lo2 hi2 : ByteArray) (op op2 : Bool) (w : World) :
    Calls Try.prog 20 #[.agg #[.string lo, .string hi, .bool op], .agg #[.string lo2, .string hi2, .bool op2]] w fun e w' => e = .returned (meet2 ⟨lo, hi, op⟩ ⟨lo2, hi2, op2⟩).v ∧ Below w.heap.size w w' := by
  have hmx : ∀ (w : World) (ts : Array TypeId) (t : TypeId) (x y : ByteArray), (Builtin.max_ ts t #[.string x, .string y]).run Try.prog w = .ok (.string (Lib.maxS x y)) w := Lib.run_max_strs
  have hmn : ∀ (w : World) (ts : Array TypeId) (t : TypeId) (x y : ByteArray), (Builtin.min_ ts t #[.string x, .string y]).run Try.prog w = .ok (.string (Lib.minS x y)) w := Lib.run_min_strs
  cases op with
  | true =>
    cases op2 with
    | true =>
      go_enter Try.func20, Try.ntmps20
      go_wp2
      exact bodyPost_ret (v := .agg #[.string (Lib.maxS lo lo2), .string noS, .bool true]) (by simp [results, Try.results20, go_sem, noS]) rfl ⟨rfl, by (repeat (first | exact Below.refl _ _ | refine Below.setCell ?_ (by simp) _ | refine Below.alloc ?_ (by simp <;> omega) _))⟩
    | false =>
      go_enter Try.func20, Try.ntmps20
      go_wp2
      exact bodyPost_ret (v := .agg #[.string (Lib.maxS lo lo2), .string hi2, .bool false]) (by simp [results, Try.results20, go_sem, noS]) rfl ⟨rfl, by (repeat (first | exact Below.refl _ _ | refine Below.setCell ?_ (by simp) _ | refine Below.alloc ?_ (by simp <;> omega) _))⟩
  | false =>
    cases op2 with
    | true =>
      go_enter Try.func20, Try.ntmps20
      go_wp2
      exact bodyPost_ret (v := .agg #[.string (Lib.maxS lo lo2), .string hi, .bool false]) (by simp [results, Try.results20, go_sem, noS]) rfl ⟨rfl, by (repeat (first | exact Below.refl _ _ | refine Below.setCell ?_ (by simp) _ | refine Below.alloc ?_ (by simp <;> omega) _))⟩
    | false =>
      go_enter Try.func20, Try.ntmps20
      go_wp2
      exact bodyPost_ret (v := .agg #[.string (Lib.maxS lo lo2), .string (Lib.minS hi hi2), .bool false]) (by simp [results, Try.results20, go_sem, noS]) rfl ⟨rfl, by (repeat (first | exact Below.refl _ _ | refine Below.setCell ?_ (by simp) _ | refine Below.alloc ?_ (by simp <;> omega) _))⟩

set_option maxHeartbeats 400000 in
theorem right_any (lo hi : ByteArray) (w : World) (h1 : lo.size ≤ 16) (h2 : hi = ⟨#[]⟩) :
    Calls Try.prog 19 #[.agg #[.string lo, .string hi, .bool true]] w fun e w' => e = .returned (.bool true) ∧ Below w.heap.size w w' := by
  subst h2
  go_enter Try.func19, Try.ntmps19
  go_wp2
  go_ret
  exact ⟨by simp, (Below.refl _ _).alloc (Nat.le_refl _) _⟩

end Go.Proofs.Ytmbcmacegncnmaa
