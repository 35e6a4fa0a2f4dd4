/- The library's generic functions at this program: which numbers theirs are, laid by the kit's own tools, in plain words. -/
import Derived.Shelf.SlSortCmp.KitK
import Derived.Test.YtnlmdgbkfoofoaaProg
namespace Go.Proofs
open Go.Shelf
def Try.insX_ren : Go.Shelf.Ren := ⟨fun | 20 => 80 | n => n, fun | 24 => 58 | 22 => 23 | 3 => 3 | 25 => 97 | 4 => 4 | 0 => 0 | n => n, fun | n => n⟩
theorem Try.insX : Go.Proofs.SlLaysF0.n20 Try.prog Try.insX_ren := {
  mixed := by kernel_rfl
  f20 := ⟨Try.f80.name, by decide, Try.func80.trans (congrArg some (by kernel_rfl))⟩
  t0 := Try.underlying0
  a0 := Try.isAgg0
  z0 := Try.sizeOf0
  v0 := Try.zeroValue0
  t3 := Try.underlying3
  a3 := Try.isAgg3
  z3 := Try.sizeOf3
  v3 := Try.zeroValue3
  t4 := Try.underlying4
  a4 := Try.isAgg4
  z4 := Try.sizeOf4
  v4 := Try.zeroValue4
  t22 := Try.underlying23
  a22 := Try.isAgg23
  z22 := Try.sizeOf23
  v22 := Try.zeroValue23
  t25 := Try.underlying97
  a25 := Try.isAgg97
  z25 := Try.sizeOf97
  v25 := Try.zeroValue97 }
end Go.Proofs
