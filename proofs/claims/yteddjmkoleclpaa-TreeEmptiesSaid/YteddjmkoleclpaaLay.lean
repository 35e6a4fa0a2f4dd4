/- The library's generic functions at this program: which numbers theirs are, laid by the kit's own tools, in plain words. -/
import Derived.Shelf.SlSortCmp.KitK
import Derived.Test.YteddjmkoleclpaaProg
namespace Go.Proofs
open Go.Shelf
def Try.insX_ren : Go.Shelf.Ren := ⟨fun | 20 => 86 | n => n, fun | 24 => 52 | 22 => 27 | 3 => 3 | 25 => 78 | 4 => 4 | 0 => 0 | n => n, fun | n => n⟩
theorem Try.insX : Go.Proofs.SlLaysF0.n20 Try.prog Try.insX_ren := {
  mixed := by kernel_rfl
  f20 := ⟨Try.f86.name, by decide, Try.func86.trans (congrArg some (by kernel_rfl))⟩
  t0 := Try.underlying0
  a0 := Try.isAgg0
  z0 := Try.sizeOf0
  v0 := Try.zeroValue0
  t3 := Try.underlying3
  a3 := Try.isAgg3
  z3 := Try.sizeOf3
  v3 := Try.zeroValue3
  t4 := Try.underlying4
  a4 := Try.isAgg4
  z4 := Try.sizeOf4
  v4 := Try.zeroValue4
  t22 := Try.underlying27
  a22 := Try.isAgg27
  z22 := Try.sizeOf27
  v22 := Try.zeroValue27
  t25 := Try.underlying78
  a25 := Try.isAgg78
  z25 := Try.sizeOf78
  v25 := Try.zeroValue78 }
end Go.Proofs
