/- The library's generic functions at this program: which numbers theirs are, laid by the kit's own tools, in plain words. -/
import Derived.Shelf.SlSortCmp.KitK
import Derived.Test.YtgpjbajfkagdbaaProg
namespace Go.Proofs
open Go.Shelf
def Try.insX_ren : Go.Shelf.Ren := ⟨fun | 20 => 82 | n => n, fun | 24 => 48 | 22 => 45 | 3 => 3 | 25 => 120 | 4 => 4 | 0 => 0 | n => n, fun | n => n⟩
theorem Try.insX : Go.Proofs.SlLaysF0.n20 Try.prog Try.insX_ren := {
  mixed := by kernel_rfl
  f20 := ⟨Try.f82.name, by decide, Try.func82.trans (congrArg some (by kernel_rfl))⟩
  t0 := Try.underlying0
  a0 := Try.isAgg0
  z0 := Try.sizeOf0
  v0 := Try.zeroValue0
  t3 := Try.underlying3
  a3 := Try.isAgg3
  z3 := Try.sizeOf3
  v3 := Try.zeroValue3
  t4 := Try.underlying4
  a4 := Try.isAgg4
  z4 := Try.sizeOf4
  v4 := Try.zeroValue4
  t22 := Try.underlying45
  a22 := Try.isAgg45
  z22 := Try.sizeOf45
  v22 := Try.zeroValue45
  t25 := Try.underlying120
  a25 := Try.isAgg120
  z25 := Try.sizeOf120
  v25 := Try.zeroValue120 }
end Go.Proofs
