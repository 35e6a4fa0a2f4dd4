/- Two facts on strings and numbers. -/
import Derived.Test.YtfbcmcckgjfdhaaNts
import Derived.BigQuiet
import Derived.Deep.QuietTactic
set_option linter.unusedVariables false
set_option linter.unusedSimpArgs false
namespace Go.Proofs.Ytfbcmcckgjfdhaa
open Go.RowKit

theorem str_some {x : ByteArray} (h : x ≠ noB) : x.toList.isEmpty = false := by
  cases hx : x.toList with
  | nil =>
    rw [ByteArray.toList_eq] at hx
    exact absurd (ByteArray.ext (Array.toList_inj.1 hx)) h
  | cons _ _ => rfl

theorem u64_add (x y : UInt64) : IntKind.u64.wrap ((x.toNat : Int) + (y.toNat : Int)) = ((x + y).toNat : Int) := by
  rw [UInt64.toNat_add]
  simp [IntKind.wrap, IntKind.bits, IntKind.signed]

end Go.Proofs.Ytfbcmcckgjfdhaa
