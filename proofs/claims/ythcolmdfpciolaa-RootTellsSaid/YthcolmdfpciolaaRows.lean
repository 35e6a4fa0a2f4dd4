/-
  No cell of these rows narrows 'for every input' (looked for: loops, veiled, ifaces, maps, wideKeys, modest, calm, conditions, laid).
  DERIVED. THE GIVEN ROWS OF THIS SEAT. 5 by the template 'for every input the law returns true; each argument reads behind the call as it read before'; 0 by the template 'total and deterministic' (their statements: YthcolmdfpciolaaTotals.lean).
  GIVEN WITH THE SEED: the statements are not yours to turn. If you find one false, say at which input.
  Laid BY PROGRAM, IN A SANDBOX (cutbox-rows.mjs): the forced cells as the released guide's own fill.sh prints them over the translation 1b16ce04859b1c37… (all of the seat's roots in one cut). By AI agents, Wed Nov 11 2026. No macro, syntax, notation, axiom, sorry.
-/
import Derived.Test.YthcolmdfpciolaaChecked
import GoSem.Claim
import GoSem.ClaimJoined
import GoSem.ClaimMapViews
import Derived.JoinedTies
import Derived.KernelRfl
namespace Go.Proofs.Ythcolmdfpciolaa
/- THE CELL 'sum', in the pinned program and in every row, IS THE sha256 OF THE DUMP (.gsa) THAT YthcolmdfpciolaaProg.lean LOADS. Nothing in Lean hashes anything: it is a label: what it is worth is what the hold of that sum in a sandbox is worth. -/
noncomputable def Try.pinned : Pinned := { name := "ythcolmdfpciolaa", sum := "1b16ce04859b1c376f50b92bc1da8345dd95fe936ddd2c1d5fffcbd60158af10", checked := Try.checked }
namespace Rows
def none {H : Type} : Left H := { results := [], args := [] }

/-- 'weirkeeperlaw07.RootTells': WHATEVER THE INPUT: true; the input reads as it did. -/
def rootTellsSpec : ChangeSpec := { name := "rootTells", fn := fun _ => fun
  | [d1, d2, d3] => { results := [.lit (.bool true)], args := [d1, d2, d3] }
  | _ => none }
def rootTellsRow : OpenClaim := { program := "ythcolmdfpciolaa", sum := "1b16ce04859b1c376f50b92bc1da8345dd95fe936ddd2c1d5fffcbd60158af10", func := "weirkeeper/weirkeeperlaw07.RootTells", spec := "rootTells", inPlace := ["internal/abi.NoEscape", "internal/bytealg.MakeNoZero"], apart := false }
def RootTellsSaid : Prop := rootTellsRow.holds Try.pinned (OpenSpec.ofChange rootTellsSpec)

/-- ITS FALSE NEIGHBOUR: 'it returns false'. Refute it at one input. -/
def rootTellsWrong : ChangeSpec := { name := "rootTells", fn := fun _ => fun
  | [d1, d2, d3] => { results := [.lit (.bool false)], args := [d1, d2, d3] }
  | _ => none }
def RootTellsWrongFalsely : Prop := rootTellsRow.holds Try.pinned (OpenSpec.ofChange rootTellsWrong)

/-- 'weirkeeperlaw07.RootSafe': WHATEVER THE INPUT: true; the input reads as it did. -/
def rootSafeSpec : ChangeSpec := { name := "rootSafe", fn := fun _ => fun
  | [d1, d2, d3, d4, d5] => { results := [.lit (.bool true)], args := [d1, d2, d3, d4, d5] }
  | _ => none }
def rootSafeRow : OpenClaim := { program := "ythcolmdfpciolaa", sum := "1b16ce04859b1c376f50b92bc1da8345dd95fe936ddd2c1d5fffcbd60158af10", func := "weirkeeper/weirkeeperlaw07.RootSafe", spec := "rootSafe", inPlace := ["internal/abi.NoEscape", "internal/bytealg.MakeNoZero"], apart := false }
def RootSafeSaid : Prop := rootSafeRow.holds Try.pinned (OpenSpec.ofChange rootSafeSpec)

/-- ITS FALSE NEIGHBOUR: 'it returns false'. Refute it at one input. -/
def rootSafeWrong : ChangeSpec := { name := "rootSafe", fn := fun _ => fun
  | [d1, d2, d3, d4, d5] => { results := [.lit (.bool false)], args := [d1, d2, d3, d4, d5] }
  | _ => none }
def RootSafeWrongFalsely : Prop := rootSafeRow.holds Try.pinned (OpenSpec.ofChange rootSafeWrong)

/-- 'weirkeeperlaw07.RootBack': WHATEVER THE INPUT: true; the input reads as it did. -/
def rootBackSpec : ChangeSpec := { name := "rootBack", fn := fun _ => fun
  | [d1, d2] => { results := [.lit (.bool true)], args := [d1, d2] }
  | _ => none }
def rootBackRow : OpenClaim := { program := "ythcolmdfpciolaa", sum := "1b16ce04859b1c376f50b92bc1da8345dd95fe936ddd2c1d5fffcbd60158af10", func := "weirkeeper/weirkeeperlaw07.RootBack", spec := "rootBack", inPlace := ["internal/abi.NoEscape", "internal/bytealg.MakeNoZero"], apart := false }
def RootBackSaid : Prop := rootBackRow.holds Try.pinned (OpenSpec.ofChange rootBackSpec)

/-- ITS FALSE NEIGHBOUR: 'it returns false'. Refute it at one input. -/
def rootBackWrong : ChangeSpec := { name := "rootBack", fn := fun _ => fun
  | [d1, d2] => { results := [.lit (.bool false)], args := [d1, d2] }
  | _ => none }
def RootBackWrongFalsely : Prop := rootBackRow.holds Try.pinned (OpenSpec.ofChange rootBackWrong)

/-- 'weirkeeperlaw07.RootGoes': WHATEVER THE INPUT: true; the input reads as it did. -/
def rootGoesSpec : ChangeSpec := { name := "rootGoes", fn := fun _ => fun
  | [d1, d2, d3] => { results := [.lit (.bool true)], args := [d1, d2, d3] }
  | _ => none }
def rootGoesRow : OpenClaim := { program := "ythcolmdfpciolaa", sum := "1b16ce04859b1c376f50b92bc1da8345dd95fe936ddd2c1d5fffcbd60158af10", func := "weirkeeper/weirkeeperlaw07.RootGoes", spec := "rootGoes", inPlace := ["internal/abi.NoEscape", "internal/bytealg.MakeNoZero"], apart := false }
def RootGoesSaid : Prop := rootGoesRow.holds Try.pinned (OpenSpec.ofChange rootGoesSpec)

/-- ITS FALSE NEIGHBOUR: 'it returns false'. Refute it at one input. -/
def rootGoesWrong : ChangeSpec := { name := "rootGoes", fn := fun _ => fun
  | [d1, d2, d3] => { results := [.lit (.bool false)], args := [d1, d2, d3] }
  | _ => none }
def RootGoesWrongFalsely : Prop := rootGoesRow.holds Try.pinned (OpenSpec.ofChange rootGoesWrong)

/-- 'weirkeeperlaw07.RootNone': WHATEVER THE INPUT: true; the input reads as it did. -/
def rootNoneSpec : ChangeSpec := { name := "rootNone", fn := fun _ => fun
  | [d1, d2] => { results := [.lit (.bool true)], args := [d1, d2] }
  | _ => none }
def rootNoneRow : OpenClaim := { program := "ythcolmdfpciolaa", sum := "1b16ce04859b1c376f50b92bc1da8345dd95fe936ddd2c1d5fffcbd60158af10", func := "weirkeeper/weirkeeperlaw07.RootNone", spec := "rootNone", inPlace := ["internal/abi.NoEscape", "internal/bytealg.MakeNoZero"], apart := false }
def RootNoneSaid : Prop := rootNoneRow.holds Try.pinned (OpenSpec.ofChange rootNoneSpec)

/-- ITS FALSE NEIGHBOUR: 'it returns false'. Refute it at one input. -/
def rootNoneWrong : ChangeSpec := { name := "rootNone", fn := fun _ => fun
  | [d1, d2] => { results := [.lit (.bool false)], args := [d1, d2] }
  | _ => none }
def RootNoneWrongFalsely : Prop := rootNoneRow.holds Try.pinned (OpenSpec.ofChange rootNoneWrong)

/- THE SECOND FORM. 'bulk': how many values and letters a reading holds, each counted each time it is reached (what is shared counts as often as it is met; a slice's spare places count too). A statement '..UptoSaid' is the law's where the arguments, and the package variables that the reading takes, are together of bulk at most 1048576: NARROWER than '..Said'. Prove '..Said' where nothing that the law and all that it calls make is longer than what came in: it says more and counts as full. Else prove '..UptoSaid'. A law counts once. -/
mutual
def uptoBulk {H : Type} : DataW H → Nat
  | .lit (.string bytes) => bytes.length + 1
  | .lit _ => 1
  | .nil => 1
  | .ptr d => uptoBulk d + 1
  | .slice elems spare => uptoBulkAll elems + uptoBulkAll spare + 1
  | .agg parts => uptoBulkAll parts + 1
  | .iface _ d => uptoBulk d + 1
  | .map entries => uptoBulkEntries entries + 1
  | .held _ => 1
def uptoBulkAll {H : Type} : List (DataW H) → Nat
  | [] => 0
  | d :: r => uptoBulk d + uptoBulkAll r
def uptoBulkEntries {H : Type} : List (Lit × DataW H) → Nat
  | [] => 0
  | x :: r => uptoBulkEntry x + uptoBulkEntries r
def uptoBulkEntry {H : Type} : Lit × DataW H → Nat
  | (.string bytes, d) => bytes.length + uptoBulk d + 1
  | (_, d) => uptoBulk d + 1
 end
def uptoSmall : (H : Type) → List (DataW H) → Bool := fun _ ds => decide (uptoBulkAll ds ≤ 1048576)
def OpenSpec.upto (s : _root_.Go.ChangeSpec) : _root_.Go.OpenSpec := { _root_.Go.OpenSpec.ofChange s with cond := some uptoSmall }

/-- 'weirkeeperlaw07.RootTells', WHERE WHAT IT READS IS OF BULK AT MOST 1048576: true; the input reads as it did. -/
def rootTellsUptoRow : OpenClaim := { program := "ythcolmdfpciolaa", sum := "1b16ce04859b1c376f50b92bc1da8345dd95fe936ddd2c1d5fffcbd60158af10", func := "weirkeeper/weirkeeperlaw07.RootTells", spec := "rootTells", inPlace := ["internal/abi.NoEscape", "internal/bytealg.MakeNoZero"], apart := false, narrowed := true }
def RootTellsUptoSaid : Prop := rootTellsUptoRow.holds Try.pinned (OpenSpec.upto rootTellsSpec)

/-- 'weirkeeperlaw07.RootSafe', WHERE WHAT IT READS IS OF BULK AT MOST 1048576: true; the input reads as it did. -/
def rootSafeUptoRow : OpenClaim := { program := "ythcolmdfpciolaa", sum := "1b16ce04859b1c376f50b92bc1da8345dd95fe936ddd2c1d5fffcbd60158af10", func := "weirkeeper/weirkeeperlaw07.RootSafe", spec := "rootSafe", inPlace := ["internal/abi.NoEscape", "internal/bytealg.MakeNoZero"], apart := false, narrowed := true }
def RootSafeUptoSaid : Prop := rootSafeUptoRow.holds Try.pinned (OpenSpec.upto rootSafeSpec)

/-- 'weirkeeperlaw07.RootBack', WHERE WHAT IT READS IS OF BULK AT MOST 1048576: true; the input reads as it did. -/
def rootBackUptoRow : OpenClaim := { program := "ythcolmdfpciolaa", sum := "1b16ce04859b1c376f50b92bc1da8345dd95fe936ddd2c1d5fffcbd60158af10", func := "weirkeeper/weirkeeperlaw07.RootBack", spec := "rootBack", inPlace := ["internal/abi.NoEscape", "internal/bytealg.MakeNoZero"], apart := false, narrowed := true }
def RootBackUptoSaid : Prop := rootBackUptoRow.holds Try.pinned (OpenSpec.upto rootBackSpec)

/-- 'weirkeeperlaw07.RootGoes', WHERE WHAT IT READS IS OF BULK AT MOST 1048576: true; the input reads as it did. -/
def rootGoesUptoRow : OpenClaim := { program := "ythcolmdfpciolaa", sum := "1b16ce04859b1c376f50b92bc1da8345dd95fe936ddd2c1d5fffcbd60158af10", func := "weirkeeper/weirkeeperlaw07.RootGoes", spec := "rootGoes", inPlace := ["internal/abi.NoEscape", "internal/bytealg.MakeNoZero"], apart := false, narrowed := true }
def RootGoesUptoSaid : Prop := rootGoesUptoRow.holds Try.pinned (OpenSpec.upto rootGoesSpec)

/-- 'weirkeeperlaw07.RootNone', WHERE WHAT IT READS IS OF BULK AT MOST 1048576: true; the input reads as it did. -/
def rootNoneUptoRow : OpenClaim := { program := "ythcolmdfpciolaa", sum := "1b16ce04859b1c376f50b92bc1da8345dd95fe936ddd2c1d5fffcbd60158af10", func := "weirkeeper/weirkeeperlaw07.RootNone", spec := "rootNone", inPlace := ["internal/abi.NoEscape", "internal/bytealg.MakeNoZero"], apart := false, narrowed := true }
def RootNoneUptoSaid : Prop := rootNoneUptoRow.holds Try.pinned (OpenSpec.upto rootNoneSpec)

end Rows
end Go.Proofs.Ythcolmdfpciolaa
