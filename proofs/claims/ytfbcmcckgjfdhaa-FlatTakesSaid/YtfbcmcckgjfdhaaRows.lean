/-
  No cell of these rows narrows 'for every input' (looked for: loops, veiled, ifaces, maps, wideKeys, modest, calm, conditions, laid).
  DERIVED. THE GIVEN ROWS OF THIS SEAT. 6 by the template 'for every input the law returns true; each argument reads behind the call as it read before'; 0 by the template 'total and deterministic' (their statements: YtfbcmcckgjfdhaaTotals.lean).
  GIVEN WITH THE SEED: the statements are not yours to turn. If you find one false, say at which input.
  Laid BY PROGRAM, IN A SANDBOX (cutbox-rows.mjs): the forced cells as the released guide's own fill.sh prints them over the translation 1044e7a38b71a96f… (all of the seat's roots in one cut). By AI agents, Wed Nov 11 2026. No macro, syntax, notation, axiom, sorry.
-/
import Derived.Test.YtfbcmcckgjfdhaaChecked
import GoSem.Claim
import GoSem.ClaimJoined
import GoSem.ClaimMapViews
import Derived.JoinedTies
import Derived.KernelRfl
namespace Go.Proofs.Ytfbcmcckgjfdhaa
/- THE CELL 'sum', in the pinned program and in every row, IS THE sha256 OF THE DUMP (.gsa) THAT YtfbcmcckgjfdhaaProg.lean LOADS. Nothing in Lean hashes anything: it is a label: what it is worth is what the hold of that sum in a sandbox is worth. -/
noncomputable def Try.pinned : Pinned := { name := "ytfbcmcckgjfdhaa", sum := "1044e7a38b71a96fa10694a6ad9ddd6775f1d9a724b67c36aebe4e42e5d7e643", checked := Try.checked }
namespace Rows
def none {H : Type} : Left H := { results := [], args := [] }

/-- 'weirkeeperlaw13.FlatWrites': WHATEVER THE INPUT: true; the input reads as it did. -/
def flatWritesSpec : ChangeSpec := { name := "flatWrites", fn := fun _ => fun
  | [d1, d2, d3, d4] => { results := [.lit (.bool true)], args := [d1, d2, d3, d4] }
  | _ => none }
def flatWritesRow : OpenClaim := { program := "ytfbcmcckgjfdhaa", sum := "1044e7a38b71a96fa10694a6ad9ddd6775f1d9a724b67c36aebe4e42e5d7e643", func := "weirkeeper/weirkeeperlaw13.FlatWrites", spec := "flatWrites", inPlace := ["internal/abi.NoEscape"], unfollowed := true, recurses := true, apart := false }
def FlatWritesSaid : Prop := flatWritesRow.holds Try.pinned (OpenSpec.ofChange flatWritesSpec)

/-- ITS FALSE NEIGHBOUR: 'it returns false'. Refute it at one input. -/
def flatWritesWrong : ChangeSpec := { name := "flatWrites", fn := fun _ => fun
  | [d1, d2, d3, d4] => { results := [.lit (.bool false)], args := [d1, d2, d3, d4] }
  | _ => none }
def FlatWritesWrongFalsely : Prop := flatWritesRow.holds Try.pinned (OpenSpec.ofChange flatWritesWrong)

/-- 'weirkeeperlaw13.FlatTakes': WHATEVER THE INPUT: true; the input reads as it did. -/
def flatTakesSpec : ChangeSpec := { name := "flatTakes", fn := fun _ => fun
  | [d] => { results := [.lit (.bool true)], args := [d] }
  | _ => none }
def flatTakesRow : OpenClaim := { program := "ytfbcmcckgjfdhaa", sum := "1044e7a38b71a96fa10694a6ad9ddd6775f1d9a724b67c36aebe4e42e5d7e643", func := "weirkeeper/weirkeeperlaw13.FlatTakes", spec := "flatTakes", inPlace := ["internal/abi.NoEscape"], unfollowed := true, recurses := true, apart := false }
def FlatTakesSaid : Prop := flatTakesRow.holds Try.pinned (OpenSpec.ofChange flatTakesSpec)

/-- ITS FALSE NEIGHBOUR: 'it returns false'. Refute it at one input. -/
def flatTakesWrong : ChangeSpec := { name := "flatTakes", fn := fun _ => fun
  | [d] => { results := [.lit (.bool false)], args := [d] }
  | _ => none }
def FlatTakesWrongFalsely : Prop := flatTakesRow.holds Try.pinned (OpenSpec.ofChange flatTakesWrong)

/-- 'weirkeeperlaw13.FlatBack': WHATEVER THE INPUT: true; the input reads as it did. -/
def flatBackSpec : ChangeSpec := { name := "flatBack", fn := fun _ => fun
  | [d1, d2, d3, d4, d5] => { results := [.lit (.bool true)], args := [d1, d2, d3, d4, d5] }
  | _ => none }
def flatBackRow : OpenClaim := { program := "ytfbcmcckgjfdhaa", sum := "1044e7a38b71a96fa10694a6ad9ddd6775f1d9a724b67c36aebe4e42e5d7e643", func := "weirkeeper/weirkeeperlaw13.FlatBack", spec := "flatBack", inPlace := ["internal/abi.NoEscape"], unfollowed := true, recurses := true, apart := false }
def FlatBackSaid : Prop := flatBackRow.holds Try.pinned (OpenSpec.ofChange flatBackSpec)

/-- ITS FALSE NEIGHBOUR: 'it returns false'. Refute it at one input. -/
def flatBackWrong : ChangeSpec := { name := "flatBack", fn := fun _ => fun
  | [d1, d2, d3, d4, d5] => { results := [.lit (.bool false)], args := [d1, d2, d3, d4, d5] }
  | _ => none }
def FlatBackWrongFalsely : Prop := flatBackRow.holds Try.pinned (OpenSpec.ofChange flatBackWrong)

/-- 'weirkeeperlaw13.FlatOnce': WHATEVER THE INPUT: true; the input reads as it did. -/
def flatOnceSpec : ChangeSpec := { name := "flatOnce", fn := fun _ => fun
  | [d] => { results := [.lit (.bool true)], args := [d] }
  | _ => none }
def flatOnceRow : OpenClaim := { program := "ytfbcmcckgjfdhaa", sum := "1044e7a38b71a96fa10694a6ad9ddd6775f1d9a724b67c36aebe4e42e5d7e643", func := "weirkeeper/weirkeeperlaw13.FlatOnce", spec := "flatOnce", inPlace := ["internal/abi.NoEscape"], unfollowed := true, recurses := true, apart := false }
def FlatOnceSaid : Prop := flatOnceRow.holds Try.pinned (OpenSpec.ofChange flatOnceSpec)

/-- ITS FALSE NEIGHBOUR: 'it returns false'. Refute it at one input. -/
def flatOnceWrong : ChangeSpec := { name := "flatOnce", fn := fun _ => fun
  | [d] => { results := [.lit (.bool false)], args := [d] }
  | _ => none }
def FlatOnceWrongFalsely : Prop := flatOnceRow.holds Try.pinned (OpenSpec.ofChange flatOnceWrong)

/-- 'weirkeeperlaw13.FlatJoins': WHATEVER THE INPUT: true; the input reads as it did. -/
def flatJoinsSpec : ChangeSpec := { name := "flatJoins", fn := fun _ => fun
  | [d1, d2, d3] => { results := [.lit (.bool true)], args := [d1, d2, d3] }
  | _ => none }
def flatJoinsRow : OpenClaim := { program := "ytfbcmcckgjfdhaa", sum := "1044e7a38b71a96fa10694a6ad9ddd6775f1d9a724b67c36aebe4e42e5d7e643", func := "weirkeeper/weirkeeperlaw13.FlatJoins", spec := "flatJoins", inPlace := ["internal/abi.NoEscape"], unfollowed := true, recurses := true, apart := false }
def FlatJoinsSaid : Prop := flatJoinsRow.holds Try.pinned (OpenSpec.ofChange flatJoinsSpec)

/-- ITS FALSE NEIGHBOUR: 'it returns false'. Refute it at one input. -/
def flatJoinsWrong : ChangeSpec := { name := "flatJoins", fn := fun _ => fun
  | [d1, d2, d3] => { results := [.lit (.bool false)], args := [d1, d2, d3] }
  | _ => none }
def FlatJoinsWrongFalsely : Prop := flatJoinsRow.holds Try.pinned (OpenSpec.ofChange flatJoinsWrong)

/-- 'weirkeeperlaw13.FlatCuts': WHATEVER THE INPUT: true; the input reads as it did. -/
def flatCutsSpec : ChangeSpec := { name := "flatCuts", fn := fun _ => fun
  | [d1, d2, d3, d4, d5] => { results := [.lit (.bool true)], args := [d1, d2, d3, d4, d5] }
  | _ => none }
def flatCutsRow : OpenClaim := { program := "ytfbcmcckgjfdhaa", sum := "1044e7a38b71a96fa10694a6ad9ddd6775f1d9a724b67c36aebe4e42e5d7e643", func := "weirkeeper/weirkeeperlaw13.FlatCuts", spec := "flatCuts", inPlace := ["internal/abi.NoEscape"], unfollowed := true, recurses := true, apart := false }
def FlatCutsSaid : Prop := flatCutsRow.holds Try.pinned (OpenSpec.ofChange flatCutsSpec)

/-- ITS FALSE NEIGHBOUR: 'it returns false'. Refute it at one input. -/
def flatCutsWrong : ChangeSpec := { name := "flatCuts", fn := fun _ => fun
  | [d1, d2, d3, d4, d5] => { results := [.lit (.bool false)], args := [d1, d2, d3, d4, d5] }
  | _ => none }
def FlatCutsWrongFalsely : Prop := flatCutsRow.holds Try.pinned (OpenSpec.ofChange flatCutsWrong)

/- THE SECOND FORM. 'bulk': how many values and letters a reading holds, each counted each time it is reached (what is shared counts as often as it is met; a slice's spare places count too). A statement '..UptoSaid' is the law's where the arguments, and the package variables that the reading takes, are together of bulk at most 1048576: NARROWER than '..Said'. Prove '..Said' where nothing that the law and all that it calls make is longer than what came in: it says more and counts as full. Else prove '..UptoSaid'. A law counts once. -/
mutual
def uptoBulk {H : Type} : DataW H → Nat
  | .lit (.string bytes) => bytes.length + 1
  | .lit _ => 1
  | .nil => 1
  | .ptr d => uptoBulk d + 1
  | .slice elems spare => uptoBulkAll elems + uptoBulkAll spare + 1
  | .agg parts => uptoBulkAll parts + 1
  | .iface _ d => uptoBulk d + 1
  | .map entries => uptoBulkEntries entries + 1
  | .held _ => 1
def uptoBulkAll {H : Type} : List (DataW H) → Nat
  | [] => 0
  | d :: r => uptoBulk d + uptoBulkAll r
def uptoBulkEntries {H : Type} : List (Lit × DataW H) → Nat
  | [] => 0
  | x :: r => uptoBulkEntry x + uptoBulkEntries r
def uptoBulkEntry {H : Type} : Lit × DataW H → Nat
  | (.string bytes, d) => bytes.length + uptoBulk d + 1
  | (_, d) => uptoBulk d + 1
 end
def uptoSmall : (H : Type) → List (DataW H) → Bool := fun _ ds => decide (uptoBulkAll ds ≤ 1048576)
def OpenSpec.upto (s : _root_.Go.ChangeSpec) : _root_.Go.OpenSpec := { _root_.Go.OpenSpec.ofChange s with cond := some uptoSmall }

/-- 'weirkeeperlaw13.FlatWrites', WHERE WHAT IT READS IS OF BULK AT MOST 1048576: true; the input reads as it did. -/
def flatWritesUptoRow : OpenClaim := { program := "ytfbcmcckgjfdhaa", sum := "1044e7a38b71a96fa10694a6ad9ddd6775f1d9a724b67c36aebe4e42e5d7e643", func := "weirkeeper/weirkeeperlaw13.FlatWrites", spec := "flatWrites", inPlace := ["internal/abi.NoEscape"], unfollowed := true, recurses := true, apart := false, narrowed := true }
def FlatWritesUptoSaid : Prop := flatWritesUptoRow.holds Try.pinned (OpenSpec.upto flatWritesSpec)

/-- 'weirkeeperlaw13.FlatTakes', WHERE WHAT IT READS IS OF BULK AT MOST 1048576: true; the input reads as it did. -/
def flatTakesUptoRow : OpenClaim := { program := "ytfbcmcckgjfdhaa", sum := "1044e7a38b71a96fa10694a6ad9ddd6775f1d9a724b67c36aebe4e42e5d7e643", func := "weirkeeper/weirkeeperlaw13.FlatTakes", spec := "flatTakes", inPlace := ["internal/abi.NoEscape"], unfollowed := true, recurses := true, apart := false, narrowed := true }
def FlatTakesUptoSaid : Prop := flatTakesUptoRow.holds Try.pinned (OpenSpec.upto flatTakesSpec)

/-- 'weirkeeperlaw13.FlatBack', WHERE WHAT IT READS IS OF BULK AT MOST 1048576: true; the input reads as it did. -/
def flatBackUptoRow : OpenClaim := { program := "ytfbcmcckgjfdhaa", sum := "1044e7a38b71a96fa10694a6ad9ddd6775f1d9a724b67c36aebe4e42e5d7e643", func := "weirkeeper/weirkeeperlaw13.FlatBack", spec := "flatBack", inPlace := ["internal/abi.NoEscape"], unfollowed := true, recurses := true, apart := false, narrowed := true }
def FlatBackUptoSaid : Prop := flatBackUptoRow.holds Try.pinned (OpenSpec.upto flatBackSpec)

/-- 'weirkeeperlaw13.FlatOnce', WHERE WHAT IT READS IS OF BULK AT MOST 1048576: true; the input reads as it did. -/
def flatOnceUptoRow : OpenClaim := { program := "ytfbcmcckgjfdhaa", sum := "1044e7a38b71a96fa10694a6ad9ddd6775f1d9a724b67c36aebe4e42e5d7e643", func := "weirkeeper/weirkeeperlaw13.FlatOnce", spec := "flatOnce", inPlace := ["internal/abi.NoEscape"], unfollowed := true, recurses := true, apart := false, narrowed := true }
def FlatOnceUptoSaid : Prop := flatOnceUptoRow.holds Try.pinned (OpenSpec.upto flatOnceSpec)

/-- 'weirkeeperlaw13.FlatJoins', WHERE WHAT IT READS IS OF BULK AT MOST 1048576: true; the input reads as it did. -/
def flatJoinsUptoRow : OpenClaim := { program := "ytfbcmcckgjfdhaa", sum := "1044e7a38b71a96fa10694a6ad9ddd6775f1d9a724b67c36aebe4e42e5d7e643", func := "weirkeeper/weirkeeperlaw13.FlatJoins", spec := "flatJoins", inPlace := ["internal/abi.NoEscape"], unfollowed := true, recurses := true, apart := false, narrowed := true }
def FlatJoinsUptoSaid : Prop := flatJoinsUptoRow.holds Try.pinned (OpenSpec.upto flatJoinsSpec)

/-- 'weirkeeperlaw13.FlatCuts', WHERE WHAT IT READS IS OF BULK AT MOST 1048576: true; the input reads as it did. -/
def flatCutsUptoRow : OpenClaim := { program := "ytfbcmcckgjfdhaa", sum := "1044e7a38b71a96fa10694a6ad9ddd6775f1d9a724b67c36aebe4e42e5d7e643", func := "weirkeeper/weirkeeperlaw13.FlatCuts", spec := "flatCuts", inPlace := ["internal/abi.NoEscape"], unfollowed := true, recurses := true, apart := false, narrowed := true }
def FlatCutsUptoSaid : Prop := flatCutsUptoRow.holds Try.pinned (OpenSpec.upto flatCutsSpec)

end Rows
end Go.Proofs.Ytfbcmcckgjfdhaa
