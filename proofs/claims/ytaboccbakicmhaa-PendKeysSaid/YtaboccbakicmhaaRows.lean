/-
  No cell of these rows narrows 'for every input' (looked for: loops, veiled, ifaces, maps, wideKeys, modest, calm, conditions, laid).
  DERIVED. THE GIVEN ROWS OF THIS SEAT. 6 by the template 'for every input the law returns true; each argument reads behind the call as it read before'; 0 by the template 'total and deterministic' (their statements: YtaboccbakicmhaaTotals.lean).
  GIVEN WITH THE SEED: the statements are not yours to turn. If you find one false, say at which input.
  Laid BY PROGRAM, IN A SANDBOX (cutbox-rows.mjs): the forced cells as the released guide's own fill.sh prints them over the translation a1e8cd65313aec9c… (all of the seat's roots in one cut). By AI agents, Wed Nov 11 2026. No macro, syntax, notation, axiom, sorry.
-/
import Derived.Test.YtaboccbakicmhaaChecked
import GoSem.Claim
import GoSem.ClaimJoined
import GoSem.ClaimMapViews
import Derived.JoinedTies
import Derived.KernelRfl
namespace Go.Proofs.Ytaboccbakicmhaa
/- THE CELL 'sum', in the pinned program and in every row, IS THE sha256 OF THE DUMP (.gsa) THAT YtaboccbakicmhaaProg.lean LOADS. Nothing in Lean hashes anything: it is a label: what it is worth is what the hold of that sum in a sandbox is worth. -/
noncomputable def Try.pinned : Pinned := { name := "ytaboccbakicmhaa", sum := "a1e8cd65313aec9cc4a4f211d71c282a865f7329ef0e6f78197ea23953d4acc4", checked := Try.checked }
namespace Rows
def none {H : Type} : Left H := { results := [], args := [] }

/-- 'weirkeeperlaw11.PendTells': WHATEVER THE INPUT: true; the input reads as it did. -/
def pendTellsSpec : ChangeSpec := { name := "pendTells", fn := fun _ => fun
  | [d1, d2, d3] => { results := [.lit (.bool true)], args := [d1, d2, d3] }
  | _ => none }
def pendTellsRow : OpenClaim := { program := "ytaboccbakicmhaa", sum := "a1e8cd65313aec9cc4a4f211d71c282a865f7329ef0e6f78197ea23953d4acc4", func := "weirkeeper/weirkeeperlaw11.PendTells", spec := "pendTells", inPlace := ["internal/bytealg.abigen_runtime_cmpstring"], unfollowed := true, recurses := true, apart := false }
def PendTellsSaid : Prop := pendTellsRow.holds Try.pinned (OpenSpec.ofChange pendTellsSpec)

/-- ITS FALSE NEIGHBOUR: 'it returns false'. Refute it at one input. -/
def pendTellsWrong : ChangeSpec := { name := "pendTells", fn := fun _ => fun
  | [d1, d2, d3] => { results := [.lit (.bool false)], args := [d1, d2, d3] }
  | _ => none }
def PendTellsWrongFalsely : Prop := pendTellsRow.holds Try.pinned (OpenSpec.ofChange pendTellsWrong)

/-- 'weirkeeperlaw11.PendSplits': WHATEVER THE INPUT: true; the input reads as it did. -/
def pendSplitsSpec : ChangeSpec := { name := "pendSplits", fn := fun _ => fun
  | [d1, d2] => { results := [.lit (.bool true)], args := [d1, d2] }
  | _ => none }
def pendSplitsRow : OpenClaim := { program := "ytaboccbakicmhaa", sum := "a1e8cd65313aec9cc4a4f211d71c282a865f7329ef0e6f78197ea23953d4acc4", func := "weirkeeper/weirkeeperlaw11.PendSplits", spec := "pendSplits", inPlace := ["internal/bytealg.abigen_runtime_cmpstring"], unfollowed := true, recurses := true, apart := false }
def PendSplitsSaid : Prop := pendSplitsRow.holds Try.pinned (OpenSpec.ofChange pendSplitsSpec)

/-- ITS FALSE NEIGHBOUR: 'it returns false'. Refute it at one input. -/
def pendSplitsWrong : ChangeSpec := { name := "pendSplits", fn := fun _ => fun
  | [d1, d2] => { results := [.lit (.bool false)], args := [d1, d2] }
  | _ => none }
def PendSplitsWrongFalsely : Prop := pendSplitsRow.holds Try.pinned (OpenSpec.ofChange pendSplitsWrong)

/-- 'weirkeeperlaw11.PendDoes': WHATEVER THE INPUT: true; the input reads as it did. -/
def pendDoesSpec : ChangeSpec := { name := "pendDoes", fn := fun _ => fun
  | [d1, d2, d3, d4] => { results := [.lit (.bool true)], args := [d1, d2, d3, d4] }
  | _ => none }
def pendDoesRow : OpenClaim := { program := "ytaboccbakicmhaa", sum := "a1e8cd65313aec9cc4a4f211d71c282a865f7329ef0e6f78197ea23953d4acc4", func := "weirkeeper/weirkeeperlaw11.PendDoes", spec := "pendDoes", inPlace := ["internal/bytealg.abigen_runtime_cmpstring"], unfollowed := true, recurses := true, apart := false }
def PendDoesSaid : Prop := pendDoesRow.holds Try.pinned (OpenSpec.ofChange pendDoesSpec)

/-- ITS FALSE NEIGHBOUR: 'it returns false'. Refute it at one input. -/
def pendDoesWrong : ChangeSpec := { name := "pendDoes", fn := fun _ => fun
  | [d1, d2, d3, d4] => { results := [.lit (.bool false)], args := [d1, d2, d3, d4] }
  | _ => none }
def PendDoesWrongFalsely : Prop := pendDoesRow.holds Try.pinned (OpenSpec.ofChange pendDoesWrong)

/-- 'weirkeeperlaw11.PendGroups': WHATEVER THE INPUT: true; the input reads as it did. -/
def pendGroupsSpec : ChangeSpec := { name := "pendGroups", fn := fun _ => fun
  | [d1, d2, d3] => { results := [.lit (.bool true)], args := [d1, d2, d3] }
  | _ => none }
def pendGroupsRow : OpenClaim := { program := "ytaboccbakicmhaa", sum := "a1e8cd65313aec9cc4a4f211d71c282a865f7329ef0e6f78197ea23953d4acc4", func := "weirkeeper/weirkeeperlaw11.PendGroups", spec := "pendGroups", inPlace := ["internal/bytealg.abigen_runtime_cmpstring"], unfollowed := true, recurses := true, apart := false }
def PendGroupsSaid : Prop := pendGroupsRow.holds Try.pinned (OpenSpec.ofChange pendGroupsSpec)

/-- ITS FALSE NEIGHBOUR: 'it returns false'. Refute it at one input. -/
def pendGroupsWrong : ChangeSpec := { name := "pendGroups", fn := fun _ => fun
  | [d1, d2, d3] => { results := [.lit (.bool false)], args := [d1, d2, d3] }
  | _ => none }
def PendGroupsWrongFalsely : Prop := pendGroupsRow.holds Try.pinned (OpenSpec.ofChange pendGroupsWrong)

/-- 'weirkeeperlaw11.PendKeys': WHATEVER THE INPUT: true; the input reads as it did. -/
def pendKeysSpec : ChangeSpec := { name := "pendKeys", fn := fun _ => fun
  | [d1, d2] => { results := [.lit (.bool true)], args := [d1, d2] }
  | _ => none }
def pendKeysRow : OpenClaim := { program := "ytaboccbakicmhaa", sum := "a1e8cd65313aec9cc4a4f211d71c282a865f7329ef0e6f78197ea23953d4acc4", func := "weirkeeper/weirkeeperlaw11.PendKeys", spec := "pendKeys", inPlace := ["internal/bytealg.abigen_runtime_cmpstring"], unfollowed := true, recurses := true, apart := false }
def PendKeysSaid : Prop := pendKeysRow.holds Try.pinned (OpenSpec.ofChange pendKeysSpec)

/-- ITS FALSE NEIGHBOUR: 'it returns false'. Refute it at one input. -/
def pendKeysWrong : ChangeSpec := { name := "pendKeys", fn := fun _ => fun
  | [d1, d2] => { results := [.lit (.bool false)], args := [d1, d2] }
  | _ => none }
def PendKeysWrongFalsely : Prop := pendKeysRow.holds Try.pinned (OpenSpec.ofChange pendKeysWrong)

/-- 'weirkeeperlaw11.PendMost': WHATEVER THE INPUT: true; the input reads as it did. -/
def pendMostSpec : ChangeSpec := { name := "pendMost", fn := fun _ => fun
  | [d1, d2] => { results := [.lit (.bool true)], args := [d1, d2] }
  | _ => none }
def pendMostRow : OpenClaim := { program := "ytaboccbakicmhaa", sum := "a1e8cd65313aec9cc4a4f211d71c282a865f7329ef0e6f78197ea23953d4acc4", func := "weirkeeper/weirkeeperlaw11.PendMost", spec := "pendMost", inPlace := ["internal/bytealg.abigen_runtime_cmpstring"], unfollowed := true, recurses := true, apart := false }
def PendMostSaid : Prop := pendMostRow.holds Try.pinned (OpenSpec.ofChange pendMostSpec)

/-- ITS FALSE NEIGHBOUR: 'it returns false'. Refute it at one input. -/
def pendMostWrong : ChangeSpec := { name := "pendMost", fn := fun _ => fun
  | [d1, d2] => { results := [.lit (.bool false)], args := [d1, d2] }
  | _ => none }
def PendMostWrongFalsely : Prop := pendMostRow.holds Try.pinned (OpenSpec.ofChange pendMostWrong)

/- THE SECOND FORM. 'bulk': how many values and letters a reading holds, each counted each time it is reached (what is shared counts as often as it is met; a slice's spare places count too). A statement '..UptoSaid' is the law's where the arguments, and the package variables that the reading takes, are together of bulk at most 1048576: NARROWER than '..Said'. Prove '..Said' where nothing that the law and all that it calls make is longer than what came in: it says more and counts as full. Else prove '..UptoSaid'. A law counts once. -/
mutual
def uptoBulk {H : Type} : DataW H → Nat
  | .lit (.string bytes) => bytes.length + 1
  | .lit _ => 1
  | .nil => 1
  | .ptr d => uptoBulk d + 1
  | .slice elems spare => uptoBulkAll elems + uptoBulkAll spare + 1
  | .agg parts => uptoBulkAll parts + 1
  | .iface _ d => uptoBulk d + 1
  | .map entries => uptoBulkEntries entries + 1
  | .held _ => 1
def uptoBulkAll {H : Type} : List (DataW H) → Nat
  | [] => 0
  | d :: r => uptoBulk d + uptoBulkAll r
def uptoBulkEntries {H : Type} : List (Lit × DataW H) → Nat
  | [] => 0
  | x :: r => uptoBulkEntry x + uptoBulkEntries r
def uptoBulkEntry {H : Type} : Lit × DataW H → Nat
  | (.string bytes, d) => bytes.length + uptoBulk d + 1
  | (_, d) => uptoBulk d + 1
 end
def uptoSmall : (H : Type) → List (DataW H) → Bool := fun _ ds => decide (uptoBulkAll ds ≤ 1048576)
def OpenSpec.upto (s : _root_.Go.ChangeSpec) : _root_.Go.OpenSpec := { _root_.Go.OpenSpec.ofChange s with cond := some uptoSmall }

/-- 'weirkeeperlaw11.PendTells', WHERE WHAT IT READS IS OF BULK AT MOST 1048576: true; the input reads as it did. -/
def pendTellsUptoRow : OpenClaim := { program := "ytaboccbakicmhaa", sum := "a1e8cd65313aec9cc4a4f211d71c282a865f7329ef0e6f78197ea23953d4acc4", func := "weirkeeper/weirkeeperlaw11.PendTells", spec := "pendTells", inPlace := ["internal/bytealg.abigen_runtime_cmpstring"], unfollowed := true, recurses := true, apart := false, narrowed := true }
def PendTellsUptoSaid : Prop := pendTellsUptoRow.holds Try.pinned (OpenSpec.upto pendTellsSpec)

/-- 'weirkeeperlaw11.PendSplits', WHERE WHAT IT READS IS OF BULK AT MOST 1048576: true; the input reads as it did. -/
def pendSplitsUptoRow : OpenClaim := { program := "ytaboccbakicmhaa", sum := "a1e8cd65313aec9cc4a4f211d71c282a865f7329ef0e6f78197ea23953d4acc4", func := "weirkeeper/weirkeeperlaw11.PendSplits", spec := "pendSplits", inPlace := ["internal/bytealg.abigen_runtime_cmpstring"], unfollowed := true, recurses := true, apart := false, narrowed := true }
def PendSplitsUptoSaid : Prop := pendSplitsUptoRow.holds Try.pinned (OpenSpec.upto pendSplitsSpec)

/-- 'weirkeeperlaw11.PendDoes', WHERE WHAT IT READS IS OF BULK AT MOST 1048576: true; the input reads as it did. -/
def pendDoesUptoRow : OpenClaim := { program := "ytaboccbakicmhaa", sum := "a1e8cd65313aec9cc4a4f211d71c282a865f7329ef0e6f78197ea23953d4acc4", func := "weirkeeper/weirkeeperlaw11.PendDoes", spec := "pendDoes", inPlace := ["internal/bytealg.abigen_runtime_cmpstring"], unfollowed := true, recurses := true, apart := false, narrowed := true }
def PendDoesUptoSaid : Prop := pendDoesUptoRow.holds Try.pinned (OpenSpec.upto pendDoesSpec)

/-- 'weirkeeperlaw11.PendGroups', WHERE WHAT IT READS IS OF BULK AT MOST 1048576: true; the input reads as it did. -/
def pendGroupsUptoRow : OpenClaim := { program := "ytaboccbakicmhaa", sum := "a1e8cd65313aec9cc4a4f211d71c282a865f7329ef0e6f78197ea23953d4acc4", func := "weirkeeper/weirkeeperlaw11.PendGroups", spec := "pendGroups", inPlace := ["internal/bytealg.abigen_runtime_cmpstring"], unfollowed := true, recurses := true, apart := false, narrowed := true }
def PendGroupsUptoSaid : Prop := pendGroupsUptoRow.holds Try.pinned (OpenSpec.upto pendGroupsSpec)

/-- 'weirkeeperlaw11.PendKeys', WHERE WHAT IT READS IS OF BULK AT MOST 1048576: true; the input reads as it did. -/
def pendKeysUptoRow : OpenClaim := { program := "ytaboccbakicmhaa", sum := "a1e8cd65313aec9cc4a4f211d71c282a865f7329ef0e6f78197ea23953d4acc4", func := "weirkeeper/weirkeeperlaw11.PendKeys", spec := "pendKeys", inPlace := ["internal/bytealg.abigen_runtime_cmpstring"], unfollowed := true, recurses := true, apart := false, narrowed := true }
def PendKeysUptoSaid : Prop := pendKeysUptoRow.holds Try.pinned (OpenSpec.upto pendKeysSpec)

/-- 'weirkeeperlaw11.PendMost', WHERE WHAT IT READS IS OF BULK AT MOST 1048576: true; the input reads as it did. -/
def pendMostUptoRow : OpenClaim := { program := "ytaboccbakicmhaa", sum := "a1e8cd65313aec9cc4a4f211d71c282a865f7329ef0e6f78197ea23953d4acc4", func := "weirkeeper/weirkeeperlaw11.PendMost", spec := "pendMost", inPlace := ["internal/bytealg.abigen_runtime_cmpstring"], unfollowed := true, recurses := true, apart := false, narrowed := true }
def PendMostUptoSaid : Prop := pendMostUptoRow.holds Try.pinned (OpenSpec.upto pendMostSpec)

end Rows
end Go.Proofs.Ytaboccbakicmhaa
