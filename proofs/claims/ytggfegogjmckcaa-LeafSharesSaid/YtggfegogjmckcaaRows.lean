/-
  No cell of these rows narrows 'for every input' (looked for: loops, veiled, ifaces, maps, wideKeys, modest, calm, conditions, laid).
  DERIVED. THE GIVEN ROWS OF THIS SEAT. 6 by the template 'for every input the law returns true; each argument reads behind the call as it read before'; 0 by the template 'total and deterministic' (their statements: YtggfegogjmckcaaTotals.lean).
  GIVEN WITH THE SEED: the statements are not yours to turn. If you find one false, say at which input.
  Laid BY PROGRAM, IN A SANDBOX (cutbox-rows.mjs): the forced cells as the released guide's own fill.sh prints them over the translation a0eca2654eb98355… (all of the seat's roots in one cut). By AI agents, Wed Nov 11 2026. No macro, syntax, notation, axiom, sorry.
-/
import Derived.Test.YtggfegogjmckcaaChecked
import GoSem.Claim
import GoSem.ClaimJoined
import GoSem.ClaimMapViews
import Derived.JoinedTies
import Derived.KernelRfl
namespace Go.Proofs.Ytggfegogjmckcaa
/- THE CELL 'sum', in the pinned program and in every row, IS THE sha256 OF THE DUMP (.gsa) THAT YtggfegogjmckcaaProg.lean LOADS. Nothing in Lean hashes anything: it is a label: what it is worth is what the hold of that sum in a sandbox is worth. -/
noncomputable def Try.pinned : Pinned := { name := "ytggfegogjmckcaa", sum := "a0eca2654eb9835541ea94f61a1c54ed36d0f96ec840082e02588adf44528fd4", checked := Try.checked }
namespace Rows
def none {H : Type} : Left H := { results := [], args := [] }

/-- 'weirkeeperlaw10.LeafTells': WHATEVER THE INPUT: true; the input reads as it did. -/
def leafTellsSpec : ChangeSpec := { name := "leafTells", fn := fun _ => fun
  | [d1, d2, d3] => { results := [.lit (.bool true)], args := [d1, d2, d3] }
  | _ => none }
def leafTellsRow : OpenClaim := { program := "ytggfegogjmckcaa", sum := "a0eca2654eb9835541ea94f61a1c54ed36d0f96ec840082e02588adf44528fd4", func := "weirkeeper/weirkeeperlaw10.LeafTells", spec := "leafTells", inPlace := ["internal/bytealg.abigen_runtime_cmpstring"], unfollowed := true, recurses := true, apart := false }
def LeafTellsSaid : Prop := leafTellsRow.holds Try.pinned (OpenSpec.ofChange leafTellsSpec)

/-- ITS FALSE NEIGHBOUR: 'it returns false'. Refute it at one input. -/
def leafTellsWrong : ChangeSpec := { name := "leafTells", fn := fun _ => fun
  | [d1, d2, d3] => { results := [.lit (.bool false)], args := [d1, d2, d3] }
  | _ => none }
def LeafTellsWrongFalsely : Prop := leafTellsRow.holds Try.pinned (OpenSpec.ofChange leafTellsWrong)

/-- 'weirkeeperlaw10.LeafShares': WHATEVER THE INPUT: true; the input reads as it did. -/
def leafSharesSpec : ChangeSpec := { name := "leafShares", fn := fun _ => fun
  | [d1, d2] => { results := [.lit (.bool true)], args := [d1, d2] }
  | _ => none }
def leafSharesRow : OpenClaim := { program := "ytggfegogjmckcaa", sum := "a0eca2654eb9835541ea94f61a1c54ed36d0f96ec840082e02588adf44528fd4", func := "weirkeeper/weirkeeperlaw10.LeafShares", spec := "leafShares", inPlace := ["internal/bytealg.abigen_runtime_cmpstring"], unfollowed := true, recurses := true, apart := false }
def LeafSharesSaid : Prop := leafSharesRow.holds Try.pinned (OpenSpec.ofChange leafSharesSpec)

/-- ITS FALSE NEIGHBOUR: 'it returns false'. Refute it at one input. -/
def leafSharesWrong : ChangeSpec := { name := "leafShares", fn := fun _ => fun
  | [d1, d2] => { results := [.lit (.bool false)], args := [d1, d2] }
  | _ => none }
def LeafSharesWrongFalsely : Prop := leafSharesRow.holds Try.pinned (OpenSpec.ofChange leafSharesWrong)

/-- 'weirkeeperlaw10.LeafStays': WHATEVER THE INPUT: true; the input reads as it did. -/
def leafStaysSpec : ChangeSpec := { name := "leafStays", fn := fun _ => fun
  | [d1, d2, d3] => { results := [.lit (.bool true)], args := [d1, d2, d3] }
  | _ => none }
def leafStaysRow : OpenClaim := { program := "ytggfegogjmckcaa", sum := "a0eca2654eb9835541ea94f61a1c54ed36d0f96ec840082e02588adf44528fd4", func := "weirkeeper/weirkeeperlaw10.LeafStays", spec := "leafStays", inPlace := ["internal/bytealg.abigen_runtime_cmpstring"], unfollowed := true, recurses := true, apart := false }
def LeafStaysSaid : Prop := leafStaysRow.holds Try.pinned (OpenSpec.ofChange leafStaysSpec)

/-- ITS FALSE NEIGHBOUR: 'it returns false'. Refute it at one input. -/
def leafStaysWrong : ChangeSpec := { name := "leafStays", fn := fun _ => fun
  | [d1, d2, d3] => { results := [.lit (.bool false)], args := [d1, d2, d3] }
  | _ => none }
def LeafStaysWrongFalsely : Prop := leafStaysRow.holds Try.pinned (OpenSpec.ofChange leafStaysWrong)

/-- 'weirkeeperlaw10.LeafParts': WHATEVER THE INPUT: true; the input reads as it did. -/
def leafPartsSpec : ChangeSpec := { name := "leafParts", fn := fun _ => fun
  | [d1, d2, d3] => { results := [.lit (.bool true)], args := [d1, d2, d3] }
  | _ => none }
def leafPartsRow : OpenClaim := { program := "ytggfegogjmckcaa", sum := "a0eca2654eb9835541ea94f61a1c54ed36d0f96ec840082e02588adf44528fd4", func := "weirkeeper/weirkeeperlaw10.LeafParts", spec := "leafParts", inPlace := ["internal/bytealg.abigen_runtime_cmpstring"], unfollowed := true, recurses := true, apart := false }
def LeafPartsSaid : Prop := leafPartsRow.holds Try.pinned (OpenSpec.ofChange leafPartsSpec)

/-- ITS FALSE NEIGHBOUR: 'it returns false'. Refute it at one input. -/
def leafPartsWrong : ChangeSpec := { name := "leafParts", fn := fun _ => fun
  | [d1, d2, d3] => { results := [.lit (.bool false)], args := [d1, d2, d3] }
  | _ => none }
def LeafPartsWrongFalsely : Prop := leafPartsRow.holds Try.pinned (OpenSpec.ofChange leafPartsWrong)

/-- 'weirkeeperlaw10.LeafPlaces': WHATEVER THE INPUT: true; the input reads as it did. -/
def leafPlacesSpec : ChangeSpec := { name := "leafPlaces", fn := fun _ => fun
  | [d1, d2, d3] => { results := [.lit (.bool true)], args := [d1, d2, d3] }
  | _ => none }
def leafPlacesRow : OpenClaim := { program := "ytggfegogjmckcaa", sum := "a0eca2654eb9835541ea94f61a1c54ed36d0f96ec840082e02588adf44528fd4", func := "weirkeeper/weirkeeperlaw10.LeafPlaces", spec := "leafPlaces", inPlace := ["internal/bytealg.abigen_runtime_cmpstring"], unfollowed := true, recurses := true, apart := false }
def LeafPlacesSaid : Prop := leafPlacesRow.holds Try.pinned (OpenSpec.ofChange leafPlacesSpec)

/-- ITS FALSE NEIGHBOUR: 'it returns false'. Refute it at one input. -/
def leafPlacesWrong : ChangeSpec := { name := "leafPlaces", fn := fun _ => fun
  | [d1, d2, d3] => { results := [.lit (.bool false)], args := [d1, d2, d3] }
  | _ => none }
def LeafPlacesWrongFalsely : Prop := leafPlacesRow.holds Try.pinned (OpenSpec.ofChange leafPlacesWrong)

/-- 'weirkeeperlaw10.LeafTwice': WHATEVER THE INPUT: true; the input reads as it did. -/
def leafTwiceSpec : ChangeSpec := { name := "leafTwice", fn := fun _ => fun
  | [d1, d2] => { results := [.lit (.bool true)], args := [d1, d2] }
  | _ => none }
def leafTwiceRow : OpenClaim := { program := "ytggfegogjmckcaa", sum := "a0eca2654eb9835541ea94f61a1c54ed36d0f96ec840082e02588adf44528fd4", func := "weirkeeper/weirkeeperlaw10.LeafTwice", spec := "leafTwice", inPlace := ["internal/bytealg.abigen_runtime_cmpstring"], unfollowed := true, recurses := true, apart := false }
def LeafTwiceSaid : Prop := leafTwiceRow.holds Try.pinned (OpenSpec.ofChange leafTwiceSpec)

/-- ITS FALSE NEIGHBOUR: 'it returns false'. Refute it at one input. -/
def leafTwiceWrong : ChangeSpec := { name := "leafTwice", fn := fun _ => fun
  | [d1, d2] => { results := [.lit (.bool false)], args := [d1, d2] }
  | _ => none }
def LeafTwiceWrongFalsely : Prop := leafTwiceRow.holds Try.pinned (OpenSpec.ofChange leafTwiceWrong)

/- THE SECOND FORM. 'bulk': how many values and letters a reading holds, each counted each time it is reached (what is shared counts as often as it is met; a slice's spare places count too). A statement '..UptoSaid' is the law's where the arguments, and the package variables that the reading takes, are together of bulk at most 1048576: NARROWER than '..Said'. Prove '..Said' where nothing that the law and all that it calls make is longer than what came in: it says more and counts as full. Else prove '..UptoSaid'. A law counts once. -/
mutual
def uptoBulk {H : Type} : DataW H → Nat
  | .lit (.string bytes) => bytes.length + 1
  | .lit _ => 1
  | .nil => 1
  | .ptr d => uptoBulk d + 1
  | .slice elems spare => uptoBulkAll elems + uptoBulkAll spare + 1
  | .agg parts => uptoBulkAll parts + 1
  | .iface _ d => uptoBulk d + 1
  | .map entries => uptoBulkEntries entries + 1
  | .held _ => 1
def uptoBulkAll {H : Type} : List (DataW H) → Nat
  | [] => 0
  | d :: r => uptoBulk d + uptoBulkAll r
def uptoBulkEntries {H : Type} : List (Lit × DataW H) → Nat
  | [] => 0
  | x :: r => uptoBulkEntry x + uptoBulkEntries r
def uptoBulkEntry {H : Type} : Lit × DataW H → Nat
  | (.string bytes, d) => bytes.length + uptoBulk d + 1
  | (_, d) => uptoBulk d + 1
 end
def uptoSmall : (H : Type) → List (DataW H) → Bool := fun _ ds => decide (uptoBulkAll ds ≤ 1048576)
def OpenSpec.upto (s : _root_.Go.ChangeSpec) : _root_.Go.OpenSpec := { _root_.Go.OpenSpec.ofChange s with cond := some uptoSmall }

/-- 'weirkeeperlaw10.LeafTells', WHERE WHAT IT READS IS OF BULK AT MOST 1048576: true; the input reads as it did. -/
def leafTellsUptoRow : OpenClaim := { program := "ytggfegogjmckcaa", sum := "a0eca2654eb9835541ea94f61a1c54ed36d0f96ec840082e02588adf44528fd4", func := "weirkeeper/weirkeeperlaw10.LeafTells", spec := "leafTells", inPlace := ["internal/bytealg.abigen_runtime_cmpstring"], unfollowed := true, recurses := true, apart := false, narrowed := true }
def LeafTellsUptoSaid : Prop := leafTellsUptoRow.holds Try.pinned (OpenSpec.upto leafTellsSpec)

/-- 'weirkeeperlaw10.LeafShares', WHERE WHAT IT READS IS OF BULK AT MOST 1048576: true; the input reads as it did. -/
def leafSharesUptoRow : OpenClaim := { program := "ytggfegogjmckcaa", sum := "a0eca2654eb9835541ea94f61a1c54ed36d0f96ec840082e02588adf44528fd4", func := "weirkeeper/weirkeeperlaw10.LeafShares", spec := "leafShares", inPlace := ["internal/bytealg.abigen_runtime_cmpstring"], unfollowed := true, recurses := true, apart := false, narrowed := true }
def LeafSharesUptoSaid : Prop := leafSharesUptoRow.holds Try.pinned (OpenSpec.upto leafSharesSpec)

/-- 'weirkeeperlaw10.LeafStays', WHERE WHAT IT READS IS OF BULK AT MOST 1048576: true; the input reads as it did. -/
def leafStaysUptoRow : OpenClaim := { program := "ytggfegogjmckcaa", sum := "a0eca2654eb9835541ea94f61a1c54ed36d0f96ec840082e02588adf44528fd4", func := "weirkeeper/weirkeeperlaw10.LeafStays", spec := "leafStays", inPlace := ["internal/bytealg.abigen_runtime_cmpstring"], unfollowed := true, recurses := true, apart := false, narrowed := true }
def LeafStaysUptoSaid : Prop := leafStaysUptoRow.holds Try.pinned (OpenSpec.upto leafStaysSpec)

/-- 'weirkeeperlaw10.LeafParts', WHERE WHAT IT READS IS OF BULK AT MOST 1048576: true; the input reads as it did. -/
def leafPartsUptoRow : OpenClaim := { program := "ytggfegogjmckcaa", sum := "a0eca2654eb9835541ea94f61a1c54ed36d0f96ec840082e02588adf44528fd4", func := "weirkeeper/weirkeeperlaw10.LeafParts", spec := "leafParts", inPlace := ["internal/bytealg.abigen_runtime_cmpstring"], unfollowed := true, recurses := true, apart := false, narrowed := true }
def LeafPartsUptoSaid : Prop := leafPartsUptoRow.holds Try.pinned (OpenSpec.upto leafPartsSpec)

/-- 'weirkeeperlaw10.LeafPlaces', WHERE WHAT IT READS IS OF BULK AT MOST 1048576: true; the input reads as it did. -/
def leafPlacesUptoRow : OpenClaim := { program := "ytggfegogjmckcaa", sum := "a0eca2654eb9835541ea94f61a1c54ed36d0f96ec840082e02588adf44528fd4", func := "weirkeeper/weirkeeperlaw10.LeafPlaces", spec := "leafPlaces", inPlace := ["internal/bytealg.abigen_runtime_cmpstring"], unfollowed := true, recurses := true, apart := false, narrowed := true }
def LeafPlacesUptoSaid : Prop := leafPlacesUptoRow.holds Try.pinned (OpenSpec.upto leafPlacesSpec)

/-- 'weirkeeperlaw10.LeafTwice', WHERE WHAT IT READS IS OF BULK AT MOST 1048576: true; the input reads as it did. -/
def leafTwiceUptoRow : OpenClaim := { program := "ytggfegogjmckcaa", sum := "a0eca2654eb9835541ea94f61a1c54ed36d0f96ec840082e02588adf44528fd4", func := "weirkeeper/weirkeeperlaw10.LeafTwice", spec := "leafTwice", inPlace := ["internal/bytealg.abigen_runtime_cmpstring"], unfollowed := true, recurses := true, apart := false, narrowed := true }
def LeafTwiceUptoSaid : Prop := leafTwiceUptoRow.holds Try.pinned (OpenSpec.upto leafTwiceSpec)

end Rows
end Go.Proofs.Ytggfegogjmckcaa
