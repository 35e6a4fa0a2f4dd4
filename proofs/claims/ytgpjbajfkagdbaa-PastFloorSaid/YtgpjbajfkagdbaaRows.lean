/-
  No cell of these rows narrows 'for every input' (looked for: loops, veiled, ifaces, maps, wideKeys, modest, calm, conditions, laid).
  DERIVED. THE GIVEN ROWS OF THIS SEAT. 5 by the template 'for every input the law returns true; each argument reads behind the call as it read before'; 0 by the template 'total and deterministic' (their statements: YtgpjbajfkagdbaaTotals.lean).
  GIVEN WITH THE SEED: the statements are not yours to turn. If you find one false, say at which input.
  Laid BY PROGRAM, IN A SANDBOX (cutbox-rows.mjs): the forced cells as the released guide's own fill.sh prints them over the translation 394a210d0a85cbf2… (all of the seat's roots in one cut). By AI agents, Wed Nov 11 2026. No macro, syntax, notation, axiom, sorry.
-/
import Derived.Test.YtgpjbajfkagdbaaChecked
import GoSem.Claim
import GoSem.ClaimJoined
import GoSem.ClaimMapViews
import Derived.JoinedTies
import Derived.KernelRfl
namespace Go.Proofs.Ytgpjbajfkagdbaa
/- THE CELL 'sum', in the pinned program and in every row, IS THE sha256 OF THE DUMP (.gsa) THAT YtgpjbajfkagdbaaProg.lean LOADS. Nothing in Lean hashes anything: it is a label: what it is worth is what the hold of that sum in a sandbox is worth. -/
noncomputable def Try.pinned : Pinned := { name := "ytgpjbajfkagdbaa", sum := "394a210d0a85cbf2bc8aa2ae5e283e97624a98f40888209ed0f15e3e838d5ba3", checked := Try.checked }
namespace Rows
def none {H : Type} : Left H := { results := [], args := [] }

/-- 'weirkeeperlaw18.PastTells': WHATEVER THE INPUT: true; the input reads as it did. -/
def pastTellsSpec : ChangeSpec := { name := "pastTells", fn := fun _ => fun
  | [d1, d2, d3, d4, d5, d6, d7] => { results := [.lit (.bool true)], args := [d1, d2, d3, d4, d5, d6, d7] }
  | _ => none }
def pastTellsRow : OpenClaim := { program := "ytgpjbajfkagdbaa", sum := "394a210d0a85cbf2bc8aa2ae5e283e97624a98f40888209ed0f15e3e838d5ba3", func := "weirkeeper/weirkeeperlaw18.PastTells", spec := "pastTells", inPlace := ["internal/bytealg.abigen_runtime_cmpstring"], unfollowed := true, recurses := true, apart := false }
def PastTellsSaid : Prop := pastTellsRow.holds Try.pinned (OpenSpec.ofChange pastTellsSpec)

/-- ITS FALSE NEIGHBOUR: 'it returns false'. Refute it at one input. -/
def pastTellsWrong : ChangeSpec := { name := "pastTells", fn := fun _ => fun
  | [d1, d2, d3, d4, d5, d6, d7] => { results := [.lit (.bool false)], args := [d1, d2, d3, d4, d5, d6, d7] }
  | _ => none }
def PastTellsWrongFalsely : Prop := pastTellsRow.holds Try.pinned (OpenSpec.ofChange pastTellsWrong)

/-- 'weirkeeperlaw18.PastWas': WHATEVER THE INPUT: true; the input reads as it did. -/
def pastWasSpec : ChangeSpec := { name := "pastWas", fn := fun _ => fun
  | [d] => { results := [.lit (.bool true)], args := [d] }
  | _ => none }
def pastWasRow : OpenClaim := { program := "ytgpjbajfkagdbaa", sum := "394a210d0a85cbf2bc8aa2ae5e283e97624a98f40888209ed0f15e3e838d5ba3", func := "weirkeeper/weirkeeperlaw18.PastWas", spec := "pastWas", inPlace := ["internal/bytealg.abigen_runtime_cmpstring"], unfollowed := true, recurses := true, apart := false }
def PastWasSaid : Prop := pastWasRow.holds Try.pinned (OpenSpec.ofChange pastWasSpec)

/-- ITS FALSE NEIGHBOUR: 'it returns false'. Refute it at one input. -/
def pastWasWrong : ChangeSpec := { name := "pastWas", fn := fun _ => fun
  | [d] => { results := [.lit (.bool false)], args := [d] }
  | _ => none }
def PastWasWrongFalsely : Prop := pastWasRow.holds Try.pinned (OpenSpec.ofChange pastWasWrong)

/-- 'weirkeeperlaw18.PastPages': WHATEVER THE INPUT: true; the input reads as it did. -/
def pastPagesSpec : ChangeSpec := { name := "pastPages", fn := fun _ => fun
  | [d1, d2, d3, d4, d5] => { results := [.lit (.bool true)], args := [d1, d2, d3, d4, d5] }
  | _ => none }
def pastPagesRow : OpenClaim := { program := "ytgpjbajfkagdbaa", sum := "394a210d0a85cbf2bc8aa2ae5e283e97624a98f40888209ed0f15e3e838d5ba3", func := "weirkeeper/weirkeeperlaw18.PastPages", spec := "pastPages", inPlace := ["internal/bytealg.abigen_runtime_cmpstring"], unfollowed := true, recurses := true, apart := false }
def PastPagesSaid : Prop := pastPagesRow.holds Try.pinned (OpenSpec.ofChange pastPagesSpec)

/-- ITS FALSE NEIGHBOUR: 'it returns false'. Refute it at one input. -/
def pastPagesWrong : ChangeSpec := { name := "pastPages", fn := fun _ => fun
  | [d1, d2, d3, d4, d5] => { results := [.lit (.bool false)], args := [d1, d2, d3, d4, d5] }
  | _ => none }
def PastPagesWrongFalsely : Prop := pastPagesRow.holds Try.pinned (OpenSpec.ofChange pastPagesWrong)

/-- 'weirkeeperlaw18.PastHops': WHATEVER THE INPUT: true; the input reads as it did. -/
def pastHopsSpec : ChangeSpec := { name := "pastHops", fn := fun _ => fun
  | [d1, d2, d3, d4] => { results := [.lit (.bool true)], args := [d1, d2, d3, d4] }
  | _ => none }
def pastHopsRow : OpenClaim := { program := "ytgpjbajfkagdbaa", sum := "394a210d0a85cbf2bc8aa2ae5e283e97624a98f40888209ed0f15e3e838d5ba3", func := "weirkeeper/weirkeeperlaw18.PastHops", spec := "pastHops", inPlace := ["internal/bytealg.abigen_runtime_cmpstring"], unfollowed := true, recurses := true, apart := false }
def PastHopsSaid : Prop := pastHopsRow.holds Try.pinned (OpenSpec.ofChange pastHopsSpec)

/-- ITS FALSE NEIGHBOUR: 'it returns false'. Refute it at one input. -/
def pastHopsWrong : ChangeSpec := { name := "pastHops", fn := fun _ => fun
  | [d1, d2, d3, d4] => { results := [.lit (.bool false)], args := [d1, d2, d3, d4] }
  | _ => none }
def PastHopsWrongFalsely : Prop := pastHopsRow.holds Try.pinned (OpenSpec.ofChange pastHopsWrong)

/-- 'weirkeeperlaw18.PastFloor': WHATEVER THE INPUT: true; the input reads as it did. -/
def pastFloorSpec : ChangeSpec := { name := "pastFloor", fn := fun _ => fun
  | [d1, d2, d3, d4, d5] => { results := [.lit (.bool true)], args := [d1, d2, d3, d4, d5] }
  | _ => none }
def pastFloorRow : OpenClaim := { program := "ytgpjbajfkagdbaa", sum := "394a210d0a85cbf2bc8aa2ae5e283e97624a98f40888209ed0f15e3e838d5ba3", func := "weirkeeper/weirkeeperlaw18.PastFloor", spec := "pastFloor", inPlace := ["internal/bytealg.abigen_runtime_cmpstring"], unfollowed := true, recurses := true, apart := false }
def PastFloorSaid : Prop := pastFloorRow.holds Try.pinned (OpenSpec.ofChange pastFloorSpec)

/-- ITS FALSE NEIGHBOUR: 'it returns false'. Refute it at one input. -/
def pastFloorWrong : ChangeSpec := { name := "pastFloor", fn := fun _ => fun
  | [d1, d2, d3, d4, d5] => { results := [.lit (.bool false)], args := [d1, d2, d3, d4, d5] }
  | _ => none }
def PastFloorWrongFalsely : Prop := pastFloorRow.holds Try.pinned (OpenSpec.ofChange pastFloorWrong)

/- THE SECOND FORM. 'bulk': how many values and letters a reading holds, each counted each time it is reached (what is shared counts as often as it is met; a slice's spare places count too). A statement '..UptoSaid' is the law's where the arguments, and the package variables that the reading takes, are together of bulk at most 1048576: NARROWER than '..Said'. Prove '..Said' where nothing that the law and all that it calls make is longer than what came in: it says more and counts as full. Else prove '..UptoSaid'. A law counts once. -/
mutual
def uptoBulk {H : Type} : DataW H → Nat
  | .lit (.string bytes) => bytes.length + 1
  | .lit _ => 1
  | .nil => 1
  | .ptr d => uptoBulk d + 1
  | .slice elems spare => uptoBulkAll elems + uptoBulkAll spare + 1
  | .agg parts => uptoBulkAll parts + 1
  | .iface _ d => uptoBulk d + 1
  | .map entries => uptoBulkEntries entries + 1
  | .held _ => 1
def uptoBulkAll {H : Type} : List (DataW H) → Nat
  | [] => 0
  | d :: r => uptoBulk d + uptoBulkAll r
def uptoBulkEntries {H : Type} : List (Lit × DataW H) → Nat
  | [] => 0
  | x :: r => uptoBulkEntry x + uptoBulkEntries r
def uptoBulkEntry {H : Type} : Lit × DataW H → Nat
  | (.string bytes, d) => bytes.length + uptoBulk d + 1
  | (_, d) => uptoBulk d + 1
 end
def uptoSmall : (H : Type) → List (DataW H) → Bool := fun _ ds => decide (uptoBulkAll ds ≤ 1048576)
def OpenSpec.upto (s : _root_.Go.ChangeSpec) : _root_.Go.OpenSpec := { _root_.Go.OpenSpec.ofChange s with cond := some uptoSmall }

/-- 'weirkeeperlaw18.PastTells', WHERE WHAT IT READS IS OF BULK AT MOST 1048576: true; the input reads as it did. -/
def pastTellsUptoRow : OpenClaim := { program := "ytgpjbajfkagdbaa", sum := "394a210d0a85cbf2bc8aa2ae5e283e97624a98f40888209ed0f15e3e838d5ba3", func := "weirkeeper/weirkeeperlaw18.PastTells", spec := "pastTells", inPlace := ["internal/bytealg.abigen_runtime_cmpstring"], unfollowed := true, recurses := true, apart := false, narrowed := true }
def PastTellsUptoSaid : Prop := pastTellsUptoRow.holds Try.pinned (OpenSpec.upto pastTellsSpec)

/-- 'weirkeeperlaw18.PastWas', WHERE WHAT IT READS IS OF BULK AT MOST 1048576: true; the input reads as it did. -/
def pastWasUptoRow : OpenClaim := { program := "ytgpjbajfkagdbaa", sum := "394a210d0a85cbf2bc8aa2ae5e283e97624a98f40888209ed0f15e3e838d5ba3", func := "weirkeeper/weirkeeperlaw18.PastWas", spec := "pastWas", inPlace := ["internal/bytealg.abigen_runtime_cmpstring"], unfollowed := true, recurses := true, apart := false, narrowed := true }
def PastWasUptoSaid : Prop := pastWasUptoRow.holds Try.pinned (OpenSpec.upto pastWasSpec)

/-- 'weirkeeperlaw18.PastPages', WHERE WHAT IT READS IS OF BULK AT MOST 1048576: true; the input reads as it did. -/
def pastPagesUptoRow : OpenClaim := { program := "ytgpjbajfkagdbaa", sum := "394a210d0a85cbf2bc8aa2ae5e283e97624a98f40888209ed0f15e3e838d5ba3", func := "weirkeeper/weirkeeperlaw18.PastPages", spec := "pastPages", inPlace := ["internal/bytealg.abigen_runtime_cmpstring"], unfollowed := true, recurses := true, apart := false, narrowed := true }
def PastPagesUptoSaid : Prop := pastPagesUptoRow.holds Try.pinned (OpenSpec.upto pastPagesSpec)

/-- 'weirkeeperlaw18.PastHops', WHERE WHAT IT READS IS OF BULK AT MOST 1048576: true; the input reads as it did. -/
def pastHopsUptoRow : OpenClaim := { program := "ytgpjbajfkagdbaa", sum := "394a210d0a85cbf2bc8aa2ae5e283e97624a98f40888209ed0f15e3e838d5ba3", func := "weirkeeper/weirkeeperlaw18.PastHops", spec := "pastHops", inPlace := ["internal/bytealg.abigen_runtime_cmpstring"], unfollowed := true, recurses := true, apart := false, narrowed := true }
def PastHopsUptoSaid : Prop := pastHopsUptoRow.holds Try.pinned (OpenSpec.upto pastHopsSpec)

/-- 'weirkeeperlaw18.PastFloor', WHERE WHAT IT READS IS OF BULK AT MOST 1048576: true; the input reads as it did. -/
def pastFloorUptoRow : OpenClaim := { program := "ytgpjbajfkagdbaa", sum := "394a210d0a85cbf2bc8aa2ae5e283e97624a98f40888209ed0f15e3e838d5ba3", func := "weirkeeper/weirkeeperlaw18.PastFloor", spec := "pastFloor", inPlace := ["internal/bytealg.abigen_runtime_cmpstring"], unfollowed := true, recurses := true, apart := false, narrowed := true }
def PastFloorUptoSaid : Prop := pastFloorUptoRow.holds Try.pinned (OpenSpec.upto pastFloorSpec)

end Rows
end Go.Proofs.Ytgpjbajfkagdbaa
