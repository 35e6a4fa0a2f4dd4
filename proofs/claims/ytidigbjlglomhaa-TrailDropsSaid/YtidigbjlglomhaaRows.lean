/-
  No cell of these rows narrows 'for every input' (looked for: loops, veiled, ifaces, maps, wideKeys, modest, calm, conditions, laid).
  DERIVED. THE GIVEN ROWS OF THIS SEAT. 6 by the template 'for every input the law returns true; each argument reads behind the call as it read before'; 0 by the template 'total and deterministic' (their statements: YtidigbjlglomhaaTotals.lean).
  GIVEN WITH THE SEED: the statements are not yours to turn. If you find one false, say at which input.
  Laid BY PROGRAM, IN A SANDBOX (cutbox-rows.mjs): the forced cells as the released guide's own fill.sh prints them over the translation e5540a10916c25c2… (all of the seat's roots in one cut). By AI agents, Wed Nov 11 2026. No macro, syntax, notation, axiom, sorry.
-/
import Derived.Test.YtidigbjlglomhaaChecked
import GoSem.Claim
import GoSem.ClaimJoined
import GoSem.ClaimMapViews
import Derived.JoinedTies
import Derived.KernelRfl
namespace Go.Proofs.Ytidigbjlglomhaa
/- THE CELL 'sum', in the pinned program and in every row, IS THE sha256 OF THE DUMP (.gsa) THAT YtidigbjlglomhaaProg.lean LOADS. Nothing in Lean hashes anything: it is a label: what it is worth is what the hold of that sum in a sandbox is worth. -/
noncomputable def Try.pinned : Pinned := { name := "ytidigbjlglomhaa", sum := "e5540a10916c25c29dbe09078a067d269304c6581e1af87f5980c16a6e7ab10a", checked := Try.checked }
namespace Rows
def none {H : Type} : Left H := { results := [], args := [] }

/-- 'weirkeeperlaw16.TrailTells': WHATEVER THE INPUT: true; the input reads as it did. -/
def trailTellsSpec : ChangeSpec := { name := "trailTells", fn := fun _ => fun
  | [d1, d2, d3, d4] => { results := [.lit (.bool true)], args := [d1, d2, d3, d4] }
  | _ => none }
def trailTellsRow : OpenClaim := { program := "ytidigbjlglomhaa", sum := "e5540a10916c25c29dbe09078a067d269304c6581e1af87f5980c16a6e7ab10a", func := "weirkeeper/weirkeeperlaw16.TrailTells", spec := "trailTells", apart := false }
def TrailTellsSaid : Prop := trailTellsRow.holds Try.pinned (OpenSpec.ofChange trailTellsSpec)

/-- ITS FALSE NEIGHBOUR: 'it returns false'. Refute it at one input. -/
def trailTellsWrong : ChangeSpec := { name := "trailTells", fn := fun _ => fun
  | [d1, d2, d3, d4] => { results := [.lit (.bool false)], args := [d1, d2, d3, d4] }
  | _ => none }
def TrailTellsWrongFalsely : Prop := trailTellsRow.holds Try.pinned (OpenSpec.ofChange trailTellsWrong)

/-- 'weirkeeperlaw16.TrailParts': WHATEVER THE INPUT: true; the input reads as it did. -/
def trailPartsSpec : ChangeSpec := { name := "trailParts", fn := fun _ => fun
  | [d1, d2, d3, d4] => { results := [.lit (.bool true)], args := [d1, d2, d3, d4] }
  | _ => none }
def trailPartsRow : OpenClaim := { program := "ytidigbjlglomhaa", sum := "e5540a10916c25c29dbe09078a067d269304c6581e1af87f5980c16a6e7ab10a", func := "weirkeeper/weirkeeperlaw16.TrailParts", spec := "trailParts", apart := false }
def TrailPartsSaid : Prop := trailPartsRow.holds Try.pinned (OpenSpec.ofChange trailPartsSpec)

/-- ITS FALSE NEIGHBOUR: 'it returns false'. Refute it at one input. -/
def trailPartsWrong : ChangeSpec := { name := "trailParts", fn := fun _ => fun
  | [d1, d2, d3, d4] => { results := [.lit (.bool false)], args := [d1, d2, d3, d4] }
  | _ => none }
def TrailPartsWrongFalsely : Prop := trailPartsRow.holds Try.pinned (OpenSpec.ofChange trailPartsWrong)

/-- 'weirkeeperlaw16.TrailNewest': WHATEVER THE INPUT: true; the input reads as it did. -/
def trailNewestSpec : ChangeSpec := { name := "trailNewest", fn := fun _ => fun
  | [d1, d2, d3] => { results := [.lit (.bool true)], args := [d1, d2, d3] }
  | _ => none }
def trailNewestRow : OpenClaim := { program := "ytidigbjlglomhaa", sum := "e5540a10916c25c29dbe09078a067d269304c6581e1af87f5980c16a6e7ab10a", func := "weirkeeper/weirkeeperlaw16.TrailNewest", spec := "trailNewest", apart := false }
def TrailNewestSaid : Prop := trailNewestRow.holds Try.pinned (OpenSpec.ofChange trailNewestSpec)

/-- ITS FALSE NEIGHBOUR: 'it returns false'. Refute it at one input. -/
def trailNewestWrong : ChangeSpec := { name := "trailNewest", fn := fun _ => fun
  | [d1, d2, d3] => { results := [.lit (.bool false)], args := [d1, d2, d3] }
  | _ => none }
def TrailNewestWrongFalsely : Prop := trailNewestRow.holds Try.pinned (OpenSpec.ofChange trailNewestWrong)

/-- 'weirkeeperlaw16.TrailDrops': WHATEVER THE INPUT: true; the input reads as it did. -/
def trailDropsSpec : ChangeSpec := { name := "trailDrops", fn := fun _ => fun
  | [d1, d2, d3, d4, d5] => { results := [.lit (.bool true)], args := [d1, d2, d3, d4, d5] }
  | _ => none }
def trailDropsRow : OpenClaim := { program := "ytidigbjlglomhaa", sum := "e5540a10916c25c29dbe09078a067d269304c6581e1af87f5980c16a6e7ab10a", func := "weirkeeper/weirkeeperlaw16.TrailDrops", spec := "trailDrops", apart := false }
def TrailDropsSaid : Prop := trailDropsRow.holds Try.pinned (OpenSpec.ofChange trailDropsSpec)

/-- ITS FALSE NEIGHBOUR: 'it returns false'. Refute it at one input. -/
def trailDropsWrong : ChangeSpec := { name := "trailDrops", fn := fun _ => fun
  | [d1, d2, d3, d4, d5] => { results := [.lit (.bool false)], args := [d1, d2, d3, d4, d5] }
  | _ => none }
def TrailDropsWrongFalsely : Prop := trailDropsRow.holds Try.pinned (OpenSpec.ofChange trailDropsWrong)

/-- 'weirkeeperlaw16.TrailMeets': WHATEVER THE INPUT: true; the input reads as it did. -/
def trailMeetsSpec : ChangeSpec := { name := "trailMeets", fn := fun _ => fun
  | [d1, d2, d3, d4, d5] => { results := [.lit (.bool true)], args := [d1, d2, d3, d4, d5] }
  | _ => none }
def trailMeetsRow : OpenClaim := { program := "ytidigbjlglomhaa", sum := "e5540a10916c25c29dbe09078a067d269304c6581e1af87f5980c16a6e7ab10a", func := "weirkeeper/weirkeeperlaw16.TrailMeets", spec := "trailMeets", apart := false }
def TrailMeetsSaid : Prop := trailMeetsRow.holds Try.pinned (OpenSpec.ofChange trailMeetsSpec)

/-- ITS FALSE NEIGHBOUR: 'it returns false'. Refute it at one input. -/
def trailMeetsWrong : ChangeSpec := { name := "trailMeets", fn := fun _ => fun
  | [d1, d2, d3, d4, d5] => { results := [.lit (.bool false)], args := [d1, d2, d3, d4, d5] }
  | _ => none }
def TrailMeetsWrongFalsely : Prop := trailMeetsRow.holds Try.pinned (OpenSpec.ofChange trailMeetsWrong)

/-- 'weirkeeperlaw16.TrailLast': WHATEVER THE INPUT: true; the input reads as it did. -/
def trailLastSpec : ChangeSpec := { name := "trailLast", fn := fun _ => fun
  | [d1, d2] => { results := [.lit (.bool true)], args := [d1, d2] }
  | _ => none }
def trailLastRow : OpenClaim := { program := "ytidigbjlglomhaa", sum := "e5540a10916c25c29dbe09078a067d269304c6581e1af87f5980c16a6e7ab10a", func := "weirkeeper/weirkeeperlaw16.TrailLast", spec := "trailLast", apart := false }
def TrailLastSaid : Prop := trailLastRow.holds Try.pinned (OpenSpec.ofChange trailLastSpec)

/-- ITS FALSE NEIGHBOUR: 'it returns false'. Refute it at one input. -/
def trailLastWrong : ChangeSpec := { name := "trailLast", fn := fun _ => fun
  | [d1, d2] => { results := [.lit (.bool false)], args := [d1, d2] }
  | _ => none }
def TrailLastWrongFalsely : Prop := trailLastRow.holds Try.pinned (OpenSpec.ofChange trailLastWrong)

/- THE SECOND FORM. 'bulk': how many values and letters a reading holds, each counted each time it is reached (what is shared counts as often as it is met; a slice's spare places count too). A statement '..UptoSaid' is the law's where the arguments, and the package variables that the reading takes, are together of bulk at most 1048576: NARROWER than '..Said'. Prove '..Said' where nothing that the law and all that it calls make is longer than what came in: it says more and counts as full. Else prove '..UptoSaid'. A law counts once. -/
mutual
def uptoBulk {H : Type} : DataW H → Nat
  | .lit (.string bytes) => bytes.length + 1
  | .lit _ => 1
  | .nil => 1
  | .ptr d => uptoBulk d + 1
  | .slice elems spare => uptoBulkAll elems + uptoBulkAll spare + 1
  | .agg parts => uptoBulkAll parts + 1
  | .iface _ d => uptoBulk d + 1
  | .map entries => uptoBulkEntries entries + 1
  | .held _ => 1
def uptoBulkAll {H : Type} : List (DataW H) → Nat
  | [] => 0
  | d :: r => uptoBulk d + uptoBulkAll r
def uptoBulkEntries {H : Type} : List (Lit × DataW H) → Nat
  | [] => 0
  | x :: r => uptoBulkEntry x + uptoBulkEntries r
def uptoBulkEntry {H : Type} : Lit × DataW H → Nat
  | (.string bytes, d) => bytes.length + uptoBulk d + 1
  | (_, d) => uptoBulk d + 1
 end
def uptoSmall : (H : Type) → List (DataW H) → Bool := fun _ ds => decide (uptoBulkAll ds ≤ 1048576)
def OpenSpec.upto (s : _root_.Go.ChangeSpec) : _root_.Go.OpenSpec := { _root_.Go.OpenSpec.ofChange s with cond := some uptoSmall }

/-- 'weirkeeperlaw16.TrailTells', WHERE WHAT IT READS IS OF BULK AT MOST 1048576: true; the input reads as it did. -/
def trailTellsUptoRow : OpenClaim := { program := "ytidigbjlglomhaa", sum := "e5540a10916c25c29dbe09078a067d269304c6581e1af87f5980c16a6e7ab10a", func := "weirkeeper/weirkeeperlaw16.TrailTells", spec := "trailTells", apart := false, narrowed := true }
def TrailTellsUptoSaid : Prop := trailTellsUptoRow.holds Try.pinned (OpenSpec.upto trailTellsSpec)

/-- 'weirkeeperlaw16.TrailParts', WHERE WHAT IT READS IS OF BULK AT MOST 1048576: true; the input reads as it did. -/
def trailPartsUptoRow : OpenClaim := { program := "ytidigbjlglomhaa", sum := "e5540a10916c25c29dbe09078a067d269304c6581e1af87f5980c16a6e7ab10a", func := "weirkeeper/weirkeeperlaw16.TrailParts", spec := "trailParts", apart := false, narrowed := true }
def TrailPartsUptoSaid : Prop := trailPartsUptoRow.holds Try.pinned (OpenSpec.upto trailPartsSpec)

/-- 'weirkeeperlaw16.TrailNewest', WHERE WHAT IT READS IS OF BULK AT MOST 1048576: true; the input reads as it did. -/
def trailNewestUptoRow : OpenClaim := { program := "ytidigbjlglomhaa", sum := "e5540a10916c25c29dbe09078a067d269304c6581e1af87f5980c16a6e7ab10a", func := "weirkeeper/weirkeeperlaw16.TrailNewest", spec := "trailNewest", apart := false, narrowed := true }
def TrailNewestUptoSaid : Prop := trailNewestUptoRow.holds Try.pinned (OpenSpec.upto trailNewestSpec)

/-- 'weirkeeperlaw16.TrailDrops', WHERE WHAT IT READS IS OF BULK AT MOST 1048576: true; the input reads as it did. -/
def trailDropsUptoRow : OpenClaim := { program := "ytidigbjlglomhaa", sum := "e5540a10916c25c29dbe09078a067d269304c6581e1af87f5980c16a6e7ab10a", func := "weirkeeper/weirkeeperlaw16.TrailDrops", spec := "trailDrops", apart := false, narrowed := true }
def TrailDropsUptoSaid : Prop := trailDropsUptoRow.holds Try.pinned (OpenSpec.upto trailDropsSpec)

/-- 'weirkeeperlaw16.TrailMeets', WHERE WHAT IT READS IS OF BULK AT MOST 1048576: true; the input reads as it did. -/
def trailMeetsUptoRow : OpenClaim := { program := "ytidigbjlglomhaa", sum := "e5540a10916c25c29dbe09078a067d269304c6581e1af87f5980c16a6e7ab10a", func := "weirkeeper/weirkeeperlaw16.TrailMeets", spec := "trailMeets", apart := false, narrowed := true }
def TrailMeetsUptoSaid : Prop := trailMeetsUptoRow.holds Try.pinned (OpenSpec.upto trailMeetsSpec)

/-- 'weirkeeperlaw16.TrailLast', WHERE WHAT IT READS IS OF BULK AT MOST 1048576: true; the input reads as it did. -/
def trailLastUptoRow : OpenClaim := { program := "ytidigbjlglomhaa", sum := "e5540a10916c25c29dbe09078a067d269304c6581e1af87f5980c16a6e7ab10a", func := "weirkeeper/weirkeeperlaw16.TrailLast", spec := "trailLast", apart := false, narrowed := true }
def TrailLastUptoSaid : Prop := trailLastUptoRow.holds Try.pinned (OpenSpec.upto trailLastSpec)

end Rows
end Go.Proofs.Ytidigbjlglomhaa
