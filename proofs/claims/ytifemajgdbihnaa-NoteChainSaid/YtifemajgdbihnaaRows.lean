/-
  No cell of these rows narrows 'for every input' (looked for: loops, veiled, ifaces, maps, wideKeys, modest, calm, conditions, laid).
  DERIVED. THE GIVEN ROWS OF THIS SEAT. 5 by the template 'for every input the law returns true; each argument reads behind the call as it read before'; 0 by the template 'total and deterministic' (their statements: YtifemajgdbihnaaTotals.lean).
  GIVEN WITH THE SEED: the statements are not yours to turn. If you find one false, say at which input.
  Laid BY PROGRAM, IN A SANDBOX (cutbox-rows.mjs): the forced cells as the released guide's own fill.sh prints them over the translation 7d7aa2b0d9624e19… (all of the seat's roots in one cut). By AI agents, Wed Nov 11 2026. No macro, syntax, notation, axiom, sorry.
-/
import Derived.Test.YtifemajgdbihnaaChecked
import GoSem.Claim
import GoSem.ClaimJoined
import GoSem.ClaimMapViews
import Derived.JoinedTies
import Derived.KernelRfl
namespace Go.Proofs.Ytifemajgdbihnaa
/- THE CELL 'sum', in the pinned program and in every row, IS THE sha256 OF THE DUMP (.gsa) THAT YtifemajgdbihnaaProg.lean LOADS. Nothing in Lean hashes anything: it is a label: what it is worth is what the hold of that sum in a sandbox is worth. -/
noncomputable def Try.pinned : Pinned := { name := "ytifemajgdbihnaa", sum := "7d7aa2b0d9624e19332ca0b86e2a65b2605f68e6c8a9e117c5a07ce9f8e77382", checked := Try.checked }
namespace Rows
def none {H : Type} : Left H := { results := [], args := [] }

/-- 'weirkeeperlaw09.NoteBoth': WHATEVER THE INPUT: true; the input reads as it did. -/
def noteBothSpec : ChangeSpec := { name := "noteBoth", fn := fun _ => fun
  | [d1, d2, d3, d4, d5] => { results := [.lit (.bool true)], args := [d1, d2, d3, d4, d5] }
  | _ => none }
def noteBothRow : OpenClaim := { program := "ytifemajgdbihnaa", sum := "7d7aa2b0d9624e19332ca0b86e2a65b2605f68e6c8a9e117c5a07ce9f8e77382", func := "weirkeeper/weirkeeperlaw09.NoteBoth", spec := "noteBoth", apart := false }
def NoteBothSaid : Prop := noteBothRow.holds Try.pinned (OpenSpec.ofChange noteBothSpec)

/-- ITS FALSE NEIGHBOUR: 'it returns false'. Refute it at one input. -/
def noteBothWrong : ChangeSpec := { name := "noteBoth", fn := fun _ => fun
  | [d1, d2, d3, d4, d5] => { results := [.lit (.bool false)], args := [d1, d2, d3, d4, d5] }
  | _ => none }
def NoteBothWrongFalsely : Prop := noteBothRow.holds Try.pinned (OpenSpec.ofChange noteBothWrong)

/-- 'weirkeeperlaw09.NoteAdds': WHATEVER THE INPUT: true; the input reads as it did. -/
def noteAddsSpec : ChangeSpec := { name := "noteAdds", fn := fun _ => fun
  | [d1, d2, d3, d4] => { results := [.lit (.bool true)], args := [d1, d2, d3, d4] }
  | _ => none }
def noteAddsRow : OpenClaim := { program := "ytifemajgdbihnaa", sum := "7d7aa2b0d9624e19332ca0b86e2a65b2605f68e6c8a9e117c5a07ce9f8e77382", func := "weirkeeper/weirkeeperlaw09.NoteAdds", spec := "noteAdds", apart := false }
def NoteAddsSaid : Prop := noteAddsRow.holds Try.pinned (OpenSpec.ofChange noteAddsSpec)

/-- ITS FALSE NEIGHBOUR: 'it returns false'. Refute it at one input. -/
def noteAddsWrong : ChangeSpec := { name := "noteAdds", fn := fun _ => fun
  | [d1, d2, d3, d4] => { results := [.lit (.bool false)], args := [d1, d2, d3, d4] }
  | _ => none }
def NoteAddsWrongFalsely : Prop := noteAddsRow.holds Try.pinned (OpenSpec.ofChange noteAddsWrong)

/-- 'weirkeeperlaw09.NoteLast': WHATEVER THE INPUT: true; the input reads as it did. -/
def noteLastSpec : ChangeSpec := { name := "noteLast", fn := fun _ => fun
  | [d1, d2, d3, d4, d5, d6, d7] => { results := [.lit (.bool true)], args := [d1, d2, d3, d4, d5, d6, d7] }
  | _ => none }
def noteLastRow : OpenClaim := { program := "ytifemajgdbihnaa", sum := "7d7aa2b0d9624e19332ca0b86e2a65b2605f68e6c8a9e117c5a07ce9f8e77382", func := "weirkeeper/weirkeeperlaw09.NoteLast", spec := "noteLast", apart := false }
def NoteLastSaid : Prop := noteLastRow.holds Try.pinned (OpenSpec.ofChange noteLastSpec)

/-- ITS FALSE NEIGHBOUR: 'it returns false'. Refute it at one input. -/
def noteLastWrong : ChangeSpec := { name := "noteLast", fn := fun _ => fun
  | [d1, d2, d3, d4, d5, d6, d7] => { results := [.lit (.bool false)], args := [d1, d2, d3, d4, d5, d6, d7] }
  | _ => none }
def NoteLastWrongFalsely : Prop := noteLastRow.holds Try.pinned (OpenSpec.ofChange noteLastWrong)

/-- 'weirkeeperlaw09.NoteChain': WHATEVER THE INPUT: true; the input reads as it did. -/
def noteChainSpec : ChangeSpec := { name := "noteChain", fn := fun _ => fun
  | [d1, d2, d3] => { results := [.lit (.bool true)], args := [d1, d2, d3] }
  | _ => none }
def noteChainRow : OpenClaim := { program := "ytifemajgdbihnaa", sum := "7d7aa2b0d9624e19332ca0b86e2a65b2605f68e6c8a9e117c5a07ce9f8e77382", func := "weirkeeper/weirkeeperlaw09.NoteChain", spec := "noteChain", apart := false }
def NoteChainSaid : Prop := noteChainRow.holds Try.pinned (OpenSpec.ofChange noteChainSpec)

/-- ITS FALSE NEIGHBOUR: 'it returns false'. Refute it at one input. -/
def noteChainWrong : ChangeSpec := { name := "noteChain", fn := fun _ => fun
  | [d1, d2, d3] => { results := [.lit (.bool false)], args := [d1, d2, d3] }
  | _ => none }
def NoteChainWrongFalsely : Prop := noteChainRow.holds Try.pinned (OpenSpec.ofChange noteChainWrong)

/-- 'weirkeeperlaw09.NoteKinds': WHATEVER THE INPUT: true; the input reads as it did. -/
def noteKindsSpec : ChangeSpec := { name := "noteKinds", fn := fun _ => fun
  | [d1, d2, d3] => { results := [.lit (.bool true)], args := [d1, d2, d3] }
  | _ => none }
def noteKindsRow : OpenClaim := { program := "ytifemajgdbihnaa", sum := "7d7aa2b0d9624e19332ca0b86e2a65b2605f68e6c8a9e117c5a07ce9f8e77382", func := "weirkeeper/weirkeeperlaw09.NoteKinds", spec := "noteKinds", apart := false }
def NoteKindsSaid : Prop := noteKindsRow.holds Try.pinned (OpenSpec.ofChange noteKindsSpec)

/-- ITS FALSE NEIGHBOUR: 'it returns false'. Refute it at one input. -/
def noteKindsWrong : ChangeSpec := { name := "noteKinds", fn := fun _ => fun
  | [d1, d2, d3] => { results := [.lit (.bool false)], args := [d1, d2, d3] }
  | _ => none }
def NoteKindsWrongFalsely : Prop := noteKindsRow.holds Try.pinned (OpenSpec.ofChange noteKindsWrong)

/- THE SECOND FORM. 'bulk': how many values and letters a reading holds, each counted each time it is reached (what is shared counts as often as it is met; a slice's spare places count too). A statement '..UptoSaid' is the law's where the arguments, and the package variables that the reading takes, are together of bulk at most 1048576: NARROWER than '..Said'. Prove '..Said' where nothing that the law and all that it calls make is longer than what came in: it says more and counts as full. Else prove '..UptoSaid'. A law counts once. -/
mutual
def uptoBulk {H : Type} : DataW H → Nat
  | .lit (.string bytes) => bytes.length + 1
  | .lit _ => 1
  | .nil => 1
  | .ptr d => uptoBulk d + 1
  | .slice elems spare => uptoBulkAll elems + uptoBulkAll spare + 1
  | .agg parts => uptoBulkAll parts + 1
  | .iface _ d => uptoBulk d + 1
  | .map entries => uptoBulkEntries entries + 1
  | .held _ => 1
def uptoBulkAll {H : Type} : List (DataW H) → Nat
  | [] => 0
  | d :: r => uptoBulk d + uptoBulkAll r
def uptoBulkEntries {H : Type} : List (Lit × DataW H) → Nat
  | [] => 0
  | x :: r => uptoBulkEntry x + uptoBulkEntries r
def uptoBulkEntry {H : Type} : Lit × DataW H → Nat
  | (.string bytes, d) => bytes.length + uptoBulk d + 1
  | (_, d) => uptoBulk d + 1
 end
def uptoSmall : (H : Type) → List (DataW H) → Bool := fun _ ds => decide (uptoBulkAll ds ≤ 1048576)
def OpenSpec.upto (s : _root_.Go.ChangeSpec) : _root_.Go.OpenSpec := { _root_.Go.OpenSpec.ofChange s with cond := some uptoSmall }

/-- 'weirkeeperlaw09.NoteBoth', WHERE WHAT IT READS IS OF BULK AT MOST 1048576: true; the input reads as it did. -/
def noteBothUptoRow : OpenClaim := { program := "ytifemajgdbihnaa", sum := "7d7aa2b0d9624e19332ca0b86e2a65b2605f68e6c8a9e117c5a07ce9f8e77382", func := "weirkeeper/weirkeeperlaw09.NoteBoth", spec := "noteBoth", apart := false, narrowed := true }
def NoteBothUptoSaid : Prop := noteBothUptoRow.holds Try.pinned (OpenSpec.upto noteBothSpec)

/-- 'weirkeeperlaw09.NoteAdds', WHERE WHAT IT READS IS OF BULK AT MOST 1048576: true; the input reads as it did. -/
def noteAddsUptoRow : OpenClaim := { program := "ytifemajgdbihnaa", sum := "7d7aa2b0d9624e19332ca0b86e2a65b2605f68e6c8a9e117c5a07ce9f8e77382", func := "weirkeeper/weirkeeperlaw09.NoteAdds", spec := "noteAdds", apart := false, narrowed := true }
def NoteAddsUptoSaid : Prop := noteAddsUptoRow.holds Try.pinned (OpenSpec.upto noteAddsSpec)

/-- 'weirkeeperlaw09.NoteLast', WHERE WHAT IT READS IS OF BULK AT MOST 1048576: true; the input reads as it did. -/
def noteLastUptoRow : OpenClaim := { program := "ytifemajgdbihnaa", sum := "7d7aa2b0d9624e19332ca0b86e2a65b2605f68e6c8a9e117c5a07ce9f8e77382", func := "weirkeeper/weirkeeperlaw09.NoteLast", spec := "noteLast", apart := false, narrowed := true }
def NoteLastUptoSaid : Prop := noteLastUptoRow.holds Try.pinned (OpenSpec.upto noteLastSpec)

/-- 'weirkeeperlaw09.NoteChain', WHERE WHAT IT READS IS OF BULK AT MOST 1048576: true; the input reads as it did. -/
def noteChainUptoRow : OpenClaim := { program := "ytifemajgdbihnaa", sum := "7d7aa2b0d9624e19332ca0b86e2a65b2605f68e6c8a9e117c5a07ce9f8e77382", func := "weirkeeper/weirkeeperlaw09.NoteChain", spec := "noteChain", apart := false, narrowed := true }
def NoteChainUptoSaid : Prop := noteChainUptoRow.holds Try.pinned (OpenSpec.upto noteChainSpec)

/-- 'weirkeeperlaw09.NoteKinds', WHERE WHAT IT READS IS OF BULK AT MOST 1048576: true; the input reads as it did. -/
def noteKindsUptoRow : OpenClaim := { program := "ytifemajgdbihnaa", sum := "7d7aa2b0d9624e19332ca0b86e2a65b2605f68e6c8a9e117c5a07ce9f8e77382", func := "weirkeeper/weirkeeperlaw09.NoteKinds", spec := "noteKinds", apart := false, narrowed := true }
def NoteKindsUptoSaid : Prop := noteKindsUptoRow.holds Try.pinned (OpenSpec.upto noteKindsSpec)

end Rows
end Go.Proofs.Ytifemajgdbihnaa
