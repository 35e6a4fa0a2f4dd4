/-
  No cell of these rows narrows 'for every input' (looked for: loops, veiled, ifaces, maps, wideKeys, modest, calm, conditions, laid).
  DERIVED. THE GIVEN ROWS OF THIS SEAT. 6 by the template 'for every input the law returns true; each argument reads behind the call as it read before'; 0 by the template 'total and deterministic' (their statements: YthoffknkpogfhaaTotals.lean).
  GIVEN WITH THE SEED: the statements are not yours to turn. If you find one false, say at which input.
  Laid BY PROGRAM, IN A SANDBOX (cutbox-rows.mjs): the forced cells as the released guide's own fill.sh prints them over the translation 5eb27cf8ee8ef537… (all of the seat's roots in one cut). By AI agents, Wed Nov 11 2026. No macro, syntax, notation, axiom, sorry.
-/
import Derived.Test.YthoffknkpogfhaaChecked
import GoSem.Claim
import GoSem.ClaimJoined
import GoSem.ClaimMapViews
import Derived.JoinedTies
import Derived.KernelRfl
namespace Go.Proofs.Ythoffknkpogfhaa
/- THE CELL 'sum', in the pinned program and in every row, IS THE sha256 OF THE DUMP (.gsa) THAT YthoffknkpogfhaaProg.lean LOADS. Nothing in Lean hashes anything: it is a label: what it is worth is what the hold of that sum in a sandbox is worth. -/
noncomputable def Try.pinned : Pinned := { name := "ythoffknkpogfhaa", sum := "5eb27cf8ee8ef537d458ef26ddd126cfee27764f2e3f47dda75fdb6be5ac8b77", checked := Try.checked }
namespace Rows
def none {H : Type} : Left H := { results := [], args := [] }

/-- 'weirkeeperlaw14.CacheTells': WHATEVER THE INPUT: true; the input reads as it did. -/
def cacheTellsSpec : ChangeSpec := { name := "cacheTells", fn := fun _ => fun
  | [d1, d2, d3] => { results := [.lit (.bool true)], args := [d1, d2, d3] }
  | _ => none }
def cacheTellsRow : OpenClaim := { program := "ythoffknkpogfhaa", sum := "5eb27cf8ee8ef537d458ef26ddd126cfee27764f2e3f47dda75fdb6be5ac8b77", func := "weirkeeper/weirkeeperlaw14.CacheTells", spec := "cacheTells", inPlace := ["slices.overlaps[weirkeeper/cache.Item]"], unfollowed := true, recurses := true, apart := false }
def CacheTellsSaid : Prop := cacheTellsRow.holds Try.pinned (OpenSpec.ofChange cacheTellsSpec)

/-- ITS FALSE NEIGHBOUR: 'it returns false'. Refute it at one input. -/
def cacheTellsWrong : ChangeSpec := { name := "cacheTells", fn := fun _ => fun
  | [d1, d2, d3] => { results := [.lit (.bool false)], args := [d1, d2, d3] }
  | _ => none }
def CacheTellsWrongFalsely : Prop := cacheTellsRow.holds Try.pinned (OpenSpec.ofChange cacheTellsWrong)

/-- 'weirkeeperlaw14.CacheLast': WHATEVER THE INPUT: true; the input reads as it did. -/
def cacheLastSpec : ChangeSpec := { name := "cacheLast", fn := fun _ => fun
  | [d1, d2] => { results := [.lit (.bool true)], args := [d1, d2] }
  | _ => none }
def cacheLastRow : OpenClaim := { program := "ythoffknkpogfhaa", sum := "5eb27cf8ee8ef537d458ef26ddd126cfee27764f2e3f47dda75fdb6be5ac8b77", func := "weirkeeper/weirkeeperlaw14.CacheLast", spec := "cacheLast", inPlace := ["slices.overlaps[weirkeeper/cache.Item]"], unfollowed := true, recurses := true, apart := false }
def CacheLastSaid : Prop := cacheLastRow.holds Try.pinned (OpenSpec.ofChange cacheLastSpec)

/-- ITS FALSE NEIGHBOUR: 'it returns false'. Refute it at one input. -/
def cacheLastWrong : ChangeSpec := { name := "cacheLast", fn := fun _ => fun
  | [d1, d2] => { results := [.lit (.bool false)], args := [d1, d2] }
  | _ => none }
def CacheLastWrongFalsely : Prop := cacheLastRow.holds Try.pinned (OpenSpec.ofChange cacheLastWrong)

/-- 'weirkeeperlaw14.CacheKeeps': WHATEVER THE INPUT: true; the input reads as it did. -/
def cacheKeepsSpec : ChangeSpec := { name := "cacheKeeps", fn := fun _ => fun
  | [d1, d2] => { results := [.lit (.bool true)], args := [d1, d2] }
  | _ => none }
def cacheKeepsRow : OpenClaim := { program := "ythoffknkpogfhaa", sum := "5eb27cf8ee8ef537d458ef26ddd126cfee27764f2e3f47dda75fdb6be5ac8b77", func := "weirkeeper/weirkeeperlaw14.CacheKeeps", spec := "cacheKeeps", inPlace := ["slices.overlaps[weirkeeper/cache.Item]"], unfollowed := true, recurses := true, apart := false }
def CacheKeepsSaid : Prop := cacheKeepsRow.holds Try.pinned (OpenSpec.ofChange cacheKeepsSpec)

/-- ITS FALSE NEIGHBOUR: 'it returns false'. Refute it at one input. -/
def cacheKeepsWrong : ChangeSpec := { name := "cacheKeeps", fn := fun _ => fun
  | [d1, d2] => { results := [.lit (.bool false)], args := [d1, d2] }
  | _ => none }
def CacheKeepsWrongFalsely : Prop := cacheKeepsRow.holds Try.pinned (OpenSpec.ofChange cacheKeepsWrong)

/-- 'weirkeeperlaw14.CacheParts': WHATEVER THE INPUT: true; the input reads as it did. -/
def cachePartsSpec : ChangeSpec := { name := "cacheParts", fn := fun _ => fun
  | [d1, d2, d3, d4] => { results := [.lit (.bool true)], args := [d1, d2, d3, d4] }
  | _ => none }
def cachePartsRow : OpenClaim := { program := "ythoffknkpogfhaa", sum := "5eb27cf8ee8ef537d458ef26ddd126cfee27764f2e3f47dda75fdb6be5ac8b77", func := "weirkeeper/weirkeeperlaw14.CacheParts", spec := "cacheParts", inPlace := ["slices.overlaps[weirkeeper/cache.Item]"], unfollowed := true, recurses := true, apart := false }
def CachePartsSaid : Prop := cachePartsRow.holds Try.pinned (OpenSpec.ofChange cachePartsSpec)

/-- ITS FALSE NEIGHBOUR: 'it returns false'. Refute it at one input. -/
def cachePartsWrong : ChangeSpec := { name := "cacheParts", fn := fun _ => fun
  | [d1, d2, d3, d4] => { results := [.lit (.bool false)], args := [d1, d2, d3, d4] }
  | _ => none }
def CachePartsWrongFalsely : Prop := cachePartsRow.holds Try.pinned (OpenSpec.ofChange cachePartsWrong)

/-- 'weirkeeperlaw14.CacheUses': WHATEVER THE INPUT: true; the input reads as it did. -/
def cacheUsesSpec : ChangeSpec := { name := "cacheUses", fn := fun _ => fun
  | [d1, d2, d3] => { results := [.lit (.bool true)], args := [d1, d2, d3] }
  | _ => none }
def cacheUsesRow : OpenClaim := { program := "ythoffknkpogfhaa", sum := "5eb27cf8ee8ef537d458ef26ddd126cfee27764f2e3f47dda75fdb6be5ac8b77", func := "weirkeeper/weirkeeperlaw14.CacheUses", spec := "cacheUses", inPlace := ["slices.overlaps[weirkeeper/cache.Item]"], unfollowed := true, recurses := true, apart := false }
def CacheUsesSaid : Prop := cacheUsesRow.holds Try.pinned (OpenSpec.ofChange cacheUsesSpec)

/-- ITS FALSE NEIGHBOUR: 'it returns false'. Refute it at one input. -/
def cacheUsesWrong : ChangeSpec := { name := "cacheUses", fn := fun _ => fun
  | [d1, d2, d3] => { results := [.lit (.bool false)], args := [d1, d2, d3] }
  | _ => none }
def CacheUsesWrongFalsely : Prop := cacheUsesRow.holds Try.pinned (OpenSpec.ofChange cacheUsesWrong)

/-- 'weirkeeperlaw14.CacheMost': WHATEVER THE INPUT: true; the input reads as it did. -/
def cacheMostSpec : ChangeSpec := { name := "cacheMost", fn := fun _ => fun
  | [d1, d2] => { results := [.lit (.bool true)], args := [d1, d2] }
  | _ => none }
def cacheMostRow : OpenClaim := { program := "ythoffknkpogfhaa", sum := "5eb27cf8ee8ef537d458ef26ddd126cfee27764f2e3f47dda75fdb6be5ac8b77", func := "weirkeeper/weirkeeperlaw14.CacheMost", spec := "cacheMost", inPlace := ["slices.overlaps[weirkeeper/cache.Item]"], unfollowed := true, recurses := true, apart := false }
def CacheMostSaid : Prop := cacheMostRow.holds Try.pinned (OpenSpec.ofChange cacheMostSpec)

/-- ITS FALSE NEIGHBOUR: 'it returns false'. Refute it at one input. -/
def cacheMostWrong : ChangeSpec := { name := "cacheMost", fn := fun _ => fun
  | [d1, d2] => { results := [.lit (.bool false)], args := [d1, d2] }
  | _ => none }
def CacheMostWrongFalsely : Prop := cacheMostRow.holds Try.pinned (OpenSpec.ofChange cacheMostWrong)

/- THE SECOND FORM. 'bulk': how many values and letters a reading holds, each counted each time it is reached (what is shared counts as often as it is met; a slice's spare places count too). A statement '..UptoSaid' is the law's where the arguments, and the package variables that the reading takes, are together of bulk at most 1048576: NARROWER than '..Said'. Prove '..Said' where nothing that the law and all that it calls make is longer than what came in: it says more and counts as full. Else prove '..UptoSaid'. A law counts once. -/
mutual
def uptoBulk {H : Type} : DataW H → Nat
  | .lit (.string bytes) => bytes.length + 1
  | .lit _ => 1
  | .nil => 1
  | .ptr d => uptoBulk d + 1
  | .slice elems spare => uptoBulkAll elems + uptoBulkAll spare + 1
  | .agg parts => uptoBulkAll parts + 1
  | .iface _ d => uptoBulk d + 1
  | .map entries => uptoBulkEntries entries + 1
  | .held _ => 1
def uptoBulkAll {H : Type} : List (DataW H) → Nat
  | [] => 0
  | d :: r => uptoBulk d + uptoBulkAll r
def uptoBulkEntries {H : Type} : List (Lit × DataW H) → Nat
  | [] => 0
  | x :: r => uptoBulkEntry x + uptoBulkEntries r
def uptoBulkEntry {H : Type} : Lit × DataW H → Nat
  | (.string bytes, d) => bytes.length + uptoBulk d + 1
  | (_, d) => uptoBulk d + 1
 end
def uptoSmall : (H : Type) → List (DataW H) → Bool := fun _ ds => decide (uptoBulkAll ds ≤ 1048576)
def OpenSpec.upto (s : _root_.Go.ChangeSpec) : _root_.Go.OpenSpec := { _root_.Go.OpenSpec.ofChange s with cond := some uptoSmall }

/-- 'weirkeeperlaw14.CacheTells', WHERE WHAT IT READS IS OF BULK AT MOST 1048576: true; the input reads as it did. -/
def cacheTellsUptoRow : OpenClaim := { program := "ythoffknkpogfhaa", sum := "5eb27cf8ee8ef537d458ef26ddd126cfee27764f2e3f47dda75fdb6be5ac8b77", func := "weirkeeper/weirkeeperlaw14.CacheTells", spec := "cacheTells", inPlace := ["slices.overlaps[weirkeeper/cache.Item]"], unfollowed := true, recurses := true, apart := false, narrowed := true }
def CacheTellsUptoSaid : Prop := cacheTellsUptoRow.holds Try.pinned (OpenSpec.upto cacheTellsSpec)

/-- 'weirkeeperlaw14.CacheLast', WHERE WHAT IT READS IS OF BULK AT MOST 1048576: true; the input reads as it did. -/
def cacheLastUptoRow : OpenClaim := { program := "ythoffknkpogfhaa", sum := "5eb27cf8ee8ef537d458ef26ddd126cfee27764f2e3f47dda75fdb6be5ac8b77", func := "weirkeeper/weirkeeperlaw14.CacheLast", spec := "cacheLast", inPlace := ["slices.overlaps[weirkeeper/cache.Item]"], unfollowed := true, recurses := true, apart := false, narrowed := true }
def CacheLastUptoSaid : Prop := cacheLastUptoRow.holds Try.pinned (OpenSpec.upto cacheLastSpec)

/-- 'weirkeeperlaw14.CacheKeeps', WHERE WHAT IT READS IS OF BULK AT MOST 1048576: true; the input reads as it did. -/
def cacheKeepsUptoRow : OpenClaim := { program := "ythoffknkpogfhaa", sum := "5eb27cf8ee8ef537d458ef26ddd126cfee27764f2e3f47dda75fdb6be5ac8b77", func := "weirkeeper/weirkeeperlaw14.CacheKeeps", spec := "cacheKeeps", inPlace := ["slices.overlaps[weirkeeper/cache.Item]"], unfollowed := true, recurses := true, apart := false, narrowed := true }
def CacheKeepsUptoSaid : Prop := cacheKeepsUptoRow.holds Try.pinned (OpenSpec.upto cacheKeepsSpec)

/-- 'weirkeeperlaw14.CacheParts', WHERE WHAT IT READS IS OF BULK AT MOST 1048576: true; the input reads as it did. -/
def cachePartsUptoRow : OpenClaim := { program := "ythoffknkpogfhaa", sum := "5eb27cf8ee8ef537d458ef26ddd126cfee27764f2e3f47dda75fdb6be5ac8b77", func := "weirkeeper/weirkeeperlaw14.CacheParts", spec := "cacheParts", inPlace := ["slices.overlaps[weirkeeper/cache.Item]"], unfollowed := true, recurses := true, apart := false, narrowed := true }
def CachePartsUptoSaid : Prop := cachePartsUptoRow.holds Try.pinned (OpenSpec.upto cachePartsSpec)

/-- 'weirkeeperlaw14.CacheUses', WHERE WHAT IT READS IS OF BULK AT MOST 1048576: true; the input reads as it did. -/
def cacheUsesUptoRow : OpenClaim := { program := "ythoffknkpogfhaa", sum := "5eb27cf8ee8ef537d458ef26ddd126cfee27764f2e3f47dda75fdb6be5ac8b77", func := "weirkeeper/weirkeeperlaw14.CacheUses", spec := "cacheUses", inPlace := ["slices.overlaps[weirkeeper/cache.Item]"], unfollowed := true, recurses := true, apart := false, narrowed := true }
def CacheUsesUptoSaid : Prop := cacheUsesUptoRow.holds Try.pinned (OpenSpec.upto cacheUsesSpec)

/-- 'weirkeeperlaw14.CacheMost', WHERE WHAT IT READS IS OF BULK AT MOST 1048576: true; the input reads as it did. -/
def cacheMostUptoRow : OpenClaim := { program := "ythoffknkpogfhaa", sum := "5eb27cf8ee8ef537d458ef26ddd126cfee27764f2e3f47dda75fdb6be5ac8b77", func := "weirkeeper/weirkeeperlaw14.CacheMost", spec := "cacheMost", inPlace := ["slices.overlaps[weirkeeper/cache.Item]"], unfollowed := true, recurses := true, apart := false, narrowed := true }
def CacheMostUptoSaid : Prop := cacheMostUptoRow.holds Try.pinned (OpenSpec.upto cacheMostSpec)

end Rows
end Go.Proofs.Ythoffknkpogfhaa
