/- A note in a block of its own: made, kept, written (layer 9's). -/
import Derived.Test.YtaboccbakicmhaaPP
import Derived.Test.YtaboccbakicmhaaNts
set_option linter.unusedVariables false
set_option linter.unusedSimpArgs false
namespace Go.Proofs.Ytaboccbakicmhaa
open Go.RowKit

theorem NBlk.nt0 (w : World) {g : Nat} (hg : g = w.heap.size) : NBlk (w.alloc (.cells #[.int .i64 0, .string ⟨#[]⟩, .string ⟨#[]⟩, .int .u64 0] 32)) g nt0 := by subst hg; exact Box.fresh w _ _
theorem NBlk.fresh (w : World) (x : Nt) {g : Nat} (hg : g = w.heap.size) : NBlk (w.alloc (.cells #[.int .i64 x.kind, .string x.key, .string x.value, .int .u64 (x.n.toNat : Int)] 32)) g x := by subst hg; exact Box.fresh w _ _
theorem NBlk.push {w : World} {g : Nat} {x : Nt} (h : NBlk w g x) (o : Obj) : NBlk (w.alloc o) g x := Box.push h o
theorem NBlk.put {w : World} {g : Nat} {x : Nt} (h : NBlk w g x) (q : Nt) :
    NBlk ((((w.setCell ⟨g, 0, none⟩ (.int .i64 q.kind)).setCell ⟨g, 1, none⟩ (.string q.key)).setCell ⟨g, 2, none⟩ (.string q.value)).setCell ⟨g, 3, none⟩ (.int .u64 (q.n.toNat : Int))) g q :=
  Box.set (Box.set (Box.set (Box.set h 0 _) 1 _) 2 _) 3 _
theorem NBlk.away4 {w : World} {g h : Nat} {x : Nt} (hx : NBlk w g x) (hg : g ≠ h) (a b c d : Value) : NBlk ((((w.setCell ⟨h, 0, none⟩ a).setCell ⟨h, 1, none⟩ b).setCell ⟨h, 2, none⟩ c).setCell ⟨h, 3, none⟩ d) g x :=
  Box.away (Box.away (Box.away (Box.away hx hg _) hg _) hg _) hg _
theorem NBlk.lt {w : World} {g : Nat} {x : Nt} (h : NBlk w g x) : g < w.heap.size := Box.lt h
theorem below_put {w w' : World} {B g : Nat} (h : Below B w w') (hg : B ≤ g) (a b c d : Value) : Below B w ((((w'.setCell ⟨g, 0, none⟩ a).setCell ⟨g, 1, none⟩ b).setCell ⟨g, 2, none⟩ c).setCell ⟨g, 3, none⟩ d) :=
  (((h.setCell hg _).setCell hg _).setCell hg _).setCell hg _

end Go.Proofs.Ytaboccbakicmhaa
