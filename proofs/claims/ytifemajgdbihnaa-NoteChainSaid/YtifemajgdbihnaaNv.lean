/- Values that are slices of notes. -/
import Derived.Test.YtifemajgdbihnaaWBoth
namespace Go.Proofs.Ytifemajgdbihnaa
open Go.RowKit

/-- A value that is a slice of these notes. -/
def NV (w : World) (v : Value) (l : List Nt) : Prop := ∃ A c, v = .slice A l.length c ∧ Nts w w.heap.size A l
theorem NV.on {w w' : World} {v : Value} {l : List Nt} (h : NV w v l) (hb : Below w.heap.size w w') : NV w' v l := by
  obtain ⟨A, c, e, hp⟩ := h
  exact ⟨A, c, e, hp.on hb⟩
theorem NV.push {w : World} {v : Value} {l : List Nt} (h : NV w v l) (o : Obj) : NV (w.alloc o) v l := h.on ((Below.refl _ w).alloc (Nat.le_refl _) o)
theorem NV.lit1 (w : World) (x : Nt) : NV (w.alloc (.cells #[.int .i64 x.kind, .string x.key, .string x.value, .int .u64 (x.n.toNat : Int)] 24)) (.slice (some ⟨w.heap.size, 0, none⟩) 1 1) [x] :=
  ⟨_, _, rfl, by simpa using nts_one w x rfl⟩
theorem done_nv (v : ByteArray) (has : Bool) {u : Value} {l : List Nt} {w : World} (h : NV w u l) (hn : l.length ≤ maxLen) :
    Calls Try.prog 10 #[.string v, .bool has, u] w fun e w' => e = .returned (.tuple #[.string (doneL v has l).1, .bool (doneL v has l).2]) ∧ Below w.heap.size w w' := by
  obtain ⟨A, c, rfl, hp⟩ := h
  exact done_any v has A c l w hp hn

end Go.Proofs.Ytifemajgdbihnaa
