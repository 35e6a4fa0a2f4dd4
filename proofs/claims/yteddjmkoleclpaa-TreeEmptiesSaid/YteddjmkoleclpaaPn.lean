/- The contracts of pend's functions at values: what the walks of the laws lean on. -/
import Derived.Test.YteddjmkoleclpaaQPush
import Derived.Test.YteddjmkoleclpaaQS
import Derived.Test.YteddjmkoleclpaaNBS
set_option linter.unusedVariables false
set_option linter.unusedSimpArgs false
namespace Go.Proofs.Yteddjmkoleclpaa
open Go.RowKit

theorem ppush_v {v u : Value} {l ns : List Nt} {w : World} (h : NV w v l) (g : NV w u ns) (hmax : l.length + ns.length ≤ 1000) :
    Calls Try.prog 22 #[v, u] w fun e w' => ∃ v', e = .returned (.tuple #[v', .int .i64 (pushE l ns)]) ∧ NV w' v' (pushA l ns) ∧ Below w.heap.size w w' := by
  obtain ⟨A, c, rfl, h1, _, h3⟩ := h
  obtain ⟨B, d, rfl, g1, _, g3⟩ := g
  exact ppush_any A c l B d ns w h1 g1 h3 g3 (by omega)
theorem psplit_v {v u : Value} {l : List Nt} {lows : List ByteArray} {w : World} (h : NV w v l) (g : SSV w u lows) (hn : l.length ≤ 1000) (hm : lows.length ≤ 1000) :
    Calls Try.prog 59 #[v, u] w fun e w' => ∃ v', e = .returned v' ∧ NVV w' v' (splitA l lows) ∧ Below w.heap.size w w' := by
  obtain ⟨A, c, rfl, h1, h2, h3⟩ := h
  obtain ⟨S, cs, rfl, g1⟩ := g
  exact psplit_any A c l S cs lows w h1 h2 h3 g1 (by omega) (by omega)
theorem pmost_v {v u : Value} {l : List Nt} {lows : List ByteArray} {w : World} (h : NV w v l) (g : SSV w u lows) (hn : l.length ≤ 1000) (hm : lows.length ≤ 1000) :
    Calls Try.prog 71 #[v, u] w fun e w' => ∃ m : Nat, e = .returned (.int .i64 m) ∧ MostA l lows m ∧ Below w.heap.size w w' := by
  obtain ⟨A, c, rfl, h1, h2, h3⟩ := h
  obtain ⟨S, cs, rfl, g1⟩ := g
  exact pmost_any A c l S cs lows w h1 h2 h3 g1 (by omega) (by omega)

end Go.Proofs.Yteddjmkoleclpaa
