/- SetOrders: the walk, of any row. -/
import Derived.Test.YteddjjabbehfdaaO1
namespace Go.Proofs.Yteddjjabbehfdaa
open Go.RowKit
theorem orders_v (v : Value) (l : List Rg) (cut : Int) (w : World) (h : Sl .i32 w v l) : Calls Try.prog 6 #[v, .int .i64 cut] w fun e w' => e = .returned (.bool true) ∧ Below w.heap.size w w' := by
  obtain ⟨a, c, rfl, _⟩ := h.len
  exact orders_s a c l cut w h
end Go.Proofs.Yteddjjabbehfdaa
