/- An int's bounds. -/
import Derived.Test.YtgaegajcejpmdaaGreatDoorHJ10
import Derived.ProofKit
namespace Go.Proofs.YtgaegajcejpmdaaGreatDoor
open Go.RowKit
theorem wf64 {a : Int} (h : (Lit.int .i64 a).wf = true) : -9223372036854775808 ≤ a ∧ a ≤ 9223372036854775807 := by
  simp [Lit.wf] at h
  have e1 : IntKind.i64.min = -9223372036854775808 := by decide
  have e2 : IntKind.i64.max = 9223372036854775807 := by decide
  omega
end Go.Proofs.YtgaegajcejpmdaaGreatDoor
