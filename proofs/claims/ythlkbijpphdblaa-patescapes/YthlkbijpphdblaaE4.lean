/- What the frame of a law needs. -/
import Derived.Test.YthlkbijpphdblaaE3
import Derived.ProofKit
import Derived.OpenShut
import Derived.ShutString
import Derived.ChangeOld
namespace Go.Proofs.Ythlkbijpphdblaa
open Go.RowKit
theorem wf8 {a : Int} (h : (Lit.int .u8 a).wf = true) : 0 ≤ a ∧ a < 256 := by
  have := range_u8 (zs := [a]) (by intro n hn; simp at hn; subst hn; exact h) 0
  simp at this
  omega
end Go.Proofs.Ythlkbijpphdblaa
