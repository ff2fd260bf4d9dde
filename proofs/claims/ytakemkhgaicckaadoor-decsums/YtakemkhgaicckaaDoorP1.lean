/- The program's contracts, together. -/
import Derived.Test.YtakemkhgaicckaaDoorD3
import Derived.Test.YtakemkhgaicckaaDoorD6
import Derived.Test.YtakemkhgaicckaaDoorD7
import Derived.Test.YtakemkhgaicckaaDoorD8
import Derived.Test.YtakemkhgaicckaaDoorD9
import Derived.Test.YtakemkhgaicckaaDoorE5
namespace Go.Proofs.YtakemkhgaicckaaDoor
open Go.RowKit
set_option linter.unusedVariables false

theorem prg : Prg where
  parse := parse_p
  right := fun h neg sc h0 h1 => right_p h neg sc h0 h1
  text := fun h => text_p h
  total := fun h => total_p h
  frac := fun h => frac_p h.bt _ _
  whole := fun {w v n} h => by
    have := whole_p h.bt n.1 n.2.2
    have e : (((n.2.2 : Nat) : Int) == 0) = decide (n.2.2 = 0) := by
      rw [Bool.eq_iff_iff]; simp
    rwa [e] at this
  cmp := fun h h' => cmp_p h h'
  add := fun h h' => add_p h h'
  neg := fun h => neg_p h
end Go.Proofs.YtakemkhgaicckaaDoor
