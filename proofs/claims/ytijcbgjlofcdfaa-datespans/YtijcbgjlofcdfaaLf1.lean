/- The second telling: the calendar's small functions. -/
import Derived.Test.YtijcbgjlofcdfaaProg
import Derived.Test.YtijcbgjlofcdfaaCal0
import Derived.Test.YtijcbgjlofcdfaaCal1
import Derived.WalkKit
import Derived.WalkSpells
import Derived.WalkLawsBesides
import Derived.Below
import Derived.Carry
import Derived.BigQuiet
import Derived.Deep.LoopGhost
import Derived.Deep.DeepCutAuto
namespace Go.Proofs.Ytijcbgjlofcdfaa
open Go.RowKit
set_option linter.unusedVariables false

theorem line_r (y : Int) (w : World) (h0 : -1000000000000000 < y) (h1 : y < 1000000000000000) : Calls Try.prog 50 #[.int .i64 y] w fun e w' => e = .returned (.int .i64 (lnY y)) ∧ w' = w := by
  unfold lnY
  by_cases h : y < 0
  · rw [if_pos h]
    go_enter Try.func50, Try.ntmps50
    go_wp2_with fail
    go_ret
    exact ⟨rfl, rfl⟩
  · rw [if_neg h]
    go_enter Try.func50, Try.ntmps50
    go_wp2_with fail
    go_ret
    exact ⟨rfl, rfl⟩
theorem back_r (y : Int) (w : World) (h0 : -1000000000000000 < y) (h1 : y < 1000000000000000) : Calls Try.prog 52 #[.int .i64 y] w fun e w' => e = .returned (.int .i64 (bkY y)) ∧ w' = w := by
  unfold bkY
  by_cases h : y ≤ 0
  · rw [if_pos h]
    go_enter Try.func52, Try.ntmps52
    go_wp2_with fail
    go_ret
    exact ⟨rfl, rfl⟩
  · rw [if_neg h]
    go_enter Try.func52, Try.ntmps52
    go_wp2_with fail
    go_ret
    exact ⟨rfl, rfl⟩
end Go.Proofs.Ytijcbgjlofcdfaa
