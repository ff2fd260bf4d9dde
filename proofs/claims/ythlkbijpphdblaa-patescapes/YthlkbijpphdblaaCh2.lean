/- char: announced, width. -/
import Derived.Test.YthlkbijpphdblaaMm
import Derived.Test.YthlkbijpphdblaaCh0
import Derived.Test.YthlkbijpphdblaaCh1
namespace Go.Proofs.Ythlkbijpphdblaa
open Go.RowKit
set_option linter.unusedVariables false
set_option maxHeartbeats 400000 in
theorem announced_any (c : Int) (w : World) (h0 : 0 ≤ c) (h1 : c < 256) :
    Calls Try.prog 92 #[.int .u8 c] w fun e w' => e = .returned (.int .i64 (ann c)) ∧ w' = w := by
  go_enter Try.func92, Try.ntmps92
  go_wp2
  all_goals
    go_ret
    refine ⟨ret_int ?_, rfl⟩
    simp only [beq_iff_eq, beq_eq_false_iff_ne] at *
    unfold ann
    repeat' split
    all_goals omega
set_option maxHeartbeats 400000 in
theorem width_any (r : Int) (w : World) :
    Calls Try.prog 93 #[.int .i32 r] w fun e w' => e = .returned (.int .i64 (wid r)) ∧ w' = w := by
  go_enter Try.func93, Try.ntmps93
  go_wp2
  all_goals
    go_ret
    refine ⟨ret_int ?_, rfl⟩
    unfold wid
    repeat' split
    all_goals omega
end Go.Proofs.Ythlkbijpphdblaa
