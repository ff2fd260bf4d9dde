/- The second telling: mod, div. -/
import Derived.Test.YtijcbgjlofcdfaaLf1
namespace Go.Proofs.Ytijcbgjlofcdfaa
open Go.RowKit
set_option linter.unusedVariables false

theorem mod_r (a b : Int) (w : World) (h0 : -1000000000000000000 < a) (h1 : a < 1000000000000000000) (hb : 0 < b) (hb' : b < 1000000000000) : Calls Try.prog 53 #[.int .i64 a, .int .i64 b] w fun e w' => e = .returned (.int .i64 (a % b)) ∧ w' = w := by
  have hbn : ¬ b = 0 := by omega
  have hq := emod_in a hb
  by_cases h : a.tmod b < 0
  · have e := tmod_neg hb h
    have hE : Hid _ := And.intro e hq
    have hlo : -1000000000000 < a.tmod b := by omega
    rw [← e]
    clear e hq
    generalize hr : a.tmod b = r at *
    go_enter Try.func53, Try.ntmps53
    go_wp2_with fail
    go_ret
    exact ⟨rfl, rfl⟩
  · have e := tmod_pos hb h
    rw [← e] at hq ⊢
    clear e
    generalize hr : a.tmod b = r at *
    go_enter Try.func53, Try.ntmps53
    go_wp2_with fail
    go_ret
    exact ⟨rfl, rfl⟩
end Go.Proofs.Ytijcbgjlofcdfaa
