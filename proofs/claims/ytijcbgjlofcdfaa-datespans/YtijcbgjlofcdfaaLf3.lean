/- The second telling: div, leap, Leap, ahead. -/
import Derived.Test.YtijcbgjlofcdfaaLf2
namespace Go.Proofs.Ytijcbgjlofcdfaa
open Go.RowKit
set_option linter.unusedVariables false

theorem div_r (a b : Int) (w : World) (h0 : -1000000000000000000 < a) (h1 : a < 1000000000000000000) (hb : 0 < b) (hb' : b < 1000000000000) : Calls Try.prog 51 #[.int .i64 a, .int .i64 b] w fun e w' => e = .returned (.int .i64 (a / b)) ∧ w' = w := by
  have hbn : ¬ b = 0 := by omega
  have hbm : ¬ b = -1 := by omega
  have hq := emod_in a hb
  have hd := tdiv_fix (a := a) hb
  have hm := mod_r a b w h0 h1 hb hb'
  have HM : Hid _ := And.intro hm trivial
  clear hm
  rw [← hd]
  clear hd
  generalize hr : a % b = r at *
  go_enter Try.func51, Try.ntmps51
  go_wp2_with (first | (go_at_call 53; refine Calls.mono HM.out.1 ?_; rintro e w' ⟨rfl, rfl⟩))
  go_ret
  exact ⟨rfl, rfl⟩
end Go.Proofs.Ytijcbgjlofcdfaa
