/- The second telling: leap, Leap, ahead. -/
import Derived.Test.YtijcbgjlofcdfaaLf3
namespace Go.Proofs.Ytijcbgjlofcdfaa
open Go.RowKit
set_option linter.unusedVariables false

theorem leap_r (l : Int) (w : World) (h0 : -1000000000000000 < l) (h1 : l < 1000000000000000) : Calls Try.prog 56 #[.int .i64 l] w fun e w' => e = .returned (.bool (lpL l)) ∧ w' = w := by
  have m1 := mod_r l 4 w (by omega) (by omega) (by omega) (by omega)
  have m2 := mod_r l 100 w (by omega) (by omega) (by omega) (by omega)
  have m3 := mod_r l 400 w (by omega) (by omega) (by omega) (by omega)
  have HM : Hid _ := And.intro m1 (And.intro m2 m3)
  have HE : Hid (lpL l = (l % 4 == 0 && (l % 100 != 0 || l % 400 == 0))) := (rfl : lpL l = (l % 4 == 0 && (l % 100 != 0 || l % 400 == 0)))
  clear m1 m2 m3
  generalize l % 4 = a at *
  generalize l % 100 = b at *
  generalize l % 400 = c at *
  by_cases ha : a = 0
  · by_cases hb : b = 0
    · by_cases hc : c = 0
      all_goals
        go_enter Try.func56, Try.ntmps56
        go_wp2_with (first | (go_at_call 53; with_reducible refine Calls.mono HM.out.1 ?_; rintro e w' ⟨rfl, rfl⟩) | (go_at_call 53; with_reducible refine Calls.mono HM.out.2.1 ?_; rintro e w' ⟨rfl, rfl⟩) | (go_at_call 53; with_reducible refine Calls.mono HM.out.2.2 ?_; rintro e w' ⟨rfl, rfl⟩))
        go_ret
        refine ⟨?_, rfl⟩
        rw [HE.out]
        simp [ha, hb, hc]
    · go_enter Try.func56, Try.ntmps56
      go_wp2_with (first | (go_at_call 53; with_reducible refine Calls.mono HM.out.1 ?_; rintro e w' ⟨rfl, rfl⟩) | (go_at_call 53; with_reducible refine Calls.mono HM.out.2.1 ?_; rintro e w' ⟨rfl, rfl⟩) | (go_at_call 53; with_reducible refine Calls.mono HM.out.2.2 ?_; rintro e w' ⟨rfl, rfl⟩))
      go_ret
      refine ⟨?_, rfl⟩
      rw [HE.out]
      simp [ha, hb]
  · go_enter Try.func56, Try.ntmps56
    go_wp2_with (first | (go_at_call 53; with_reducible refine Calls.mono HM.out.1 ?_; rintro e w' ⟨rfl, rfl⟩) | (go_at_call 53; with_reducible refine Calls.mono HM.out.2.1 ?_; rintro e w' ⟨rfl, rfl⟩) | (go_at_call 53; with_reducible refine Calls.mono HM.out.2.2 ?_; rintro e w' ⟨rfl, rfl⟩))
    go_ret
    refine ⟨?_, rfl⟩
    rw [HE.out]
    simp [ha]
end Go.Proofs.Ytijcbgjlofcdfaa
