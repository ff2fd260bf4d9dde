/- The second telling: Leap, ahead, Length. -/
import Derived.Test.YtijcbgjlofcdfaaLf4
namespace Go.Proofs.Ytijcbgjlofcdfaa
open Go.RowKit
set_option linter.unusedVariables false

theorem ln_in {y : Int} (h0 : -100000000000000 < y) (h1 : y < 100000000000000) : -1000000000000000 < lnY y ∧ lnY y < 1000000000000000 := by unfold lnY; split <;> omega
theorem Leap_r (y : Int) (w : World) (h0 : -100000000000000 < y) (h1 : y < 100000000000000) : Calls Try.prog 23 #[.int .i64 y] w fun e w' => e = .returned (.bool (lpL (lnY y))) ∧ w' = w := by
  have m1 := line_r y w (by omega) (by omega)
  have hl := ln_in h0 h1
  have m2 := leap_r (lnY y) w hl.1 hl.2
  have HM : Hid _ := And.intro m1 m2
  clear m1 m2
  go_enter Try.func23, Try.ntmps23
  go_wp2_with (first | (go_at_call 50; refine Calls.mono HM.out.1 ?_; rintro e w' ⟨rfl, rfl⟩) | (go_at_call 56; refine Calls.mono HM.out.2 ?_; rintro e w' ⟨rfl, rfl⟩))
  go_ret
  exact ⟨rfl, rfl⟩
theorem ahead_r (l : Int) (w : World) (h0 : -1000000000000000 < l) (h1 : l < 1000000000000000) : Calls Try.prog 55 #[.int .i64 l] w fun e w' => e = .returned (.int .i64 (ahd l)) ∧ w' = w := by
  have m1 := div_r (l + 3) 4 w (by omega) (by omega) (by omega) (by omega)
  have m2 := div_r (l + 99) 100 w (by omega) (by omega) (by omega) (by omega)
  have m3 := div_r (l + 399) 400 w (by omega) (by omega) (by omega) (by omega)
  have HM : Hid _ := And.intro m1 (And.intro m2 m3)
  have HE : Hid (ahd l = 365 * l + (l + 3) / 4 - (l + 99) / 100 + (l + 399) / 400) := (rfl : ahd l = _)
  have b1 : -1000000000000000 < (l + 3) / 4 ∧ (l + 3) / 4 < 1000000000000000 := by omega
  have b2 : -1000000000000000 < (l + 99) / 100 ∧ (l + 99) / 100 < 1000000000000000 := by omega
  have b3 : -1000000000000000 < (l + 399) / 400 ∧ (l + 399) / 400 < 1000000000000000 := by omega
  clear m1 m2 m3
  generalize (l + 3) / 4 = a at *
  generalize (l + 99) / 100 = b at *
  generalize (l + 399) / 400 = c at *
  obtain ⟨b11, b12⟩ := b1
  obtain ⟨b21, b22⟩ := b2
  obtain ⟨b31, b32⟩ := b3
  go_enter Try.func55, Try.ntmps55
  go_wp2_with (first | (go_at_call 51; with_reducible refine Calls.mono HM.out.1 ?_; rintro e w' ⟨rfl, rfl⟩) | (go_at_call 51; with_reducible refine Calls.mono HM.out.2.1 ?_; rintro e w' ⟨rfl, rfl⟩) | (go_at_call 51; with_reducible refine Calls.mono HM.out.2.2 ?_; rintro e w' ⟨rfl, rfl⟩))
  go_ret
  exact ⟨by rw [HE.out]; rfl, rfl⟩
theorem length_r (y m : Int) (w : World) (h0 : -100000000000000 < y) (h1 : y < 100000000000000) (hm : -1000000000000000 < m) (hm' : m < 1000000000000000) : Calls Try.prog 25 #[.int .i64 y, .int .i64 m] w fun e w' => e = .returned (.int .i64 (lenL (lnY y) m)) ∧ w' = w := by
  have m1 := Leap_r y w h0 h1
  have HM : Hid _ := And.intro m1 trivial
  clear m1
  have HE : Hid _ := (rfl : lenL (lnY y) m = _)
  unfold lenL at HE
  by_cases c2 : m = 2
  · subst c2
    cases hl : lpL (lnY y)
    all_goals
      rw [hl] at HM
      go_enter Try.func25, Try.ntmps25
      go_wp2_with (first | (go_at_call 23; refine Calls.mono HM.out.1 ?_; rintro e w' ⟨rfl, rfl⟩))
      go_ret
      exact ⟨by unfold lenL; simp [hl], rfl⟩
  · have e1 : lenL (lnY y) m = if m = 4 ∨ m = 6 ∨ m = 9 ∨ m = 11 then 30 else if 1 ≤ m ∧ m ≤ 12 then 31 else 0 := by unfold lenL; rw [if_neg c2]
    rw [e1]
    clear e1 HM HE
    by_cases i : 1 ≤ m ∧ m ≤ 12
    · have : m = 1 ∨ m = 3 ∨ m = 4 ∨ m = 5 ∨ m = 6 ∨ m = 7 ∨ m = 8 ∨ m = 9 ∨ m = 10 ∨ m = 11 ∨ m = 12 := by omega
      rcases this with rfl | rfl | rfl | rfl | rfl | rfl | rfl | rfl | rfl | rfl | rfl
      all_goals
        go_enter Try.func25, Try.ntmps25
        go_wp2_with fail
        go_ret
        exact ⟨rfl, rfl⟩
    · rw [if_neg (by omega), if_neg i]
      have n1 : ¬ m = 1 := by omega
      have n3 : ¬ m = 3 := by omega
      have n4 : ¬ m = 4 := by omega
      have n5 : ¬ m = 5 := by omega
      have n6 : ¬ m = 6 := by omega
      have n7 : ¬ m = 7 := by omega
      have n8 : ¬ m = 8 := by omega
      have n9 : ¬ m = 9 := by omega
      have n10 : ¬ m = 10 := by omega
      have n11 : ¬ m = 11 := by omega
      have n12 : ¬ m = 12 := by omega
      clear i
      go_enter Try.func25, Try.ntmps25
      go_wp2_with fail
      go_ret
      exact ⟨rfl, rfl⟩
end Go.Proofs.Ytijcbgjlofcdfaa
