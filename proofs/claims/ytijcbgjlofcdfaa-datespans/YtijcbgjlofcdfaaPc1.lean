/- The program's calendar: its small functions. -/
import Derived.Test.YtijcbgjlofcdfaaMem
import Derived.Test.YtijcbgjlofcdfaaCal2
namespace Go.Proofs.Ytijcbgjlofcdfaa
open Go.RowKit
set_option linter.unusedVariables false

theorem tdiv_neg {a b : Int} (hb : 0 < b) (h : a.tmod b < 0) : a.tdiv b - 1 = a / b := by
  rw [Int.tmod_eq_emod] at h
  rw [Int.tdiv_eq_ediv]
  have := Int.emod_nonneg a (show b ≠ 0 by omega)
  split at h <;> rename_i c
  · omega
  · rw [if_neg c, Int.sign_eq_one_of_pos hb]; omega
theorem tdiv_pos {a b : Int} (hb : 0 < b) (h : ¬ a.tmod b < 0) : a.tdiv b = a / b := by
  rw [Int.tmod_eq_emod] at h
  rw [Int.tdiv_eq_ediv]
  have := Int.emod_lt_of_pos a hb
  split at h <;> rename_i c
  · rw [if_pos c]; omega
  · omega
theorem placeOf_p (y : Int) (w : World) (h0 : -1000000000000000 < y) (h1 : y < 1000000000000000) : Calls Try.prog 48 #[.int .i64 y] w fun e w' => e = .returned (.int .i64 (lnY y)) ∧ w' = w := by
  unfold lnY
  by_cases h : y < 0
  · rw [if_pos h]
    go_enter Try.func48, Try.ntmps48
    go_wp2_with fail
    go_ret
    exact ⟨rfl, rfl⟩
  · rw [if_neg h]
    go_enter Try.func48, Try.ntmps48
    go_wp2_with fail
    go_ret
    exact ⟨rfl, rfl⟩
theorem yearAt_p (y : Int) (w : World) (h0 : -1000000000000000 < y) (h1 : y < 1000000000000000) : Calls Try.prog 47 #[.int .i64 y] w fun e w' => e = .returned (.int .i64 (bkY y)) ∧ w' = w := by
  unfold bkY
  by_cases h : y ≤ 0
  · rw [if_pos h]
    go_enter Try.func47, Try.ntmps47
    go_wp2_with fail
    go_ret
    exact ⟨rfl, rfl⟩
  · rw [if_neg h]
    go_enter Try.func47, Try.ntmps47
    go_wp2_with fail
    go_ret
    exact ⟨rfl, rfl⟩
set_option maxHeartbeats 400000 in
theorem carry_p (n b : Int) (w : World) (h0 : -1000000000000000000 < n) (h1 : n < 1000000000000000000) (hb : 0 < b) (hb' : b < 1000000000000) : Calls Try.prog 46 #[.int .i64 n, .int .i64 b] w fun e w' => e = .returned (.tuple #[.int .i64 (n / b), .int .i64 (n % b)]) ∧ ∃ q, w' = w.drewN q := by
  have hne : ¬ b = 0 := by omega
  have hn1 : ¬ b = -1 := by omega
  have hdb : -1000000000000000000 ≤ n / b ∧ n / b ≤ 1000000000000000000 := by
    have h2 : n / b ≤ 1000000000000000000 := by
      by_cases c : 0 ≤ n
      · have := Int.ediv_le_self b c; omega
      · have := Int.ediv_neg_of_neg_of_pos (show n < 0 by omega) hb; omega
    have h3 : -1000000000000000000 ≤ n / b := by
      have : -1000000000000000000 * b ≤ n := by
        have : 1 * 1000000000000000000 ≤ b * 1000000000000000000 := Int.mul_le_mul_of_nonneg_right (by omega) (by omega)
        omega
      exact (Int.le_ediv_iff_mul_le hb).2 this
    exact ⟨h3, h2⟩
  have hm := emod_in n hb
  obtain ⟨hd0, hd1⟩ := hdb
  obtain ⟨hm0, hm1⟩ := hm
  by_cases h : n.tmod b < 0
  · have e1 := tmod_neg hb h
    have e2 := tdiv_neg hb h
    rw [← e1] at hm0 hm1 ⊢
    rw [← e2] at hd0 hd1 ⊢
    clear e1 e2
    generalize hr : n.tmod b = r at *
    generalize hs : n.tdiv b = s at *
    go_enter Try.func46, Try.ntmps46
    go_wp2_with fail
    go_quiet (fail)
    go_wp2_with fail
    go_ret2
    exact ⟨rfl, _, rfl⟩
  · have e1 := tmod_pos hb h
    have e2 := tdiv_pos hb h
    rw [← e1] at hm0 hm1 ⊢
    rw [← e2] at hd0 hd1 ⊢
    clear e1 e2
    generalize hr : n.tmod b = r at *
    generalize hs : n.tdiv b = s at *
    go_enter Try.func46, Try.ntmps46
    go_wp2_with fail
    go_quiet (fail)
    go_wp2_with fail
    go_ret2
    exact ⟨rfl, _, rfl⟩
end Go.Proofs.Ytijcbgjlofcdfaa
