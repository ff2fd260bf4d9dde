/- Go's division against the calendar's: plain. -/
namespace Go.Proofs.Ytijcbgjlofcdfaa
set_option linter.unusedVariables false

theorem tmod_neg {a b : Int} (hb : 0 < b) (h : a.tmod b < 0) : a.tmod b + b = a % b := by
  rw [Int.tmod_eq_emod] at h ⊢
  have := Int.emod_nonneg a (show b ≠ 0 by omega)
  split at h <;> rename_i c
  · omega
  · rw [if_neg c]; omega
theorem tmod_pos {a b : Int} (hb : 0 < b) (h : ¬ a.tmod b < 0) : a.tmod b = a % b := by
  rw [Int.tmod_eq_emod] at h ⊢
  have := Int.emod_lt_of_pos a hb
  split at h <;> rename_i c
  · rw [if_pos c]; omega
  · omega
theorem tdiv_fix {a b : Int} (hb : 0 < b) : (a - a % b).tdiv b = a / b := by
  have : a - a % b = b * (a / b) := by have := Int.emod_add_mul_ediv a b; omega
  rw [this, Int.mul_tdiv_cancel_left _ (by omega)]
theorem emod_in (a : Int) {b : Int} (hb : 0 < b) : 0 ≤ a % b ∧ a % b < b := ⟨Int.emod_nonneg _ (by omega), Int.emod_lt_of_pos _ hb⟩
end Go.Proofs.Ytijcbgjlofcdfaa
