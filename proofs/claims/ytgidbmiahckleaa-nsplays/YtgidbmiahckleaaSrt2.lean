/- The sort of nothing. -/
import Derived.Test.YtgidbmiahckleaaSrt
namespace Go.Proofs.Ytgidbmiahckleaa
open Go.RowKit Go.Sort
set_option linter.unusedVariables false

theorem ins_nil (f : Value) (w : World) : Calls Try.prog 52 #[.slice none 0 0, .int .i64 0, .int .i64 0, f] w fun e w' => e = .returned (.tuple #[]) ∧ w' = w := by
  go_enter Try.func52, Try.ntmps52
  go_wp2_with fail
  go_loopg [8] 0 (fun m v8 wr => v8 = .int .i64 1 ∧ wr = w)
  case atStart => exact ⟨rfl, rfl⟩
  case round =>
    obtain ⟨rfl, rfl⟩ := hrel
    go_wp2_with fail
    go_end0
    exact ⟨rfl, rfl⟩
set_option maxRecDepth 100000 in
set_option maxHeartbeats 1600000 in
theorem pdq_nil (f lim : Value) (w : World) : Calls Try.prog 43 #[.slice none 0 0, .int .i64 0, .int .i64 0, lim, f] w fun e w' => e = .returned (.tuple #[]) ∧ w' = w := by
  have hi := ins_nil f w
  go_enter Try.func43, Try.ntmps43
  go_wp2_with fail
  go_loopg [1, 2] 0 (fun m v1 v2 wr => v1 = .int .i64 0 ∧ v2 = .int .i64 0 ∧ wr = w)
  case atStart => exact ⟨rfl, rfl, rfl⟩
  case round =>
    obtain ⟨rfl, rfl, rfl⟩ := hrel
    go_wp2_with (first | (go_at_call 52; refine Calls.mono hi ?_; rintro e w' ⟨rfl, rfl⟩))
    exact bodyPost_ret (v := .tuple #[]) (by simp [results, Try.results43, go_sem]) rfl ⟨rfl, rfl⟩
theorem sort_nil : SortNil := by
  intro w
  have hl : Calls Try.prog 44 #[.int .u64 0] w fun e w' => e = .returned (.int .i64 (Lib.bitLen 0 : Nat)) ∧ w' = w := by
    have h := Any.bits_Len (SlLaysF0.n15.bits (P := Try.prog) (ρ := sortB_ren) { sortB with }) 0 w (by omega) (by omega)
    exact h
  have hp := fun lim => pdq_nil (.func (.func 35) #[] #[]) lim w
  go_enter Try.func34, Try.ntmps34
  go_wp2_with (first | (go_at_call 44; refine Calls.mono hl ?_; rintro e w' ⟨rfl, rfl⟩) | (go_at_call 43; refine Calls.mono (hp _) ?_; rintro e w' ⟨rfl, rfl⟩))
  go_end0
  exact ⟨rfl, Below.refl _ _⟩
end Go.Proofs.Ytgidbmiahckleaa
