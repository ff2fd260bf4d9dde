/- Contracts of the small functions of package char and of the reference: announced, width, later, the classes. -/
import Derived.Test.YtgidbmiahckleaaRows
import Derived.Test.YtgidbmiahckleaaSpec
import Derived.Test.YtgidbmiahckleaaBits
import Derived.WalkKit
import Derived.WalkSpells
import Derived.WalkLawsBesides
namespace Go.Proofs.Ytgidbmiahckleaa
open Go.RowKit

theorem ret_int {k : IntKind} {a b : Int} (h : a = b) : Ending.returned (.int k a) = .returned (.int k b) := by rw [h]
theorem ret_bool {a b : Bool} (h : a = b) : Ending.returned (.bool a) = .returned (.bool b) := by rw [h]

set_option maxHeartbeats 400000 in
theorem announced_any (c : Int) (w : World) (h0 : 0 ≤ c) (h1 : c < 256) :
    Calls Try.prog 78 #[.int .u8 c] w fun e w' => e = .returned (.int .i64 (ann c)) ∧ w' = w := by
  go_enter Try.func78, Try.ntmps78
  go_wp2
  all_goals
    go_ret
    refine ⟨ret_int ?_, rfl⟩
    simp only [beq_iff_eq, beq_eq_false_iff_ne] at *
    unfold ann
    repeat' split
    all_goals omega

set_option maxHeartbeats 400000 in
theorem width_any (r : Int) (w : World) :
    Calls Try.prog 79 #[.int .i32 r] w fun e w' => e = .returned (.int .i64 (wid r)) ∧ w' = w := by
  go_enter Try.func79, Try.ntmps79
  go_wp2
  all_goals
    go_ret
    refine ⟨ret_int ?_, rfl⟩
    unfold wid
    repeat' split
    all_goals omega

set_option maxHeartbeats 400000 in
theorem char_any (r : Int) (w : World) :
    Calls Try.prog 80 #[.int .i32 r] w fun e w' => e = .returned (.bool (isChar r)) ∧ w' = w := by
  go_enter Try.func80, Try.ntmps80
  go_wp2
  all_goals
    go_ret
    refine ⟨ret_bool ?_, rfl⟩
    unfold isChar
    rw [Bool.eq_iff_iff]
    simp at *
    omega

set_option maxHeartbeats 400000 in
theorem rchar_any (r : Int) (w : World) :
    Calls Try.prog 83 #[.int .i64 r] w fun e w' => e = .returned (.bool (isChar r)) ∧ w' = w := by
  go_enter Try.func83, Try.ntmps83
  go_wp2
  all_goals
    go_ret
    refine ⟨ret_bool ?_, rfl⟩
    unfold isChar
    rw [Bool.eq_iff_iff]
    simp at *
    omega

set_option maxHeartbeats 400000 in
theorem start_any (r : Int) (w : World) :
    Calls Try.prog 65 #[.int .i32 r] w fun e w' => e = .returned (.bool (isStart r)) ∧ w' = w := by
  go_enter Try.func65, Try.ntmps65
  go_wp2_with (go_at_call 80; refine (char_any _ _).mono ?_; rintro e w' ⟨rfl, rfl⟩)
  all_goals
    go_ret
    refine ⟨ret_bool ?_, rfl⟩
    unfold isStart
    rw [Bool.eq_iff_iff]
    generalize isChar r = z at *
    cases z <;> simp at * <;> omega

set_option maxHeartbeats 400000 in
theorem rstart_any (r : Int) (w : World) :
    Calls Try.prog 70 #[.int .i64 r] w fun e w' => e = .returned (.bool (isStart r)) ∧ w' = w := by
  go_enter Try.func70, Try.ntmps70
  go_wp2_with (go_at_call 83; refine (rchar_any _ _).mono ?_; rintro e w' ⟨rfl, rfl⟩)
  all_goals
    go_ret
    refine ⟨ret_bool ?_, rfl⟩
    unfold isStart
    rw [Bool.eq_iff_iff]
    generalize isChar r = z at *
    cases z <;> simp at * <;> omega

set_option maxHeartbeats 400000 in
theorem part_any (r : Int) (w : World) :
    Calls Try.prog 81 #[.int .i32 r] w fun e w' => e = .returned (.bool (isPart r)) ∧ w' = w := by
  go_enter Try.func81, Try.ntmps81
  go_wp2_with (go_at_call 65; refine (start_any _ _).mono ?_; rintro e w' ⟨rfl, rfl⟩)
  all_goals
    go_ret
    refine ⟨ret_bool ?_, rfl⟩
    unfold isPart
    rw [Bool.eq_iff_iff]
    generalize isStart r = z at *
    cases z <;> simp at * <;> omega

set_option maxHeartbeats 400000 in
theorem rpart_any (r : Int) (w : World) :
    Calls Try.prog 84 #[.int .i64 r] w fun e w' => e = .returned (.bool (isPart r)) ∧ w' = w := by
  go_enter Try.func84, Try.ntmps84
  go_wp2_with (go_at_call 70; refine (rstart_any _ _).mono ?_; rintro e w' ⟨rfl, rfl⟩)
  all_goals
    go_ret
    refine ⟨ret_bool ?_, rfl⟩
    unfold isPart
    rw [Bool.eq_iff_iff]
    generalize isStart r = z at *
    cases z <;> simp at * <;> omega

end Go.Proofs.Ytgidbmiahckleaa
