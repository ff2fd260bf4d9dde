/- Contracts of the small functions of package char and of the reference: announced, width, later, the classes. -/
import Derived.Test.YtpghlafkkcffgaaRows
import Derived.Test.YtpghlafkkcffgaaSpec
import Derived.Test.YtpghlafkkcffgaaBits
import Derived.WalkKit
import Derived.WalkSpells
import Derived.WalkLawsBesides
namespace Go.Proofs.Ytpghlafkkcffgaa
open Go.RowKit

theorem ret_int {k : IntKind} {a b : Int} (h : a = b) : Ending.returned (.int k a) = .returned (.int k b) := by rw [h]
theorem ret_bool {a b : Bool} (h : a = b) : Ending.returned (.bool a) = .returned (.bool b) := by rw [h]

set_option maxHeartbeats 400000 in
theorem announced_any (c : Int) (w : World) (h0 : 0 ≤ c) (h1 : c < 256) :
    Calls Try.prog 29 #[.int .u8 c] w fun e w' => e = .returned (.int .i64 (ann c)) ∧ w' = w := by
  go_enter Try.func29, Try.ntmps29
  go_wp2
  all_goals
    go_ret
    refine ⟨ret_int ?_, rfl⟩
    simp only [beq_iff_eq, beq_eq_false_iff_ne] at *
    unfold ann
    repeat' split
    all_goals omega

set_option maxHeartbeats 400000 in
theorem later_any (r : Int) (w : World) (h0 : 0 ≤ r) (h1 : r < 2147483648) :
    Calls Try.prog 32 #[.int .i32 r] w fun e w' => e = .returned (.int .u8 (128 + r % 64)) ∧ w' = w := by
  go_enter Try.func32, Try.ntmps32
  go_wp2
  go_ret
  refine ⟨ret_int ?_, rfl⟩
  rw [i32_and63 r h0 h1, i32_join 6 128 (r % 64) (by omega) (by omega) (by omega) (by omega) (by omega) (by omega)]
  omega

set_option maxHeartbeats 400000 in
theorem width_any (r : Int) (w : World) :
    Calls Try.prog 30 #[.int .i32 r] w fun e w' => e = .returned (.int .i64 (wid r)) ∧ w' = w := by
  go_enter Try.func30, Try.ntmps30
  go_wp2
  all_goals
    go_ret
    refine ⟨ret_int ?_, rfl⟩
    unfold wid
    repeat' split
    all_goals omega

set_option maxHeartbeats 400000 in
theorem char_any (r : Int) (w : World) :
    Calls Try.prog 16 #[.int .i32 r] w fun e w' => e = .returned (.bool (isChar r)) ∧ w' = w := by
  go_enter Try.func16, Try.ntmps16
  go_wp2
  all_goals
    go_ret
    refine ⟨ret_bool ?_, rfl⟩
    unfold isChar
    rw [Bool.eq_iff_iff]
    simp at *
    omega

set_option maxHeartbeats 400000 in
theorem rchar_any (r : Int) (w : World) :
    Calls Try.prog 17 #[.int .i64 r] w fun e w' => e = .returned (.bool (isChar r)) ∧ w' = w := by
  go_enter Try.func17, Try.ntmps17
  go_wp2
  all_goals
    go_ret
    refine ⟨ret_bool ?_, rfl⟩
    unfold isChar
    rw [Bool.eq_iff_iff]
    simp at *
    omega

set_option maxHeartbeats 400000 in
theorem start_any (r : Int) (w : World) :
    Calls Try.prog 18 #[.int .i32 r] w fun e w' => e = .returned (.bool (isStart r)) ∧ w' = w := by
  go_enter Try.func18, Try.ntmps18
  go_wp2_with (go_at_call 16; refine (char_any _ _).mono ?_; rintro e w' ⟨rfl, rfl⟩)
  all_goals
    go_ret
    refine ⟨ret_bool ?_, rfl⟩
    unfold isStart
    rw [Bool.eq_iff_iff]
    generalize isChar r = z at *
    cases z <;> simp at * <;> omega

set_option maxHeartbeats 400000 in
theorem rstart_any (r : Int) (w : World) :
    Calls Try.prog 19 #[.int .i64 r] w fun e w' => e = .returned (.bool (isStart r)) ∧ w' = w := by
  go_enter Try.func19, Try.ntmps19
  go_wp2_with (go_at_call 17; refine (rchar_any _ _).mono ?_; rintro e w' ⟨rfl, rfl⟩)
  all_goals
    go_ret
    refine ⟨ret_bool ?_, rfl⟩
    unfold isStart
    rw [Bool.eq_iff_iff]
    generalize isChar r = z at *
    cases z <;> simp at * <;> omega

set_option maxHeartbeats 400000 in
theorem part_any (r : Int) (w : World) :
    Calls Try.prog 20 #[.int .i32 r] w fun e w' => e = .returned (.bool (isPart r)) ∧ w' = w := by
  go_enter Try.func20, Try.ntmps20
  go_wp2_with (go_at_call 18; refine (start_any _ _).mono ?_; rintro e w' ⟨rfl, rfl⟩)
  all_goals
    go_ret
    refine ⟨ret_bool ?_, rfl⟩
    unfold isPart
    rw [Bool.eq_iff_iff]
    generalize isStart r = z at *
    cases z <;> simp at * <;> omega

set_option maxHeartbeats 400000 in
theorem rpart_any (r : Int) (w : World) :
    Calls Try.prog 21 #[.int .i64 r] w fun e w' => e = .returned (.bool (isPart r)) ∧ w' = w := by
  go_enter Try.func21, Try.ntmps21
  go_wp2_with (go_at_call 19; refine (rstart_any _ _).mono ?_; rintro e w' ⟨rfl, rfl⟩)
  all_goals
    go_ret
    refine ⟨ret_bool ?_, rfl⟩
    unfold isPart
    rw [Bool.eq_iff_iff]
    generalize isStart r = z at *
    cases z <;> simp at * <;> omega

set_option maxHeartbeats 400000 in
theorem white_any (r : Int) (w : World) :
    Calls Try.prog 22 #[.int .i32 r] w fun e w' => e = .returned (.bool (isWhite r)) ∧ w' = w := by
  go_enter Try.func22, Try.ntmps22
  go_wp2
  all_goals
    go_ret
    refine ⟨ret_bool ?_, rfl⟩
    unfold isWhite
    rw [Bool.eq_iff_iff]
    simp at *
    omega

set_option maxHeartbeats 400000 in
theorem rwhite_any (r : Int) (w : World) :
    Calls Try.prog 23 #[.int .i64 r] w fun e w' => e = .returned (.bool (isWhite r)) ∧ w' = w := by
  go_enter Try.func23, Try.ntmps23
  go_wp2
  all_goals
    go_ret
    refine ⟨ret_bool ?_, rfl⟩
    unfold isWhite
    rw [Bool.eq_iff_iff]
    simp at *
    omega

end Go.Proofs.Ytpghlafkkcffgaa
