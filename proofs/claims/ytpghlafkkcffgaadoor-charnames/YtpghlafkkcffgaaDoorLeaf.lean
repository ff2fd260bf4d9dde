/- Contracts of the small functions of package char and of the reference: announced, width, later, the classes. -/
import Derived.Test.YtpghlafkkcffgaaDoorRows
import Derived.Test.YtpghlafkkcffgaaDoorSpec
import Derived.Test.YtpghlafkkcffgaaDoorBits
import Derived.WalkKit
import Derived.WalkSpells
import Derived.WalkLawsBesides
namespace Go.Proofs.YtpghlafkkcffgaaDoor
open Go.RowKit

theorem ret_int {k : IntKind} {a b : Int} (h : a = b) : Ending.returned (.int k a) = .returned (.int k b) := by rw [h]
theorem ret_bool {a b : Bool} (h : a = b) : Ending.returned (.bool a) = .returned (.bool b) := by rw [h]

set_option maxHeartbeats 400000 in
theorem announced_any (c : Int) (w : World) (h0 : 0 ≤ c) (h1 : c < 256) :
    Calls Tryd.prog 32 #[.int .u8 c] w fun e w' => e = .returned (.int .i64 (ann c)) ∧ w' = w := by
  go_enter Tryd.func32, Tryd.ntmps32
  go_wp2
  all_goals
    go_ret
    refine ⟨ret_int ?_, rfl⟩
    simp only [beq_iff_eq, beq_eq_false_iff_ne] at *
    unfold ann
    repeat' split
    all_goals omega

set_option maxHeartbeats 400000 in
theorem width_any (r : Int) (w : World) :
    Calls Tryd.prog 33 #[.int .i32 r] w fun e w' => e = .returned (.int .i64 (wid r)) ∧ w' = w := by
  go_enter Tryd.func33, Tryd.ntmps33
  go_wp2
  all_goals
    go_ret
    refine ⟨ret_int ?_, rfl⟩
    unfold wid
    repeat' split
    all_goals omega

set_option maxHeartbeats 400000 in
theorem char_any (r : Int) (w : World) :
    Calls Tryd.prog 35 #[.int .i32 r] w fun e w' => e = .returned (.bool (isChar r)) ∧ w' = w := by
  go_enter Tryd.func35, Tryd.ntmps35
  go_wp2
  all_goals
    go_ret
    refine ⟨ret_bool ?_, rfl⟩
    unfold isChar
    rw [Bool.eq_iff_iff]
    simp at *
    omega

set_option maxHeartbeats 400000 in
theorem rchar_any (r : Int) (w : World) :
    Calls Tryd.prog 37 #[.int .i64 r] w fun e w' => e = .returned (.bool (isChar r)) ∧ w' = w := by
  go_enter Tryd.func37, Tryd.ntmps37
  go_wp2
  all_goals
    go_ret
    refine ⟨ret_bool ?_, rfl⟩
    unfold isChar
    rw [Bool.eq_iff_iff]
    simp at *
    omega

set_option maxHeartbeats 400000 in
theorem start_any (r : Int) (w : World) :
    Calls Tryd.prog 22 #[.int .i32 r] w fun e w' => e = .returned (.bool (isStart r)) ∧ w' = w := by
  go_enter Tryd.func22, Tryd.ntmps22
  go_wp2_with (go_at_call 35; refine (char_any _ _).mono ?_; rintro e w' ⟨rfl, rfl⟩)
  all_goals
    go_ret
    refine ⟨ret_bool ?_, rfl⟩
    unfold isStart
    rw [Bool.eq_iff_iff]
    generalize isChar r = z at *
    cases z <;> simp at * <;> omega

set_option maxHeartbeats 400000 in
theorem rstart_any (r : Int) (w : World) :
    Calls Tryd.prog 24 #[.int .i64 r] w fun e w' => e = .returned (.bool (isStart r)) ∧ w' = w := by
  go_enter Tryd.func24, Tryd.ntmps24
  go_wp2_with (go_at_call 37; refine (rchar_any _ _).mono ?_; rintro e w' ⟨rfl, rfl⟩)
  all_goals
    go_ret
    refine ⟨ret_bool ?_, rfl⟩
    unfold isStart
    rw [Bool.eq_iff_iff]
    generalize isChar r = z at *
    cases z <;> simp at * <;> omega

set_option maxHeartbeats 400000 in
theorem part_any (r : Int) (w : World) :
    Calls Tryd.prog 26 #[.int .i32 r] w fun e w' => e = .returned (.bool (isPart r)) ∧ w' = w := by
  go_enter Tryd.func26, Tryd.ntmps26
  go_wp2_with (go_at_call 22; refine (start_any _ _).mono ?_; rintro e w' ⟨rfl, rfl⟩)
  all_goals
    go_ret
    refine ⟨ret_bool ?_, rfl⟩
    unfold isPart
    rw [Bool.eq_iff_iff]
    generalize isStart r = z at *
    cases z <;> simp at * <;> omega

set_option maxHeartbeats 400000 in
theorem rpart_any (r : Int) (w : World) :
    Calls Tryd.prog 27 #[.int .i64 r] w fun e w' => e = .returned (.bool (isPart r)) ∧ w' = w := by
  go_enter Tryd.func27, Tryd.ntmps27
  go_wp2_with (go_at_call 24; refine (rstart_any _ _).mono ?_; rintro e w' ⟨rfl, rfl⟩)
  all_goals
    go_ret
    refine ⟨ret_bool ?_, rfl⟩
    unfold isPart
    rw [Bool.eq_iff_iff]
    generalize isStart r = z at *
    cases z <;> simp at * <;> omega

set_option maxHeartbeats 400000 in
theorem white_any (r : Int) (w : World) :
    Calls Tryd.prog 39 #[.int .i32 r] w fun e w' => e = .returned (.bool (isWhite r)) ∧ w' = w := by
  go_enter Tryd.func39, Tryd.ntmps39
  go_wp2
  all_goals
    go_ret
    refine ⟨ret_bool ?_, rfl⟩
    unfold isWhite
    rw [Bool.eq_iff_iff]
    simp at *
    omega

set_option maxHeartbeats 400000 in
theorem rwhite_any (r : Int) (w : World) :
    Calls Tryd.prog 30 #[.int .i64 r] w fun e w' => e = .returned (.bool (isWhite r)) ∧ w' = w := by
  go_enter Tryd.func30, Tryd.ntmps30
  go_wp2
  all_goals
    go_ret
    refine ⟨ret_bool ?_, rfl⟩
    unfold isWhite
    rw [Bool.eq_iff_iff]
    simp at *
    omega

end Go.Proofs.YtpghlafkkcffgaaDoor
