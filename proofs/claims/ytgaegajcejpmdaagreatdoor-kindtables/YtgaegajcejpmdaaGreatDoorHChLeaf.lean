/- Contracts of the small functions of package char and of the reference: announced, width, later, the classes. -/
import Derived.Test.YtgaegajcejpmdaaGreatDoorProg
import Derived.Test.YtgaegajcejpmdaaGreatDoorHJ35
import Derived.WalkKit
import Derived.WalkSpells
import Derived.WalkLawsBesides
namespace Go.Proofs.YtgaegajcejpmdaaGreatDoor.Ch
open Go.RowKit

theorem ret_int {k : IntKind} {a b : Int} (h : a = b) : Ending.returned (.int k a) = .returned (.int k b) := by rw [h]
theorem ret_bool {a b : Bool} (h : a = b) : Ending.returned (.bool a) = .returned (.bool b) := by rw [h]

set_option maxHeartbeats 400000 in
theorem announced_any (c : Int) (w : World) (h0 : 0 ≤ c) (h1 : c < 256) :
    Calls Tryz.prog 173 #[.int .u8 c] w fun e w' => e = .returned (.int .i64 (ann c)) ∧ w' = w := by
  go_enter Tryz.func173, Tryz.ntmps173
  go_wp2
  all_goals
    go_ret
    refine ⟨ret_int ?_, rfl⟩
    simp only [beq_iff_eq, beq_eq_false_iff_ne] at *
    unfold ann
    repeat' split
    all_goals omega

set_option maxHeartbeats 400000 in
theorem width_any (r : Int) (w : World) :
    Calls Tryz.prog 174 #[.int .i32 r] w fun e w' => e = .returned (.int .i64 (wid r)) ∧ w' = w := by
  go_enter Tryz.func174, Tryz.ntmps174
  go_wp2
  all_goals
    go_ret
    refine ⟨ret_int ?_, rfl⟩
    unfold wid
    repeat' split
    all_goals omega

set_option maxHeartbeats 400000 in
theorem char_any (r : Int) (w : World) :
    Calls Tryz.prog 175 #[.int .i32 r] w fun e w' => e = .returned (.bool (isChar r)) ∧ w' = w := by
  go_enter Tryz.func175, Tryz.ntmps175
  go_wp2
  all_goals
    go_ret
    refine ⟨ret_bool ?_, rfl⟩
    unfold isChar
    rw [Bool.eq_iff_iff]
    simp at *
    omega

set_option maxHeartbeats 400000 in
theorem rchar_any (r : Int) (w : World) :
    Calls Tryz.prog 167 #[.int .i64 r] w fun e w' => e = .returned (.bool (isChar r)) ∧ w' = w := by
  go_enter Tryz.func167, Tryz.ntmps167
  go_wp2
  all_goals
    go_ret
    refine ⟨ret_bool ?_, rfl⟩
    unfold isChar
    rw [Bool.eq_iff_iff]
    simp at *
    omega

set_option maxHeartbeats 400000 in
theorem start_any (r : Int) (w : World) :
    Calls Tryz.prog 146 #[.int .i32 r] w fun e w' => e = .returned (.bool (isStart r)) ∧ w' = w := by
  go_enter Tryz.func146, Tryz.ntmps146
  go_wp2_with (go_at_call 175; refine (char_any _ _).mono ?_; rintro e w' ⟨rfl, rfl⟩)
  all_goals
    go_ret
    refine ⟨ret_bool ?_, rfl⟩
    unfold isStart
    rw [Bool.eq_iff_iff]
    generalize isChar r = z at *
    cases z <;> simp at * <;> omega

set_option maxHeartbeats 400000 in
theorem rstart_any (r : Int) (w : World) :
    Calls Tryz.prog 119 #[.int .i64 r] w fun e w' => e = .returned (.bool (isStart r)) ∧ w' = w := by
  go_enter Tryz.func119, Tryz.ntmps119
  go_wp2_with (go_at_call 167; refine (rchar_any _ _).mono ?_; rintro e w' ⟨rfl, rfl⟩)
  all_goals
    go_ret
    refine ⟨ret_bool ?_, rfl⟩
    unfold isStart
    rw [Bool.eq_iff_iff]
    generalize isChar r = z at *
    cases z <;> simp at * <;> omega

set_option maxHeartbeats 400000 in
theorem part_any (r : Int) (w : World) :
    Calls Tryz.prog 145 #[.int .i32 r] w fun e w' => e = .returned (.bool (isPart r)) ∧ w' = w := by
  go_enter Tryz.func145, Tryz.ntmps145
  go_wp2_with (go_at_call 146; refine (start_any _ _).mono ?_; rintro e w' ⟨rfl, rfl⟩)
  all_goals
    go_ret
    refine ⟨ret_bool ?_, rfl⟩
    unfold isPart
    rw [Bool.eq_iff_iff]
    generalize isStart r = z at *
    cases z <;> simp at * <;> omega

set_option maxHeartbeats 400000 in
theorem rpart_any (r : Int) (w : World) :
    Calls Tryz.prog 118 #[.int .i64 r] w fun e w' => e = .returned (.bool (isPart r)) ∧ w' = w := by
  go_enter Tryz.func118, Tryz.ntmps118
  go_wp2_with (go_at_call 119; refine (rstart_any _ _).mono ?_; rintro e w' ⟨rfl, rfl⟩)
  all_goals
    go_ret
    refine ⟨ret_bool ?_, rfl⟩
    unfold isPart
    rw [Bool.eq_iff_iff]
    generalize isStart r = z at *
    cases z <;> simp at * <;> omega

set_option maxHeartbeats 400000 in
theorem white_any (r : Int) (w : World) :
    Calls Tryz.prog 116 #[.int .i32 r] w fun e w' => e = .returned (.bool (isWhite r)) ∧ w' = w := by
  go_enter Tryz.func116, Tryz.ntmps116
  go_wp2
  all_goals
    go_ret
    refine ⟨ret_bool ?_, rfl⟩
    unfold isWhite
    rw [Bool.eq_iff_iff]
    simp at *
    omega

set_option maxHeartbeats 400000 in
theorem rwhite_any (r : Int) (w : World) :
    Calls Tryz.prog 65 #[.int .i64 r] w fun e w' => e = .returned (.bool (isWhite r)) ∧ w' = w := by
  go_enter Tryz.func65, Tryz.ntmps65
  go_wp2
  all_goals
    go_ret
    refine ⟨ret_bool ?_, rfl⟩
    unfold isWhite
    rw [Bool.eq_iff_iff]
    simp at *
    omega

end Go.Proofs.YtgaegajcejpmdaaGreatDoor.Ch
