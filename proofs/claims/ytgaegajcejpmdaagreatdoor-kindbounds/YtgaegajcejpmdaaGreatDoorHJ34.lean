/- Joined: HChSpec, HChBits, HChLeaf. -/
import Derived.WalkKit
import Derived.Laws.BitsAllLaws
import Derived.Laws.DeepBits32
import Derived.Test.YtgaegajcejpmdaaGreatDoorProg
import Derived.WalkSpells
import Derived.WalkLawsBesides
namespace Go.Proofs.YtgaegajcejpmdaaGreatDoor.Ch

def ann (c : Int) : Int := if c < 128 then 1 else if c < 192 then 0 else if c < 224 then 2 else if c < 240 then 3 else if c < 248 then 4 else 0
def wid (r : Int) : Int := if r < 0 then 0 else if r < 128 then 1 else if r < 2048 then 2 else if 55296 ≤ r ∧ r ≤ 57343 then 0 else if r < 65536 then 3 else if r ≤ 1114111 then 4 else 0
def isTl (c : Int) : Bool := decide (128 ≤ c ∧ c < 192)
def fin (r n : Int) : Int × Int := if wid r = n then (r, n) else (-1, 0)
def dec2 (c c1 : Int) : Int × Int := if isTl c1 = true then fin (c % 32 * 64 + c1 % 64) 2 else (-1, 0)
def dec3 (c c1 c2 : Int) : Int × Int := if isTl c1 = true ∧ isTl c2 = true then fin ((c % 16 * 64 + c1 % 64) * 64 + c2 % 64) 3 else (-1, 0)
def dec4 (c c1 c2 c3 : Int) : Int × Int := if isTl c1 = true ∧ isTl c2 = true ∧ isTl c3 = true then fin (((c % 8 * 64 + c1 % 64) * 64 + c2 % 64) * 64 + c3 % 64) 4 else (-1, 0)
def dec (l : List Int) : Int × Int :=
  if l.length = 0 then (-1, 0)
  else if l.getD 0 0 < 128 then (l.getD 0 0, 1)
  else if l.getD 0 0 < 192 then (-1, 0)
  else if l.getD 0 0 < 224 then if 2 ≤ l.length then dec2 (l.getD 0 0) (l.getD 1 0) else (-1, 0)
  else if l.getD 0 0 < 240 then if 3 ≤ l.length then dec3 (l.getD 0 0) (l.getD 1 0) (l.getD 2 0) else (-1, 0)
  else if l.getD 0 0 < 248 then if 4 ≤ l.length then dec4 (l.getD 0 0) (l.getD 1 0) (l.getD 2 0) (l.getD 3 0) else (-1, 0)
  else (-1, 0)

def isChar (r : Int) : Bool := decide (r = 9 ∨ r = 10 ∨ r = 13 ∨ (32 ≤ r ∧ r ≤ 55295) ∨ (57344 ≤ r ∧ r ≤ 65533) ∨ (65536 ≤ r ∧ r ≤ 1114111))
def isStart (r : Int) : Bool := decide ((65 ≤ r ∧ r ≤ 90) ∨ (97 ≤ r ∧ r ≤ 122) ∨ r = 95 ∨ r = 58 ∨ (192 ≤ r ∧ r ≠ 215 ∧ r ≠ 247 ∧ isChar r = true))
def isPart (r : Int) : Bool := decide (isStart r = true ∨ (48 ≤ r ∧ r ≤ 57) ∨ r = 45 ∨ r = 46 ∨ r = 183)
def isWhite (r : Int) : Bool := decide (r = 9 ∨ r = 10 ∨ r = 13 ∨ r = 32)

def enc (r : Int) : List Int :=
  if wid r = 1 then [r]
  else if wid r = 2 then [192 + r / 64, 128 + r % 64]
  else if wid r = 3 then [224 + r / 4096, 128 + r / 64 % 64, 128 + r % 64]
  else if wid r = 4 then [240 + r / 262144, 128 + r / 4096 % 64, 128 + r / 64 % 64, 128 + r % 64]
  else []

theorem wid_cases (r : Int) : wid r = 0 ∨ wid r = 1 ∨ wid r = 2 ∨ wid r = 3 ∨ wid r = 4 := by
  unfold wid
  repeat' (first | (split; (try simp)) | simp)
theorem dec_bd (l : List Int) : (dec l).2 = 0 ∨ (1 ≤ (dec l).2 ∧ (dec l).2 ≤ 4 ∧ (dec l).2 ≤ l.length) := by
  unfold dec dec2 dec3 dec4 fin
  repeat' split
  all_goals simp
  all_goals omega
end Go.Proofs.YtgaegajcejpmdaaGreatDoor.Ch
namespace Go.Proofs.YtgaegajcejpmdaaGreatDoor.Ch
open Go

theorem byteAll (p : Int → Bool) (h : (List.range 256).all (fun n => p (n : Int)) = true) (c : Int) (h0 : 0 ≤ c) (h1 : c < 256) : p c = true := by
  obtain ⟨n, rfl⟩ := Int.eq_ofNat_of_zero_le h0
  have := List.all_eq_true.1 h n (by simp; omega)
  simpa using this

theorem u8_and192 (c : Int) (h0 : 0 ≤ c) (h1 : c < 256) : bits .and .u8 c 192 = c / 64 * 64 := by
  have := byteAll (fun c => bits .and .u8 c 192 == c / 64 * 64) (by decide +kernel) c h0 h1
  simpa using this
theorem u8_and63 (c : Int) (h0 : 0 ≤ c) (h1 : c < 256) : bits .and .u8 c 63 = c % 64 := by
  have := byteAll (fun c => bits .and .u8 c 63 == c % 64) (by decide +kernel) c h0 h1
  simpa using this
theorem i64_and224 (c : Int) (h0 : 0 ≤ c) (h1 : c < 256) : bits .and .i64 c 224 = c / 32 * 32 := by
  have := byteAll (fun c => bits .and .i64 c 224 == c / 32 * 32) (by decide +kernel) c h0 h1
  simpa using this
theorem i64_and240 (c : Int) (h0 : 0 ≤ c) (h1 : c < 256) : bits .and .i64 c 240 = c / 16 * 16 := by
  have := byteAll (fun c => bits .and .i64 c 240 == c / 16 * 16) (by decide +kernel) c h0 h1
  simpa using this
theorem i64_and248 (c : Int) (h0 : 0 ≤ c) (h1 : c < 256) : bits .and .i64 c 248 = c / 8 * 8 := by
  have := byteAll (fun c => bits .and .i64 c 248 == c / 8 * 8) (by decide +kernel) c h0 h1
  simpa using this
theorem i64_and31 (c : Int) (h0 : 0 ≤ c) (h1 : c < 256) : bits .and .i64 c 31 = c % 32 := by
  have := byteAll (fun c => bits .and .i64 c 31 == c % 32) (by decide +kernel) c h0 h1
  simpa using this
theorem i64_and15 (c : Int) (h0 : 0 ≤ c) (h1 : c < 256) : bits .and .i64 c 15 = c % 16 := by
  have := byteAll (fun c => bits .and .i64 c 15 == c % 16) (by decide +kernel) c h0 h1
  simpa using this
theorem i64_and7 (c : Int) (h0 : 0 ≤ c) (h1 : c < 256) : bits .and .i64 c 7 = c % 8 := by
  have := byteAll (fun c => bits .and .i64 c 7 == c % 8) (by decide +kernel) c h0 h1
  simpa using this
theorem i32_and31 (c : Int) (h0 : 0 ≤ c) (h1 : c < 256) : bits .and .i32 c 31 = c % 32 := by
  have := byteAll (fun c => bits .and .i32 c 31 == c % 32) (by decide +kernel) c h0 h1
  simpa using this
theorem i32_and15 (c : Int) (h0 : 0 ≤ c) (h1 : c < 256) : bits .and .i32 c 15 = c % 16 := by
  have := byteAll (fun c => bits .and .i32 c 15 == c % 16) (by decide +kernel) c h0 h1
  simpa using this
theorem i32_and7 (c : Int) (h0 : 0 ≤ c) (h1 : c < 256) : bits .and .i32 c 7 = c % 8 := by
  have := byteAll (fun c => bits .and .i32 c 7 == c % 8) (by decide +kernel) c h0 h1
  simpa using this

theorem wrap_i64_small (n : Int) (h0 : 0 ≤ n) (h1 : n < 4294967296) : IntKind.i64.wrap n = n := by
  simp [IntKind.wrap, IntKind.bits, IntKind.signed]
  split <;> omega

theorem i32_and63 (x : Int) (h0 : 0 ≤ x) (h1 : x < 2147483648) : bits .and .i32 x 63 = x % 64 := by
  obtain ⟨n, rfl⟩ := Int.eq_ofNat_of_zero_le h0
  show IntKind.i32.wrap ((BitVec.ofInt 32 (n : Int) &&& BitVec.ofInt 32 63).toNat : Int) = _
  have h6 : (BitVec.ofInt 32 63).toNat = 63 := by decide
  rw [BitVec.toNat_and, ofInt_u32 n (by omega), h6, nat_mask6]
  rw [wrap_i32_small _ (by omega) (by omega)]; omega
theorem i64_and63 (x : Int) (h0 : 0 ≤ x) (h1 : x < 2147483648) : bits .and .i64 x 63 = x % 64 := by
  obtain ⟨n, rfl⟩ := Int.eq_ofNat_of_zero_le h0
  show IntKind.i64.wrap ((BitVec.ofInt 64 (n : Int) &&& BitVec.ofInt 64 63).toNat : Int) = _
  have h6 : (BitVec.ofInt 64 63).toNat = 63 := by decide
  rw [BitVec.toNat_and, ofInt_u64 n (by omega), h6, nat_mask6]
  rw [wrap_i64_small _ (by omega) (by omega)]; omega

theorem i32_join (k : Nat) (x y : Int) (h0 : 0 ≤ x) (h1 : x < 1073741824) (hx : x % (2 ^ k : Nat) = 0) (h2 : 0 ≤ y) (h3 : y < (2 ^ k : Nat)) (hk : y < 1073741824) : bits .or .i32 x y = x + y := by
  obtain ⟨n, rfl⟩ := Int.eq_ofNat_of_zero_le h0
  obtain ⟨m, rfl⟩ := Int.eq_ofNat_of_zero_le h2
  show IntKind.i32.wrap ((BitVec.ofInt 32 (n : Int) ||| BitVec.ofInt 32 (m : Int)).toNat : Int) = _
  rw [BitVec.toNat_or, ofInt_u32 n (by omega), ofInt_u32 m (by omega), nat_join k n m (by omega) (by omega)]
  rw [wrap_i32_small _ (by omega) (by omega)]; omega
theorem i64_join (k : Nat) (x y : Int) (h0 : 0 ≤ x) (h1 : x < 1073741824) (hx : x % (2 ^ k : Nat) = 0) (h2 : 0 ≤ y) (h3 : y < (2 ^ k : Nat)) (hk : y < 1073741824) : bits .or .i64 x y = x + y := by
  obtain ⟨n, rfl⟩ := Int.eq_ofNat_of_zero_le h0
  obtain ⟨m, rfl⟩ := Int.eq_ofNat_of_zero_le h2
  show IntKind.i64.wrap ((BitVec.ofInt 64 (n : Int) ||| BitVec.ofInt 64 (m : Int)).toNat : Int) = _
  rw [BitVec.toNat_or, ofInt_u64 n (by omega), ofInt_u64 m (by omega), nat_join k n m (by omega) (by omega)]
  rw [wrap_i64_small _ (by omega) (by omega)]; omega
end Go.Proofs.YtgaegajcejpmdaaGreatDoor.Ch
namespace Go.Proofs.YtgaegajcejpmdaaGreatDoor.Ch
open Go.RowKit

theorem ret_int {k : IntKind} {a b : Int} (h : a = b) : Ending.returned (.int k a) = .returned (.int k b) := by rw [h]
theorem ret_bool {a b : Bool} (h : a = b) : Ending.returned (.bool a) = .returned (.bool b) := by rw [h]

set_option maxHeartbeats 400000 in
theorem announced_any (c : Int) (w : World) (h0 : 0 ≤ c) (h1 : c < 256) :
    Calls Tryz.prog 173 #[.int .u8 c] w fun e w' => e = .returned (.int .i64 (ann c)) ∧ w' = w := by
  go_enter Tryz.func173, Tryz.ntmps173
  go_wp2
  all_goals
    go_ret
    refine ⟨ret_int ?_, rfl⟩
    simp only [beq_iff_eq, beq_eq_false_iff_ne] at *
    unfold ann
    repeat' split
    all_goals omega

set_option maxHeartbeats 400000 in
theorem width_any (r : Int) (w : World) :
    Calls Tryz.prog 174 #[.int .i32 r] w fun e w' => e = .returned (.int .i64 (wid r)) ∧ w' = w := by
  go_enter Tryz.func174, Tryz.ntmps174
  go_wp2
  all_goals
    go_ret
    refine ⟨ret_int ?_, rfl⟩
    unfold wid
    repeat' split
    all_goals omega

set_option maxHeartbeats 400000 in
theorem char_any (r : Int) (w : World) :
    Calls Tryz.prog 175 #[.int .i32 r] w fun e w' => e = .returned (.bool (isChar r)) ∧ w' = w := by
  go_enter Tryz.func175, Tryz.ntmps175
  go_wp2
  all_goals
    go_ret
    refine ⟨ret_bool ?_, rfl⟩
    unfold isChar
    rw [Bool.eq_iff_iff]
    simp at *
    omega

set_option maxHeartbeats 400000 in
theorem rchar_any (r : Int) (w : World) :
    Calls Tryz.prog 167 #[.int .i64 r] w fun e w' => e = .returned (.bool (isChar r)) ∧ w' = w := by
  go_enter Tryz.func167, Tryz.ntmps167
  go_wp2
  all_goals
    go_ret
    refine ⟨ret_bool ?_, rfl⟩
    unfold isChar
    rw [Bool.eq_iff_iff]
    simp at *
    omega

set_option maxHeartbeats 400000 in
theorem start_any (r : Int) (w : World) :
    Calls Tryz.prog 146 #[.int .i32 r] w fun e w' => e = .returned (.bool (isStart r)) ∧ w' = w := by
  go_enter Tryz.func146, Tryz.ntmps146
  go_wp2_with (go_at_call 175; refine (char_any _ _).mono ?_; rintro e w' ⟨rfl, rfl⟩)
  all_goals
    go_ret
    refine ⟨ret_bool ?_, rfl⟩
    unfold isStart
    rw [Bool.eq_iff_iff]
    generalize isChar r = z at *
    cases z <;> simp at * <;> omega

set_option maxHeartbeats 400000 in
theorem rstart_any (r : Int) (w : World) :
    Calls Tryz.prog 119 #[.int .i64 r] w fun e w' => e = .returned (.bool (isStart r)) ∧ w' = w := by
  go_enter Tryz.func119, Tryz.ntmps119
  go_wp2_with (go_at_call 167; refine (rchar_any _ _).mono ?_; rintro e w' ⟨rfl, rfl⟩)
  all_goals
    go_ret
    refine ⟨ret_bool ?_, rfl⟩
    unfold isStart
    rw [Bool.eq_iff_iff]
    generalize isChar r = z at *
    cases z <;> simp at * <;> omega

set_option maxHeartbeats 400000 in
theorem part_any (r : Int) (w : World) :
    Calls Tryz.prog 145 #[.int .i32 r] w fun e w' => e = .returned (.bool (isPart r)) ∧ w' = w := by
  go_enter Tryz.func145, Tryz.ntmps145
  go_wp2_with (go_at_call 146; refine (start_any _ _).mono ?_; rintro e w' ⟨rfl, rfl⟩)
  all_goals
    go_ret
    refine ⟨ret_bool ?_, rfl⟩
    unfold isPart
    rw [Bool.eq_iff_iff]
    generalize isStart r = z at *
    cases z <;> simp at * <;> omega

set_option maxHeartbeats 400000 in
theorem rpart_any (r : Int) (w : World) :
    Calls Tryz.prog 118 #[.int .i64 r] w fun e w' => e = .returned (.bool (isPart r)) ∧ w' = w := by
  go_enter Tryz.func118, Tryz.ntmps118
  go_wp2_with (go_at_call 119; refine (rstart_any _ _).mono ?_; rintro e w' ⟨rfl, rfl⟩)
  all_goals
    go_ret
    refine ⟨ret_bool ?_, rfl⟩
    unfold isPart
    rw [Bool.eq_iff_iff]
    generalize isStart r = z at *
    cases z <;> simp at * <;> omega

set_option maxHeartbeats 400000 in
theorem white_any (r : Int) (w : World) :
    Calls Tryz.prog 116 #[.int .i32 r] w fun e w' => e = .returned (.bool (isWhite r)) ∧ w' = w := by
  go_enter Tryz.func116, Tryz.ntmps116
  go_wp2
  all_goals
    go_ret
    refine ⟨ret_bool ?_, rfl⟩
    unfold isWhite
    rw [Bool.eq_iff_iff]
    simp at *
    omega

set_option maxHeartbeats 400000 in
theorem rwhite_any (r : Int) (w : World) :
    Calls Tryz.prog 65 #[.int .i64 r] w fun e w' => e = .returned (.bool (isWhite r)) ∧ w' = w := by
  go_enter Tryz.func65, Tryz.ntmps65
  go_wp2
  all_goals
    go_ret
    refine ⟨ret_bool ?_, rfl⟩
    unfold isWhite
    rw [Bool.eq_iff_iff]
    simp at *
    omega

end Go.Proofs.YtgaegajcejpmdaaGreatDoor.Ch
