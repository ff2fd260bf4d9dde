/- Small facts on Go's bit operations at the numbers that occur in UTF-8. -/
import Derived.WalkKit
import Derived.Laws.BitsAllLaws
import Derived.Laws.DeepBits32
namespace Go.Proofs.YtknfipcegmajaaaDoor.Ch
open Go

theorem byteAll (p : Int → Bool) (h : (List.range 256).all (fun n => p (n : Int)) = true) (c : Int) (h0 : 0 ≤ c) (h1 : c < 256) : p c = true := by
  obtain ⟨n, rfl⟩ := Int.eq_ofNat_of_zero_le h0
  have := List.all_eq_true.1 h n (by simp; omega)
  simpa using this

theorem u8_and192 (c : Int) (h0 : 0 ≤ c) (h1 : c < 256) : bits .and .u8 c 192 = c / 64 * 64 := by
  have := byteAll (fun c => bits .and .u8 c 192 == c / 64 * 64) (by decide +kernel) c h0 h1
  simpa using this
theorem u8_and63 (c : Int) (h0 : 0 ≤ c) (h1 : c < 256) : bits .and .u8 c 63 = c % 64 := by
  have := byteAll (fun c => bits .and .u8 c 63 == c % 64) (by decide +kernel) c h0 h1
  simpa using this
theorem i64_and224 (c : Int) (h0 : 0 ≤ c) (h1 : c < 256) : bits .and .i64 c 224 = c / 32 * 32 := by
  have := byteAll (fun c => bits .and .i64 c 224 == c / 32 * 32) (by decide +kernel) c h0 h1
  simpa using this
theorem i64_and240 (c : Int) (h0 : 0 ≤ c) (h1 : c < 256) : bits .and .i64 c 240 = c / 16 * 16 := by
  have := byteAll (fun c => bits .and .i64 c 240 == c / 16 * 16) (by decide +kernel) c h0 h1
  simpa using this
theorem i64_and248 (c : Int) (h0 : 0 ≤ c) (h1 : c < 256) : bits .and .i64 c 248 = c / 8 * 8 := by
  have := byteAll (fun c => bits .and .i64 c 248 == c / 8 * 8) (by decide +kernel) c h0 h1
  simpa using this
theorem i64_and31 (c : Int) (h0 : 0 ≤ c) (h1 : c < 256) : bits .and .i64 c 31 = c % 32 := by
  have := byteAll (fun c => bits .and .i64 c 31 == c % 32) (by decide +kernel) c h0 h1
  simpa using this
theorem i64_and15 (c : Int) (h0 : 0 ≤ c) (h1 : c < 256) : bits .and .i64 c 15 = c % 16 := by
  have := byteAll (fun c => bits .and .i64 c 15 == c % 16) (by decide +kernel) c h0 h1
  simpa using this
theorem i64_and7 (c : Int) (h0 : 0 ≤ c) (h1 : c < 256) : bits .and .i64 c 7 = c % 8 := by
  have := byteAll (fun c => bits .and .i64 c 7 == c % 8) (by decide +kernel) c h0 h1
  simpa using this
theorem i32_and31 (c : Int) (h0 : 0 ≤ c) (h1 : c < 256) : bits .and .i32 c 31 = c % 32 := by
  have := byteAll (fun c => bits .and .i32 c 31 == c % 32) (by decide +kernel) c h0 h1
  simpa using this
theorem i32_and15 (c : Int) (h0 : 0 ≤ c) (h1 : c < 256) : bits .and .i32 c 15 = c % 16 := by
  have := byteAll (fun c => bits .and .i32 c 15 == c % 16) (by decide +kernel) c h0 h1
  simpa using this
theorem i32_and7 (c : Int) (h0 : 0 ≤ c) (h1 : c < 256) : bits .and .i32 c 7 = c % 8 := by
  have := byteAll (fun c => bits .and .i32 c 7 == c % 8) (by decide +kernel) c h0 h1
  simpa using this

theorem wrap_i64_small (n : Int) (h0 : 0 ≤ n) (h1 : n < 4294967296) : IntKind.i64.wrap n = n := by
  simp [IntKind.wrap, IntKind.bits, IntKind.signed]
  split <;> omega

theorem i32_and63 (x : Int) (h0 : 0 ≤ x) (h1 : x < 2147483648) : bits .and .i32 x 63 = x % 64 := by
  obtain ⟨n, rfl⟩ := Int.eq_ofNat_of_zero_le h0
  show IntKind.i32.wrap ((BitVec.ofInt 32 (n : Int) &&& BitVec.ofInt 32 63).toNat : Int) = _
  have h6 : (BitVec.ofInt 32 63).toNat = 63 := by decide
  rw [BitVec.toNat_and, ofInt_u32 n (by omega), h6, nat_mask6]
  rw [wrap_i32_small _ (by omega) (by omega)]; omega
theorem i64_and63 (x : Int) (h0 : 0 ≤ x) (h1 : x < 2147483648) : bits .and .i64 x 63 = x % 64 := by
  obtain ⟨n, rfl⟩ := Int.eq_ofNat_of_zero_le h0
  show IntKind.i64.wrap ((BitVec.ofInt 64 (n : Int) &&& BitVec.ofInt 64 63).toNat : Int) = _
  have h6 : (BitVec.ofInt 64 63).toNat = 63 := by decide
  rw [BitVec.toNat_and, ofInt_u64 n (by omega), h6, nat_mask6]
  rw [wrap_i64_small _ (by omega) (by omega)]; omega

theorem i32_join (k : Nat) (x y : Int) (h0 : 0 ≤ x) (h1 : x < 1073741824) (hx : x % (2 ^ k : Nat) = 0) (h2 : 0 ≤ y) (h3 : y < (2 ^ k : Nat)) (hk : y < 1073741824) : bits .or .i32 x y = x + y := by
  obtain ⟨n, rfl⟩ := Int.eq_ofNat_of_zero_le h0
  obtain ⟨m, rfl⟩ := Int.eq_ofNat_of_zero_le h2
  show IntKind.i32.wrap ((BitVec.ofInt 32 (n : Int) ||| BitVec.ofInt 32 (m : Int)).toNat : Int) = _
  rw [BitVec.toNat_or, ofInt_u32 n (by omega), ofInt_u32 m (by omega), nat_join k n m (by omega) (by omega)]
  rw [wrap_i32_small _ (by omega) (by omega)]; omega
theorem i64_join (k : Nat) (x y : Int) (h0 : 0 ≤ x) (h1 : x < 1073741824) (hx : x % (2 ^ k : Nat) = 0) (h2 : 0 ≤ y) (h3 : y < (2 ^ k : Nat)) (hk : y < 1073741824) : bits .or .i64 x y = x + y := by
  obtain ⟨n, rfl⟩ := Int.eq_ofNat_of_zero_le h0
  obtain ⟨m, rfl⟩ := Int.eq_ofNat_of_zero_le h2
  show IntKind.i64.wrap ((BitVec.ofInt 64 (n : Int) ||| BitVec.ofInt 64 (m : Int)).toNat : Int) = _
  rw [BitVec.toNat_or, ofInt_u64 n (by omega), ofInt_u64 m (by omega), nat_join k n m (by omega) (by omega)]
  rw [wrap_i64_small _ (by omega) (by omega)]; omega
end Go.Proofs.YtknfipcegmajaaaDoor.Ch
