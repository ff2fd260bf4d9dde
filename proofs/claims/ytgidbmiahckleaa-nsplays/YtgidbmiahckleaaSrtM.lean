/- Rows of bindings and the order of strings: plain. -/
import Derived.Test.YtgidbmiahckleaaNs15
namespace Go.Proofs.Ytgidbmiahckleaa
open Go.RowKit
set_option linter.unusedVariables false

theorem cmp_self : ∀ a : List UInt8, Lib.compareBytes a a = 0
  | [] => rfl
  | x :: a => by
    have hx : ¬ x < x := by simp
    unfold Lib.compareBytes
    rw [if_neg hx, if_neg hx]
    exact cmp_self a
theorem cmp_neg : ∀ a b : List UInt8, Lib.compareBytes b a = - Lib.compareBytes a b
  | [], [] => rfl
  | [], _ :: _ => rfl
  | _ :: _, [] => rfl
  | x :: a, y :: b => by
    unfold Lib.compareBytes
    by_cases h1 : x < y
    · have h2 : ¬ y < x := fun h => absurd (UInt8.lt_trans h1 h) (by simp)
      rw [if_neg h2, if_pos h1, if_pos h1]
      rfl
    · by_cases h2 : y < x
      · rw [if_pos h2, if_neg h1, if_pos h2]
      · rw [if_neg h2, if_neg h1, if_neg h1, if_neg h2]
        exact cmp_neg a b
theorem u8_eq {x y : UInt8} (h1 : ¬ x < y) (h2 : ¬ y < x) : x = y := by
  rw [UInt8.lt_iff_toNat_lt] at h1 h2
  exact UInt8.toNat_inj.1 (by omega)
theorem cmp_zero : ∀ a b : List UInt8, Lib.compareBytes a b = 0 → a = b
  | [], [], _ => rfl
  | [], _ :: _, h => by simp [Lib.compareBytes] at h
  | _ :: _, [], h => by simp [Lib.compareBytes] at h
  | x :: a, y :: b, h => by
    unfold Lib.compareBytes at h
    by_cases h1 : x < y
    · rw [if_pos h1] at h; exact absurd h (by decide)
    · by_cases h2 : y < x
      · rw [if_neg h1, if_pos h2] at h; exact absurd h (by decide)
      · rw [if_neg h1, if_neg h2] at h
        rw [cmp_zero a b h, u8_eq h1 h2]
theorem cmp_trans : ∀ a b c : List UInt8, Lib.compareBytes a b < 0 → Lib.compareBytes b c < 0 → Lib.compareBytes a c < 0
  | [], [], _, h, _ => absurd h (by decide)
  | [], _ :: _, [], _, h => absurd h (by unfold Lib.compareBytes; decide)
  | [], _ :: _, _ :: _, _, _ => by unfold Lib.compareBytes; decide
  | _ :: _, [], _, h, _ => absurd h (by unfold Lib.compareBytes; decide)
  | _ :: _, _ :: _, [], _, h => absurd h (by unfold Lib.compareBytes; decide)
  | x :: a, y :: b, z :: c, h, k => by
    unfold Lib.compareBytes at h k ⊢
    by_cases h1 : x < y
    · by_cases k1 : y < z
      · rw [if_pos (UInt8.lt_trans h1 k1)]
        decide
      · by_cases k2 : z < y
        · rw [if_neg k1, if_pos k2] at k; exact absurd k (by decide)
        · rw [u8_eq k1 k2] at h1
          rw [if_pos h1]
          decide
    · by_cases h2 : y < x
      · rw [if_neg h1, if_pos h2] at h; exact absurd h (by decide)
      · have e := u8_eq h1 h2
        subst e
        rw [if_neg h1, if_neg h1] at h
        by_cases k1 : x < z
        · rw [if_pos k1]; decide
        · by_cases k2 : z < x
          · rw [if_neg k1, if_pos k2] at k; exact absurd k (by decide)
          · rw [if_neg k1, if_neg k2] at k ⊢
            exact cmp_trans a b c h k
theorem bc_get : ∀ (l : Bs) (t : Nat), t < l.length * 2 → (l.flatMap bc)[t]? = some ((bc l.toArray[t / 2]!)[t % 2]!)
  | [], t, h => by simp at h
  | p :: l, 0, h => by simp [bc]
  | p :: l, 1, h => by simp [bc]
  | p :: l, t + 2, h => by
    have ih := bc_get l t (by simp at h; omega)
    rw [List.flatMap_cons, List.getElem?_append_right (by simp [bc])]
    have e1 : t + 2 - (bc p).length = t := by simp [bc]
    have e2 : (t + 2) / 2 = t / 2 + 1 := by omega
    have e3 : (t + 2) % 2 = t % 2 := by omega
    rw [e1, ih, e2, e3]
    simp
theorem bc_len (l : Bs) : (l.flatMap bc).length = l.length * 2 := by
  induction l with
  | nil => rfl
  | cons p l ih => rw [List.flatMap_cons, List.length_append, ih]; simp [bc]; omega
end Go.Proofs.Ytgidbmiahckleaa
