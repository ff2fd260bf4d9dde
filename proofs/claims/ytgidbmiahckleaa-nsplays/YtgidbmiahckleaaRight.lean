/- Contracts of Right, of the program and of the reference. -/
import Derived.Test.YtgidbmiahckleaaRef
import Derived.Test.YtgidbmiahckleaaSpec2
namespace Go.Proofs.Ytgidbmiahckleaa
open Go.RowKit
set_option linter.unusedVariables false

theorem getD_drop (l : List Int) (k i : Nat) : (l.drop k).getD i 0 = l.getD (k + i) 0 := by
  simp [List.getD_eq_getElem?_getD, List.getElem?_drop]
theorem Bts.drop {w : World} {b o : Nat} {l : List Int} (h : Bts w (some ⟨b, o, none⟩) l) (k : Nat) : Bts w (some ⟨b, o + k, none⟩) (l.drop k) := by
  refine ⟨fun i => by rw [getD_drop]; exact h.1 _, ?_⟩
  by_cases hk : k < l.length
  · rcases h.2 with rfl | ⟨b', o', he, hc⟩
    · simp at hk
    · refine .inr ⟨b, o + k, rfl, fun i hi => ?_⟩
      simp at he
      obtain ⟨rfl, rfl⟩ := he
      rw [getD_drop, Nat.add_assoc]
      exact hc (k + i) (by simp at hi; omega)
  · exact .inl (List.drop_eq_nil_of_le (by omega))
theorem decode_at (b o k : Nat) (l : List Int) (len cap : Nat) (w : World) (hl : l.length - k = len) (hc : l.length ≤ cap) (hm : cap ≤ maxLen) (hb : Bts w (some ⟨b, o, none⟩) l) :
    Calls Try.prog 64 #[.slice (some ⟨b, o + k, none⟩) len (cap - k)] w fun e w' => e = .returned (.tuple #[.int .i32 (dec (l.drop k)).1, .int .i64 (dec (l.drop k)).2]) ∧ w' = w := by
  have := decode_any _ _ (cap - k) w (by simp; omega) (by omega) (hb.drop k)
  rw [List.length_drop, hl] at this
  exact this
theorem rdecode_at (b o k : Nat) (l : List Int) (len cap : Nat) (w : World) (hl : l.length - k = len) (hc : l.length ≤ cap) (hm : cap ≤ maxLen) (hb : Bts w (some ⟨b, o, none⟩) l) :
    Calls Try.prog 82 #[.slice (some ⟨b, o + k, none⟩) len (cap - k)] w fun e w' => e = .returned (.tuple #[.int .i64 (dec (l.drop k)).1, .int .i64 (dec (l.drop k)).2]) ∧ w' = w := by
  have := rdecode_any _ _ (cap - k) w (by simp; omega) (by omega) (hb.drop k)
  rw [List.length_drop, hl] at this
  exact this

theorem ret_ib {a b : Int} {p q : Bool} (h : a = b) (g : p = q) : Ending.returned (.tuple #[.int .i64 a, .bool p]) = .returned (.tuple #[.int .i64 b, .bool q]) := by rw [h, g]

end Go.Proofs.Ytgidbmiahckleaa
