/- Letters of a row: plain. -/
import Derived.Test.YtgidbmiahckleaaIdx
namespace Go.Proofs.Ytgidbmiahckleaa
set_option linter.unusedVariables false

def lets : Nat → List Int → Option (List Int)
  | 0, _ => some []
  | n + 1, l => if l.length = 0 then some [] else if (dec l).2 = 0 ∨ isChar (dec l).1 = false then none else (lets n (l.drop (dec l).2.toNat)).map ((dec l).1 :: ·)
theorem lets_end (n : Nat) (l : List Int) (h : l.length = 0) : lets n l = some [] := by
  cases n <;> simp [lets, h]
theorem lets_bad (n : Nat) (l : List Int) (h0 : ¬ l.length = 0) (h : (dec l).2 = 0 ∨ isChar (dec l).1 = false) : lets (n + 1) l = none := by
  simp only [lets]; rw [if_neg h0, if_pos h]
theorem lets_step (n : Nat) (l : List Int) (h0 : ¬ l.length = 0) (h : ¬ ((dec l).2 = 0 ∨ isChar (dec l).1 = false)) : lets (n + 1) l = (lets n (l.drop (dec l).2.toNat)).map ((dec l).1 :: ·) := by
  simp only [lets]; rw [if_neg h0, if_neg h]
theorem part_char (r : Int) (h : isPart r = true) : isChar r = true := by
  unfold isPart isStart at h
  unfold isChar at *
  simp only [decide_eq_true_eq] at *
  omega
theorem tok_lets (n : Nat) : ∀ l : List Int, tok n l = (match lets n l with | none => false | some ls => ls.all isPart) := by
  induction n with
  | zero => intro l; rfl
  | succ n ih =>
    intro l
    by_cases h0 : l.length = 0
    · rw [tok_end _ l h0, lets_end _ l h0]; rfl
    · by_cases hz : (dec l).2 = 0
      · rw [tok_bad n l h0 (.inl hz), lets_bad n l h0 (.inl hz)]
      · by_cases hp : isPart (dec l).1 = true
        · have hch := part_char _ hp
          rw [tok_step n l h0 (by simp [hz, hp]), lets_step n l h0 (by simp [hz, hch]), ih]
          cases lets n (l.drop (dec l).2.toNat) with
          | none => rfl
          | some ls => simp [hp]
        · have hp' : isPart (dec l).1 = false := by simpa using hp
          rw [tok_bad n l h0 (.inr hp')]
          by_cases hch : isChar (dec l).1 = true
          · rw [lets_step n l h0 (by simp [hz, hch])]
            cases lets n (l.drop (dec l).2.toNat) with
            | none => rfl
            | some ls => simp [hp']
          · rw [lets_bad n l h0 (.inr (by simpa using hch))]
theorem lets_head (n : Nat) (l ls : List Int) (hn : l.length ≤ n) (h : lets n l = some ls) : (ls.length = 0 ↔ l.length = 0) ∧ (0 < ls.length → ls.getD 0 0 = (dec l).1) := by
  by_cases h0 : l.length = 0
  · rw [lets_end n l h0] at h
    simp at h; subst h
    exact ⟨by simp [h0], by simp⟩
  · obtain ⟨n, rfl⟩ : ∃ m, n = m + 1 := ⟨n - 1, by omega⟩
    by_cases hb : (dec l).2 = 0 ∨ isChar (dec l).1 = false
    · rw [lets_bad n l h0 hb] at h; cases h
    · rw [lets_step n l h0 hb] at h
      cases hx : lets n (l.drop (dec l).2.toNat) with
      | none => rw [hx] at h; cases h
      | some t =>
        rw [hx] at h
        simp at h; subst h
        exact ⟨by simp [h0], by simp⟩
theorem lets_le (n : Nat) : ∀ l ls : List Int, lets n l = some ls → ls.length ≤ n := by
  induction n with
  | zero => intro l ls h; simp [lets] at h; subst h; simp
  | succ n ih =>
    intro l ls h
    by_cases h0 : l.length = 0
    · rw [lets_end _ l h0] at h; simp at h; subst h; simp
    · by_cases hb : (dec l).2 = 0 ∨ isChar (dec l).1 = false
      · rw [lets_bad n l h0 hb] at h; cases h
      · rw [lets_step n l h0 hb] at h
        cases hx : lets n (l.drop (dec l).2.toNat) with
        | none => rw [hx] at h; cases h
        | some t =>
          rw [hx] at h
          simp at h; subst h
          have := ih _ _ hx
          simp; omega
theorem tokB_none {l : List Int} (h : lets l.length l = none) : tokB l = false := by
  unfold tokB; rw [tok_lets, h]; rfl
theorem tokB_some {l ls : List Int} (h : lets l.length l = some ls) : tokB l = (ls.all isPart && decide (0 < ls.length)) := by
  have := (lets_head l.length l ls (Nat.le_refl _) h).1
  unfold tokB; rw [tok_lets, h]
  show (ls.all isPart && _) = _
  congr 1
  rw [Bool.eq_iff_iff]; simp; omega
end Go.Proofs.Ytgidbmiahckleaa
