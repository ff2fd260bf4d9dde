/- Plain facts on the scanner's functions: they go on, and answer letters. -/
import Derived.Test.YtjcgnbmpnaapdaaDoorSc5
namespace Go.Proofs.YtjcgnbmpnaapdaaDoor
set_option linter.unusedVariables false

theorem bind_inv {α β : Type} {x : R α} {f : α → Nat → R β} {b : β} {k : Nat} (h : x.bind f = .ok b k) : ∃ a j, x = .ok a j ∧ f a j = .ok b k := by
  cases x with
  | ok a j => exact ⟨a, j, rfl, h⟩
  | bad p e => cases h
theorem takeS_ok {l : Bs} {k k' : Nat} {r : Int} (h : takeS l k = .ok r k') : okl l k = true ∧ r = lt l k ∧ k' = k + ln l k := by
  unfold takeS at h
  split at h
  · cases h; exact ⟨‹_›, rfl, rfl⟩
  · cases h
theorem peekS_ok {l : Bs} {k k' : Nat} {r : Int} (h : peekS l k = .ok r k') : okl l k = true ∧ r = lt l k ∧ k' = k := by
  unfold peekS at h
  split at h
  · cases h; exact ⟨‹_›, rfl, rfl⟩
  · cases h
theorem wordS_le {l : Bs} {blame : Int} : ∀ {c : List Int} {k k' : Nat}, wordS l blame c k = .ok () k' → k ≤ k' := by
  intro c
  induction c with
  | nil => intro k k' h; rw [wordS] at h; cases h; exact Nat.le_refl _
  | cons a c ih =>
    intro k k' h
    rw [wordS] at h
    obtain ⟨r, j, h1, h2⟩ := bind_inv h
    obtain ⟨_, _, rfl⟩ := takeS_ok h1
    split at h2
    · have := ih h2; omega
    · cases h2
theorem numL_le {l : Bs} {base amp : Int} : ∀ {n : Nat} {v v' : Int} {k k' : Nat}, numL n l base amp v k = .ok v' k' → k ≤ k' := by
  intro n
  induction n with
  | zero => intro v v' k k' h; rw [numL] at h; cases h
  | succ n ih =>
    intro v v' k k' h
    rw [numL] at h
    obtain ⟨r, j, h1, h2⟩ := bind_inv h
    split at h2
    · cases h2; exact Nat.le_refl _
    · obtain ⟨d, j2, h3, h4⟩ := bind_inv h2
      obtain ⟨_, _, rfl, _⟩ := digitS_ok h3
      split at h4
      · cases h4
      · have := ih h4; omega
theorem numB_ok {l : Bs} {base amp v : Int} {k k' : Nat} (h : numB l base amp k = .ok v k') : isChar v = true ∧ k ≤ k' := by
  unfold numB at h
  obtain ⟨d, j, h1, h2⟩ := bind_inv h
  obtain ⟨x, j2, h3, h4⟩ := bind_inv h2
  obtain ⟨y, j3, h5, h6⟩ := bind_inv h4
  obtain ⟨_, _, rfl, _⟩ := digitS_ok h1
  have := numL_le h3
  obtain ⟨_, _, rfl⟩ := takeS_ok h5
  split at h6
  · cases h6; exact ⟨‹_›, by omega⟩
  · cases h6
theorem refS_ok {l : Bs} {k k' : Nat} {c : Int} (h : refS l k = .ok c k') : isChar c = true ∧ k < k' := by
  unfold refS at h
  obtain ⟨x, k1, h1, h2⟩ := bind_inv h
  obtain ⟨r, k2, h3, h4⟩ := bind_inv h2
  obtain ⟨o1, _, rfl⟩ := takeS_ok h1
  obtain ⟨o2, _, rfl⟩ := takeS_ok h3
  have p1 := ln_pos o1
  split at h4
  · unfold numberS at h4
    obtain ⟨y, j, h5, h6⟩ := bind_inv h4
    split at h6
    · have := numB_ok h6; exact ⟨this.1, by omega⟩
    · have := numB_ok h6; exact ⟨this.1, by omega⟩
  split at h4
  · obtain ⟨_, j, h5, h6⟩ := bind_inv h4; have := wordS_le h5; cases h6; exact ⟨by decide, by omega⟩
  split at h4
  · obtain ⟨_, j, h5, h6⟩ := bind_inv h4; have := wordS_le h5; cases h6; exact ⟨by decide, by omega⟩
  split at h4
  · obtain ⟨_, j, h5, h6⟩ := bind_inv h4; have := wordS_le h5; cases h6; exact ⟨by decide, by omega⟩
  split at h4
  · unfold ampS at h4
    obtain ⟨y, j, h5, h6⟩ := bind_inv h4
    split at h6
    · obtain ⟨_, j, h5, h6⟩ := bind_inv h6; have := wordS_le h5; cases h6; exact ⟨by decide, by omega⟩
    · obtain ⟨_, j, h5, h6⟩ := bind_inv h6; have := wordS_le h5; cases h6; exact ⟨by decide, by omega⟩
  · cases h4
theorem lineS_ok {l : Bs} {k k' : Nat} {c : Int} (h : lineS l k = .ok c k') : isChar c = true ∧ k < k' := by
  unfold lineS at h
  obtain ⟨r, k1, h1, h2⟩ := bind_inv h
  obtain ⟨o1, rfl, rfl⟩ := takeS_ok h1
  have p1 := ln_pos o1
  split at h2
  · split at h2
    · cases h2; exact ⟨by decide, by omega⟩
    · cases h2; exact ⟨by decide, by omega⟩
  · cases h2; exact ⟨o1, by omega⟩
end Go.Proofs.YtjcgnbmpnaapdaaDoor
