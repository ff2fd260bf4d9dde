/- The plain functions over rows of letters: whether they are right, how many there are, whether all are parts of a name. -/
import Derived.Test.YtgidbmiahckleaaSpec
namespace Go.Proofs.Ytgidbmiahckleaa

def rgt : Nat → List Int → Nat × Bool
  | 0, _ => (0, true)
  | n + 1, l => if l.length = 0 then (0, true) else if (dec l).2 = 0 ∨ isChar (dec l).1 = false then (0, false)
      else ((dec l).2.toNat + (rgt n (l.drop (dec l).2.toNat)).1, (rgt n (l.drop (dec l).2.toNat)).2)
def cnt : Nat → List Int → Nat
  | 0, _ => 0
  | n + 1, l => if l.length = 0 then 0 else 1 + cnt n (l.drop (max (dec l).2 1).toNat)
def tok : Nat → List Int → Bool
  | 0, _ => true
  | n + 1, l => if l.length = 0 then true else if (dec l).2 = 0 ∨ isPart (dec l).1 = false then false else tok n (l.drop (dec l).2.toNat)

theorem rgt_end (n : Nat) (l : List Int) (h : l.length = 0) : rgt n l = (0, true) := by
  cases n <;> simp [rgt, h]
theorem rgt_bad (n : Nat) (l : List Int) (h0 : ¬ l.length = 0) (h : (dec l).2 = 0 ∨ isChar (dec l).1 = false) : rgt (n + 1) l = (0, false) := by
  simp only [rgt]; rw [if_neg h0, if_pos h]
theorem rgt_step (n : Nat) (l : List Int) (h0 : ¬ l.length = 0) (h : ¬ ((dec l).2 = 0 ∨ isChar (dec l).1 = false)) :
    rgt (n + 1) l = ((dec l).2.toNat + (rgt n (l.drop (dec l).2.toNat)).1, (rgt n (l.drop (dec l).2.toNat)).2) := by
  simp only [rgt]; rw [if_neg h0, if_neg h]
theorem cnt_end (n : Nat) (l : List Int) (h : l.length = 0) : cnt n l = 0 := by
  cases n <;> simp [cnt, h]
theorem cnt_step (n : Nat) (l : List Int) (h0 : ¬ l.length = 0) : cnt (n + 1) l = 1 + cnt n (l.drop (max (dec l).2 1).toNat) := by
  simp only [cnt]; rw [if_neg h0]
theorem tok_end (n : Nat) (l : List Int) (h : l.length = 0) : tok n l = true := by
  cases n <;> simp [tok, h]
theorem tok_bad (n : Nat) (l : List Int) (h0 : ¬ l.length = 0) (h : (dec l).2 = 0 ∨ isPart (dec l).1 = false) : tok (n + 1) l = false := by
  simp only [tok]; rw [if_neg h0, if_pos h]
theorem tok_step (n : Nat) (l : List Int) (h0 : ¬ l.length = 0) (h : ¬ ((dec l).2 = 0 ∨ isPart (dec l).1 = false)) : tok (n + 1) l = tok n (l.drop (dec l).2.toNat) := by
  simp only [tok]; rw [if_neg h0, if_neg h]
end Go.Proofs.Ytgidbmiahckleaa
