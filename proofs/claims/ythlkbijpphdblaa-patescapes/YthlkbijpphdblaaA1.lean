/- Patterns as plain functions on lists of bytes: what a reader answers, and where it then stands; or the first fault. -/
import Derived.Test.YthlkbijpphdblaaSt1
import Derived.Test.YthlkbijpphdblaaCh1
namespace Go.Proofs.Ythlkbijpphdblaa
set_option linter.unusedVariables false

abbrev Bs := List Int
inductive R (α : Type) where
  | ok (a : α) (k : Nat)
  | bad (p e : Int)
def R.bind {α β : Type} (r : R α) (f : α → Nat → R β) : R β := match r with
  | .ok a k => f a k
  | .bad p e => .bad p e
@[simp] theorem R.bind_ok {α β : Type} (a : α) (k : Nat) (f : α → Nat → R β) : (R.ok a k).bind f = f a k := rfl
@[simp] theorem R.bind_bad {α β : Type} (p e : Int) (f : α → Nat → R β) : (R.bad p e : R α).bind f = .bad p e := rfl
/-- Fuel that runs out is a fault of its own. -/
abbrev out {α : Type} : R α := .bad (-1) 9
/-- The letter at a place, and its length. -/
def lt (l : Bs) (k : Nat) : Int := (dec (l.drop k)).1
def ln (l : Bs) (k : Nat) : Nat := (dec (l.drop k)).2.toNat
def letS (l : Bs) (k : Nat) : R (Int × Nat) := if ln l k = 0 then .bad k 2 else .ok (lt l k, ln l k) k
theorem ln_le (l : Bs) (k : Nat) (hk : k ≤ l.length) : k + ln l k ≤ l.length := by
  have := dec_bd (l.drop k)
  unfold ln
  simp at this
  omega
theorem ln_four (l : Bs) (k : Nat) : ln l k ≤ 4 := by
  have := dec_bd (l.drop k)
  unfold ln
  omega
theorem dec2_of (l : Bs) (k : Nat) : (dec (l.drop k)).2 = (ln l k : Int) := by
  have := dec_bd (l.drop k)
  unfold ln
  omega
theorem ln_end {l : Bs} {k : Nat} (h : ln l k ≠ 0) : k < l.length := by
  rcases Nat.lt_or_ge k l.length with hk | hk
  · exact hk
  · exfalso
    unfold ln at h
    rw [List.drop_eq_nil_of_le hk] at h
    exact h (by decide)
def pkS (l : Bs) (k : Nat) : R Int := (letS l k).bind fun p k => .ok p.1 k
/-- Whether a sign stands at a place. -/
def skB (l : Bs) (c : Int) (k : Nat) : Bool := decide (k < l.length) && (l.getD k 0 == c)
def sgnS (l : Bs) (c : Int) (k : Nat) : R Unit := (pkS l k).bind fun r _ => if r = c then .ok () (k + 1) else .bad k 2
def goS (l : Bs) (k : Nat) : R Bool := if k = l.length then .ok false k else (pkS l k).bind fun r _ => .ok (r != 124 && r != 41) k
/-- A number of times: op is its bracket. -/
def numS (l : Bs) (op : Int) : Nat → Int → Nat → Nat → R Int
  | 0, _, _, _ => out
  | f + 1, n, c, k => (pkS l k).bind fun r _ =>
    if 48 ≤ r ∧ r ≤ 57 then
      if 4 < c + 1 ∨ 1000 < 10 * n + (r - 48) then .bad op 2 else numS l op f (10 * n + (r - 48)) (c + 1) (k + 1)
    else if c = 0 then .bad op 2 else .ok n k
def bndE (l : Bs) (op : Int) (a b : Int) (k : Nat) : R (Int × Int) := (pkS l k).bind fun r _ => if r = 125 ∧ ¬ (b ≠ -1 ∧ b < a) then .ok (a, b) (k + 1) else .bad op 2
def bndS (l : Bs) (op : Int) (k : Nat) : R (Int × Int) := (numS l op 6 0 0 k).bind fun a k =>
  if skB l 44 k = true then (pkS l (k + 1)).bind fun r _ => if r = 125 then bndE l op a (-1) (k + 1) else (numS l op 6 0 0 (k + 1)).bind fun b k => bndE l op a b k
  else bndE l op a a k
def timS (l : Bs) (k : Nat) : R (Int × Int × Bool) :=
  if skB l 63 k = true then .ok (0, 1, true) (k + 1)
  else if skB l 42 k = true then .ok (0, -1, true) (k + 1)
  else if skB l 43 k = true then .ok (1, -1, true) (k + 1)
  else if skB l 123 k = true then (bndS l k (k + 1)).bind fun p k => .ok (p.1, p.2, true) k
  else .ok (0, 0, false) k
/-- Where a name's end is. -/
def nmS (l : Bs) : Nat → Nat → R Unit
  | 0, _ => out
  | f + 1, k => (letS l k).bind fun p _ => if p.1 = 125 then .ok () k else nmS l f (k + p.2)
end Go.Proofs.Ythlkbijpphdblaa
