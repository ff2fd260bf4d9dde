/- Joined: Ch1, A1. -/
import Derived.Test.YthlkbijpphdblaaSt1
namespace Go.Proofs.Ythlkbijpphdblaa

def ann (c : Int) : Int := if c < 128 then 1 else if c < 192 then 0 else if c < 224 then 2 else if c < 240 then 3 else if c < 248 then 4 else 0
def wid (r : Int) : Int := if r < 0 then 0 else if r < 128 then 1 else if r < 2048 then 2 else if 55296 ≤ r ∧ r ≤ 57343 then 0 else if r < 65536 then 3 else if r ≤ 1114111 then 4 else 0
def isTl (c : Int) : Bool := decide (128 ≤ c ∧ c < 192)
def fin (r n : Int) : Int × Int := if wid r = n then (r, n) else (-1, 0)
def dec2 (c c1 : Int) : Int × Int := if isTl c1 = true then fin (c % 32 * 64 + c1 % 64) 2 else (-1, 0)
def dec3 (c c1 c2 : Int) : Int × Int := if isTl c1 = true ∧ isTl c2 = true then fin ((c % 16 * 64 + c1 % 64) * 64 + c2 % 64) 3 else (-1, 0)
def dec4 (c c1 c2 c3 : Int) : Int × Int := if isTl c1 = true ∧ isTl c2 = true ∧ isTl c3 = true then fin (((c % 8 * 64 + c1 % 64) * 64 + c2 % 64) * 64 + c3 % 64) 4 else (-1, 0)
def dec (l : List Int) : Int × Int :=
  if l.length = 0 then (-1, 0)
  else if l.getD 0 0 < 128 then (l.getD 0 0, 1)
  else if l.getD 0 0 < 192 then (-1, 0)
  else if l.getD 0 0 < 224 then if 2 ≤ l.length then dec2 (l.getD 0 0) (l.getD 1 0) else (-1, 0)
  else if l.getD 0 0 < 240 then if 3 ≤ l.length then dec3 (l.getD 0 0) (l.getD 1 0) (l.getD 2 0) else (-1, 0)
  else if l.getD 0 0 < 248 then if 4 ≤ l.length then dec4 (l.getD 0 0) (l.getD 1 0) (l.getD 2 0) (l.getD 3 0) else (-1, 0)
  else (-1, 0)


def enc (r : Int) : List Int :=
  if wid r = 1 then [r]
  else if wid r = 2 then [192 + r / 64, 128 + r % 64]
  else if wid r = 3 then [224 + r / 4096, 128 + r / 64 % 64, 128 + r % 64]
  else if wid r = 4 then [240 + r / 262144, 128 + r / 4096 % 64, 128 + r / 64 % 64, 128 + r % 64]
  else []

theorem wid_cases (r : Int) : wid r = 0 ∨ wid r = 1 ∨ wid r = 2 ∨ wid r = 3 ∨ wid r = 4 := by
  unfold wid
  repeat' (first | (split; (try simp)) | simp)
theorem dec_bd (l : List Int) : (dec l).2 = 0 ∨ (1 ≤ (dec l).2 ∧ (dec l).2 ≤ 4 ∧ (dec l).2 ≤ l.length) := by
  unfold dec dec2 dec3 dec4 fin
  repeat' split
  all_goals simp
  all_goals omega
end Go.Proofs.Ythlkbijpphdblaa
namespace Go.Proofs.Ythlkbijpphdblaa
set_option linter.unusedVariables false

abbrev Bs := List Int
inductive R (α : Type) where
  | ok (a : α) (k : Nat)
  | bad (p e : Int)
def R.bind {α β : Type} (r : R α) (f : α → Nat → R β) : R β := match r with
  | .ok a k => f a k
  | .bad p e => .bad p e
@[simp] theorem R.bind_ok {α β : Type} (a : α) (k : Nat) (f : α → Nat → R β) : (R.ok a k).bind f = f a k := rfl
@[simp] theorem R.bind_bad {α β : Type} (p e : Int) (f : α → Nat → R β) : (R.bad p e : R α).bind f = .bad p e := rfl
/-- Fuel that runs out is a fault of its own. -/
abbrev out {α : Type} : R α := .bad (-1) 9
/-- The letter at a place, and its length. -/
def lt (l : Bs) (k : Nat) : Int := (dec (l.drop k)).1
def ln (l : Bs) (k : Nat) : Nat := (dec (l.drop k)).2.toNat
def letS (l : Bs) (k : Nat) : R (Int × Nat) := if ln l k = 0 then .bad k 2 else .ok (lt l k, ln l k) k
theorem ln_le (l : Bs) (k : Nat) (hk : k ≤ l.length) : k + ln l k ≤ l.length := by
  have := dec_bd (l.drop k)
  unfold ln
  simp at this
  omega
theorem ln_four (l : Bs) (k : Nat) : ln l k ≤ 4 := by
  have := dec_bd (l.drop k)
  unfold ln
  omega
theorem dec2_of (l : Bs) (k : Nat) : (dec (l.drop k)).2 = (ln l k : Int) := by
  have := dec_bd (l.drop k)
  unfold ln
  omega
theorem ln_end {l : Bs} {k : Nat} (h : ln l k ≠ 0) : k < l.length := by
  rcases Nat.lt_or_ge k l.length with hk | hk
  · exact hk
  · exfalso
    unfold ln at h
    rw [List.drop_eq_nil_of_le hk] at h
    exact h (by decide)
def pkS (l : Bs) (k : Nat) : R Int := (letS l k).bind fun p k => .ok p.1 k
/-- Whether a sign stands at a place. -/
def skB (l : Bs) (c : Int) (k : Nat) : Bool := decide (k < l.length) && (l.getD k 0 == c)
def sgnS (l : Bs) (c : Int) (k : Nat) : R Unit := (pkS l k).bind fun r _ => if r = c then .ok () (k + 1) else .bad k 2
def goS (l : Bs) (k : Nat) : R Bool := if k = l.length then .ok false k else (pkS l k).bind fun r _ => .ok (r != 124 && r != 41) k
/-- A number of times: op is its bracket. -/
def numS (l : Bs) (op : Int) : Nat → Int → Nat → Nat → R Int
  | 0, _, _, _ => out
  | f + 1, n, c, k => (pkS l k).bind fun r _ =>
    if 48 ≤ r ∧ r ≤ 57 then
      if 4 < c + 1 ∨ 1000 < 10 * n + (r - 48) then .bad op 2 else numS l op f (10 * n + (r - 48)) (c + 1) (k + 1)
    else if c = 0 then .bad op 2 else .ok n k
def bndE (l : Bs) (op : Int) (a b : Int) (k : Nat) : R (Int × Int) := (pkS l k).bind fun r _ => if r = 125 ∧ ¬ (b ≠ -1 ∧ b < a) then .ok (a, b) (k + 1) else .bad op 2
def bndS (l : Bs) (op : Int) (k : Nat) : R (Int × Int) := (numS l op 6 0 0 k).bind fun a k =>
  if skB l 44 k = true then (pkS l (k + 1)).bind fun r _ => if r = 125 then bndE l op a (-1) (k + 1) else (numS l op 6 0 0 (k + 1)).bind fun b k => bndE l op a b k
  else bndE l op a a k
def timS (l : Bs) (k : Nat) : R (Int × Int × Bool) :=
  if skB l 63 k = true then .ok (0, 1, true) (k + 1)
  else if skB l 42 k = true then .ok (0, -1, true) (k + 1)
  else if skB l 43 k = true then .ok (1, -1, true) (k + 1)
  else if skB l 123 k = true then (bndS l k (k + 1)).bind fun p k => .ok (p.1, p.2, true) k
  else .ok (0, 0, false) k
/-- Where a name's end is. -/
def nmS (l : Bs) : Nat → Nat → R Unit
  | 0, _ => out
  | f + 1, k => (letS l k).bind fun p _ => if p.1 = 125 then .ok () k else nmS l f (k + p.2)
end Go.Proofs.Ythlkbijpphdblaa
