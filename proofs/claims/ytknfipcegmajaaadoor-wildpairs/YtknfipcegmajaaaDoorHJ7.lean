/- Joined: HChSpec, HChSpec2. -/
namespace Go.Proofs.YtknfipcegmajaaaDoor.Ch

def ann (c : Int) : Int := if c < 128 then 1 else if c < 192 then 0 else if c < 224 then 2 else if c < 240 then 3 else if c < 248 then 4 else 0
def wid (r : Int) : Int := if r < 0 then 0 else if r < 128 then 1 else if r < 2048 then 2 else if 55296 ≤ r ∧ r ≤ 57343 then 0 else if r < 65536 then 3 else if r ≤ 1114111 then 4 else 0
def isTl (c : Int) : Bool := decide (128 ≤ c ∧ c < 192)
def fin (r n : Int) : Int × Int := if wid r = n then (r, n) else (-1, 0)
def dec2 (c c1 : Int) : Int × Int := if isTl c1 = true then fin (c % 32 * 64 + c1 % 64) 2 else (-1, 0)
def dec3 (c c1 c2 : Int) : Int × Int := if isTl c1 = true ∧ isTl c2 = true then fin ((c % 16 * 64 + c1 % 64) * 64 + c2 % 64) 3 else (-1, 0)
def dec4 (c c1 c2 c3 : Int) : Int × Int := if isTl c1 = true ∧ isTl c2 = true ∧ isTl c3 = true then fin (((c % 8 * 64 + c1 % 64) * 64 + c2 % 64) * 64 + c3 % 64) 4 else (-1, 0)
def dec (l : List Int) : Int × Int :=
  if l.length = 0 then (-1, 0)
  else if l.getD 0 0 < 128 then (l.getD 0 0, 1)
  else if l.getD 0 0 < 192 then (-1, 0)
  else if l.getD 0 0 < 224 then if 2 ≤ l.length then dec2 (l.getD 0 0) (l.getD 1 0) else (-1, 0)
  else if l.getD 0 0 < 240 then if 3 ≤ l.length then dec3 (l.getD 0 0) (l.getD 1 0) (l.getD 2 0) else (-1, 0)
  else if l.getD 0 0 < 248 then if 4 ≤ l.length then dec4 (l.getD 0 0) (l.getD 1 0) (l.getD 2 0) (l.getD 3 0) else (-1, 0)
  else (-1, 0)

def isChar (r : Int) : Bool := decide (r = 9 ∨ r = 10 ∨ r = 13 ∨ (32 ≤ r ∧ r ≤ 55295) ∨ (57344 ≤ r ∧ r ≤ 65533) ∨ (65536 ≤ r ∧ r ≤ 1114111))
def isStart (r : Int) : Bool := decide ((65 ≤ r ∧ r ≤ 90) ∨ (97 ≤ r ∧ r ≤ 122) ∨ r = 95 ∨ r = 58 ∨ (192 ≤ r ∧ r ≠ 215 ∧ r ≠ 247 ∧ isChar r = true))
def isPart (r : Int) : Bool := decide (isStart r = true ∨ (48 ≤ r ∧ r ≤ 57) ∨ r = 45 ∨ r = 46 ∨ r = 183)
def isWhite (r : Int) : Bool := decide (r = 9 ∨ r = 10 ∨ r = 13 ∨ r = 32)

def enc (r : Int) : List Int :=
  if wid r = 1 then [r]
  else if wid r = 2 then [192 + r / 64, 128 + r % 64]
  else if wid r = 3 then [224 + r / 4096, 128 + r / 64 % 64, 128 + r % 64]
  else if wid r = 4 then [240 + r / 262144, 128 + r / 4096 % 64, 128 + r / 64 % 64, 128 + r % 64]
  else []

theorem wid_cases (r : Int) : wid r = 0 ∨ wid r = 1 ∨ wid r = 2 ∨ wid r = 3 ∨ wid r = 4 := by
  unfold wid
  repeat' (first | (split; (try simp)) | simp)
theorem dec_bd (l : List Int) : (dec l).2 = 0 ∨ (1 ≤ (dec l).2 ∧ (dec l).2 ≤ 4 ∧ (dec l).2 ≤ l.length) := by
  unfold dec dec2 dec3 dec4 fin
  repeat' split
  all_goals simp
  all_goals omega
end Go.Proofs.YtknfipcegmajaaaDoor.Ch
namespace Go.Proofs.YtknfipcegmajaaaDoor.Ch

def rgt : Nat → List Int → Nat × Bool
  | 0, _ => (0, true)
  | n + 1, l => if l.length = 0 then (0, true) else if (dec l).2 = 0 ∨ isChar (dec l).1 = false then (0, false)
      else ((dec l).2.toNat + (rgt n (l.drop (dec l).2.toNat)).1, (rgt n (l.drop (dec l).2.toNat)).2)
def cnt : Nat → List Int → Nat
  | 0, _ => 0
  | n + 1, l => if l.length = 0 then 0 else 1 + cnt n (l.drop (max (dec l).2 1).toNat)
def tok : Nat → List Int → Bool
  | 0, _ => true
  | n + 1, l => if l.length = 0 then true else if (dec l).2 = 0 ∨ isPart (dec l).1 = false then false else tok n (l.drop (dec l).2.toNat)

theorem rgt_end (n : Nat) (l : List Int) (h : l.length = 0) : rgt n l = (0, true) := by
  cases n <;> simp [rgt, h]
theorem rgt_bad (n : Nat) (l : List Int) (h0 : ¬ l.length = 0) (h : (dec l).2 = 0 ∨ isChar (dec l).1 = false) : rgt (n + 1) l = (0, false) := by
  simp only [rgt]; rw [if_neg h0, if_pos h]
theorem rgt_step (n : Nat) (l : List Int) (h0 : ¬ l.length = 0) (h : ¬ ((dec l).2 = 0 ∨ isChar (dec l).1 = false)) :
    rgt (n + 1) l = ((dec l).2.toNat + (rgt n (l.drop (dec l).2.toNat)).1, (rgt n (l.drop (dec l).2.toNat)).2) := by
  simp only [rgt]; rw [if_neg h0, if_neg h]
theorem cnt_end (n : Nat) (l : List Int) (h : l.length = 0) : cnt n l = 0 := by
  cases n <;> simp [cnt, h]
theorem cnt_step (n : Nat) (l : List Int) (h0 : ¬ l.length = 0) : cnt (n + 1) l = 1 + cnt n (l.drop (max (dec l).2 1).toNat) := by
  simp only [cnt]; rw [if_neg h0]
theorem tok_end (n : Nat) (l : List Int) (h : l.length = 0) : tok n l = true := by
  cases n <;> simp [tok, h]
theorem tok_bad (n : Nat) (l : List Int) (h0 : ¬ l.length = 0) (h : (dec l).2 = 0 ∨ isPart (dec l).1 = false) : tok (n + 1) l = false := by
  simp only [tok]; rw [if_neg h0, if_pos h]
theorem tok_step (n : Nat) (l : List Int) (h0 : ¬ l.length = 0) (h : ¬ ((dec l).2 = 0 ∨ isPart (dec l).1 = false)) : tok (n + 1) l = tok n (l.drop (dec l).2.toNat) := by
  simp only [tok]; rw [if_neg h0, if_neg h]
end Go.Proofs.YtknfipcegmajaaaDoor.Ch
