/- Small facts on Go's bit operations at the numbers that occur in UTF-8. -/
import Derived.WalkKit
import Derived.Laws.BitsAllLaws
import Derived.Laws.DeepBits32
namespace Go.Proofs.YtjcgnbmpnaapdaaDoor
open Go

theorem byteAll (p : Int → Bool) (h : (List.range 256).all (fun n => p (n : Int)) = true) (c : Int) (h0 : 0 ≤ c) (h1 : c < 256) : p c = true := by
  obtain ⟨n, rfl⟩ := Int.eq_ofNat_of_zero_le h0
  have := List.all_eq_true.1 h n (by simp; omega)
  simpa using this

theorem u8_and192 (c : Int) (h0 : 0 ≤ c) (h1 : c < 256) : bits .and .u8 c 192 = c / 64 * 64 := by
  have := byteAll (fun c => bits .and .u8 c 192 == c / 64 * 64) (by decide +kernel) c h0 h1
  simpa using this
theorem u8_and63 (c : Int) (h0 : 0 ≤ c) (h1 : c < 256) : bits .and .u8 c 63 = c % 64 := by
  have := byteAll (fun c => bits .and .u8 c 63 == c % 64) (by decide +kernel) c h0 h1
  simpa using this
theorem i64_and224 (c : Int) (h0 : 0 ≤ c) (h1 : c < 256) : bits .and .i64 c 224 = c / 32 * 32 := by
  have := byteAll (fun c => bits .and .i64 c 224 == c / 32 * 32) (by decide +kernel) c h0 h1
  simpa using this
theorem i64_and240 (c : Int) (h0 : 0 ≤ c) (h1 : c < 256) : bits .and .i64 c 240 = c / 16 * 16 := by
  have := byteAll (fun c => bits .and .i64 c 240 == c / 16 * 16) (by decide +kernel) c h0 h1
  simpa using this
theorem i64_and248 (c : Int) (h0 : 0 ≤ c) (h1 : c < 256) : bits .and .i64 c 248 = c / 8 * 8 := by
  have := byteAll (fun c => bits .and .i64 c 248 == c / 8 * 8) (by decide +kernel) c h0 h1
  simpa using this
theorem i64_and31 (c : Int) (h0 : 0 ≤ c) (h1 : c < 256) : bits .and .i64 c 31 = c % 32 := by
  have := byteAll (fun c => bits .and .i64 c 31 == c % 32) (by decide +kernel) c h0 h1
  simpa using this
theorem i64_and15 (c : Int) (h0 : 0 ≤ c) (h1 : c < 256) : bits .and .i64 c 15 = c % 16 := by
  have := byteAll (fun c => bits .and .i64 c 15 == c % 16) (by decide +kernel) c h0 h1
  simpa using this
theorem i64_and7 (c : Int) (h0 : 0 ≤ c) (h1 : c < 256) : bits .and .i64 c 7 = c % 8 := by
  have := byteAll (fun c => bits .and .i64 c 7 == c % 8) (by decide +kernel) c h0 h1
  simpa using this
theorem i32_and31 (c : Int) (h0 : 0 ≤ c) (h1 : c < 256) : bits .and .i32 c 31 = c % 32 := by
  have := byteAll (fun c => bits .and .i32 c 31 == c % 32) (by decide +kernel) c h0 h1
  simpa using this
theorem i32_and15 (c : Int) (h0 : 0 ≤ c) (h1 : c < 256) : bits .and .i32 c 15 = c % 16 := by
  have := byteAll (fun c => bits .and .i32 c 15 == c % 16) (by decide +kernel) c h0 h1
  simpa using this
theorem i32_and7 (c : Int) (h0 : 0 ≤ c) (h1 : c < 256) : bits .and .i32 c 7 = c % 8 := by
  have := byteAll (fun c => bits .and .i32 c 7 == c % 8) (by decide +kernel) c h0 h1
  simpa using this

theorem wrap_i64_small (n : Int) (h0 : 0 ≤ n) (h1 : n < 4294967296) : IntKind.i64.wrap n = n := by
  simp [IntKind.wrap, IntKind.bits, IntKind.signed]
  split <;> omega

theorem i32_and63 (x : Int) (h0 : 0 ≤ x) (h1 : x < 2147483648) : bits .and .i32 x 63 = x % 64 := by
  obtain ⟨n, rfl⟩ := Int.eq_ofNat_of_zero_le h0
  show IntKind.i32.wrap ((BitVec.ofInt 32 (n : Int) &&& BitVec.ofInt 32 63).toNat : Int) = _
  have h6 : (BitVec.ofInt 32 63).toNat = 63 := by decide
  rw [BitVec.toNat_and, ofInt_u32 n (by omega), h6, nat_mask6]
  rw [wrap_i32_small _ (by omega) (by omega)]; omega
theorem i64_and63 (x : Int) (h0 : 0 ≤ x) (h1 : x < 2147483648) : bits .and .i64 x 63 = x % 64 := by
  obtain ⟨n, rfl⟩ := Int.eq_ofNat_of_zero_le h0
  show IntKind.i64.wrap ((BitVec.ofInt 64 (n : Int) &&& BitVec.ofInt 64 63).toNat : Int) = _
  have h6 : (BitVec.ofInt 64 63).toNat = 63 := by decide
  rw [BitVec.toNat_and, ofInt_u64 n (by omega), h6, nat_mask6]
  rw [wrap_i64_small _ (by omega) (by omega)]; omega

theorem i32_join (k : Nat) (x y : Int) (h0 : 0 ≤ x) (h1 : x < 1073741824) (hx : x % (2 ^ k : Nat) = 0) (h2 : 0 ≤ y) (h3 : y < (2 ^ k : Nat)) (hk : y < 1073741824) : bits .or .i32 x y = x + y := by
  obtain ⟨n, rfl⟩ := Int.eq_ofNat_of_zero_le h0
  obtain ⟨m, rfl⟩ := Int.eq_ofNat_of_zero_le h2
  show IntKind.i32.wrap ((BitVec.ofInt 32 (n : Int) ||| BitVec.ofInt 32 (m : Int)).toNat : Int) = _
  rw [BitVec.toNat_or, ofInt_u32 n (by omega), ofInt_u32 m (by omega), nat_join k n m (by omega) (by omega)]
  rw [wrap_i32_small _ (by omega) (by omega)]; omega
theorem i64_join (k : Nat) (x y : Int) (h0 : 0 ≤ x) (h1 : x < 1073741824) (hx : x % (2 ^ k : Nat) = 0) (h2 : 0 ≤ y) (h3 : y < (2 ^ k : Nat)) (hk : y < 1073741824) : bits .or .i64 x y = x + y := by
  obtain ⟨n, rfl⟩ := Int.eq_ofNat_of_zero_le h0
  obtain ⟨m, rfl⟩ := Int.eq_ofNat_of_zero_le h2
  show IntKind.i64.wrap ((BitVec.ofInt 64 (n : Int) ||| BitVec.ofInt 64 (m : Int)).toNat : Int) = _
  rw [BitVec.toNat_or, ofInt_u64 n (by omega), ofInt_u64 m (by omega), nat_join k n m (by omega) (by omega)]
  rw [wrap_i64_small _ (by omega) (by omega)]; omega
end Go.Proofs.YtjcgnbmpnaapdaaDoor
namespace Go.Proofs.YtjcgnbmpnaapdaaDoor

def ann (c : Int) : Int := if c < 128 then 1 else if c < 192 then 0 else if c < 224 then 2 else if c < 240 then 3 else if c < 248 then 4 else 0
def wid (r : Int) : Int := if r < 0 then 0 else if r < 128 then 1 else if r < 2048 then 2 else if 55296 ≤ r ∧ r ≤ 57343 then 0 else if r < 65536 then 3 else if r ≤ 1114111 then 4 else 0
def isTl (c : Int) : Bool := decide (128 ≤ c ∧ c < 192)
def fin (r n : Int) : Int × Int := if wid r = n then (r, n) else (-1, 0)
def dec2 (c c1 : Int) : Int × Int := if isTl c1 = true then fin (c % 32 * 64 + c1 % 64) 2 else (-1, 0)
def dec3 (c c1 c2 : Int) : Int × Int := if isTl c1 = true ∧ isTl c2 = true then fin ((c % 16 * 64 + c1 % 64) * 64 + c2 % 64) 3 else (-1, 0)
def dec4 (c c1 c2 c3 : Int) : Int × Int := if isTl c1 = true ∧ isTl c2 = true ∧ isTl c3 = true then fin (((c % 8 * 64 + c1 % 64) * 64 + c2 % 64) * 64 + c3 % 64) 4 else (-1, 0)
def dec (l : List Int) : Int × Int :=
  if l.length = 0 then (-1, 0)
  else if l.getD 0 0 < 128 then (l.getD 0 0, 1)
  else if l.getD 0 0 < 192 then (-1, 0)
  else if l.getD 0 0 < 224 then if 2 ≤ l.length then dec2 (l.getD 0 0) (l.getD 1 0) else (-1, 0)
  else if l.getD 0 0 < 240 then if 3 ≤ l.length then dec3 (l.getD 0 0) (l.getD 1 0) (l.getD 2 0) else (-1, 0)
  else if l.getD 0 0 < 248 then if 4 ≤ l.length then dec4 (l.getD 0 0) (l.getD 1 0) (l.getD 2 0) (l.getD 3 0) else (-1, 0)
  else (-1, 0)

def isChar (r : Int) : Bool := decide (r = 9 ∨ r = 10 ∨ r = 13 ∨ (32 ≤ r ∧ r ≤ 55295) ∨ (57344 ≤ r ∧ r ≤ 65533) ∨ (65536 ≤ r ∧ r ≤ 1114111))
def isStart (r : Int) : Bool := decide ((65 ≤ r ∧ r ≤ 90) ∨ (97 ≤ r ∧ r ≤ 122) ∨ r = 95 ∨ r = 58 ∨ (192 ≤ r ∧ r ≠ 215 ∧ r ≠ 247 ∧ isChar r = true))
def isPart (r : Int) : Bool := decide (isStart r = true ∨ (48 ≤ r ∧ r ≤ 57) ∨ r = 45 ∨ r = 46 ∨ r = 183)
def isWhite (r : Int) : Bool := decide (r = 9 ∨ r = 10 ∨ r = 13 ∨ r = 32)

def enc (r : Int) : List Int :=
  if wid r = 1 then [r]
  else if wid r = 2 then [192 + r / 64, 128 + r % 64]
  else if wid r = 3 then [224 + r / 4096, 128 + r / 64 % 64, 128 + r % 64]
  else if wid r = 4 then [240 + r / 262144, 128 + r / 4096 % 64, 128 + r / 64 % 64, 128 + r % 64]
  else []

theorem wid_cases (r : Int) : wid r = 0 ∨ wid r = 1 ∨ wid r = 2 ∨ wid r = 3 ∨ wid r = 4 := by
  unfold wid
  repeat' (first | (split; (try simp)) | simp)
theorem dec_bd (l : List Int) : (dec l).2 = 0 ∨ (1 ≤ (dec l).2 ∧ (dec l).2 ≤ 4 ∧ (dec l).2 ≤ l.length) := by
  unfold dec dec2 dec3 dec4 fin
  repeat' split
  all_goals simp
  all_goals omega
end Go.Proofs.YtjcgnbmpnaapdaaDoor
namespace Go.Proofs.YtjcgnbmpnaapdaaDoor

abbrev Bs := List Int
def lt (b : Bs) (k : Nat) : Int := (dec (b.drop k)).1
def ln (b : Bs) (k : Nat) : Nat := (dec (b.drop k)).2.toNat
def okl (b : Bs) (k : Nat) : Bool := isChar (lt b k)

/-- A result and the new place; or a fault. -/
inductive R (α : Type) where
  | ok (a : α) (k : Nat)
  | bad (place : Int) (err : Int)
  deriving Repr, DecidableEq
def R.bind {α β : Type} (x : R α) (f : α → Nat → R β) : R β := match x with | .ok a k => f a k | .bad p e => .bad p e

def peekS (b : Bs) (k : Nat) : R Int := if okl b k = true then .ok (lt b k) k else .bad k 2
def takeS (b : Bs) (k : Nat) : R Int := if okl b k = true then .ok (lt b k) (k + ln b k) else .bad k 2
def lineS (b : Bs) (k : Nat) : R Int :=
  (takeS b k).bind fun r k' => if r = 13 then (if k' < b.length ∧ b.getD k' 0 = 10 then .ok 10 (k' + 1) else .ok 10 k') else .ok r k'
def blkS : Nat → Bs → Nat → R Unit
  | 0, _, k => .ok () k
  | n + 1, b, k => if k = b.length then .ok () k else if okl b k = true then if isWhite (lt b k) = true then blkS n b (k + ln b k) else .ok () k else .bad k 2
def blanksS (b : Bs) (k : Nat) : R Bool := (blkS (b.length - k) b k).bind fun _ k' => .ok (decide (k < k')) k'
def wordS (b : Bs) (blame : Int) : List Int → Nat → R Unit
  | [], k => .ok () k
  | c :: cs, k => (takeS b k).bind fun r k' => if r = c then wordS b blame cs k' else .bad blame 2
def signS (b : Bs) (r : Int) (k : Nat) : R Unit := if okl b k = true ∧ lt b k = r then .ok () (k + ln b k) else .bad k 2
def nmS : Nat → Bs → Int → Nat → Nat → R Unit
  | 0, _, _, _, j => .ok () j
  | n + 1, b, T, k, j => if j = b.length then .ok () j else if okl b j = true then
      if isPart (lt b j) = true then if T < ((j + ln b j : Nat) : Int) - k then .bad k 3 else nmS n b T k (j + ln b j) else .ok () j
    else .bad j 2
def sub (b : Bs) (k j : Nat) : Bs := (b.drop k).take (j - k)
def nameS (b : Bs) (T : Int) (k : Nat) : R Bs :=
  if okl b k = true ∧ isStart (lt b k) = true then (nmS (b.length - k) b T k k).bind fun _ j => .ok (sub b k j) j else .bad k 2
def quoteS (b : Bs) (k : Nat) : R Int := if okl b k = true ∧ (lt b k = 34 ∨ lt b k = 39) then .ok (lt b k) (k + ln b k) else .bad k 2
def digV (base r : Int) : Option Int :=
  if 48 ≤ r ∧ r ≤ 57 then some (r - 48) else if base = 16 ∧ 97 ≤ r ∧ r ≤ 102 then some (r - 97 + 10) else if base = 16 ∧ 65 ≤ r ∧ r ≤ 70 then some (r - 65 + 10) else none
def digitS (b : Bs) (base amp : Int) (k : Nat) : R Int :=
  (takeS b k).bind fun r k' => match digV base r with | some d => .ok d k' | none => .bad amp 2
def numL : Nat → Bs → Int → Int → Int → Nat → R Int
  | 0, _, _, _, _, _ => .bad (-1) 9
  | n + 1, b, base, amp, v, k => (peekS b k).bind fun r _ => if r = 59 then .ok v k else
      (digitS b base amp k).bind fun d k' => if 1114111 < v * base + d then .bad amp 2 else numL n b base amp (v * base + d) k'
def numB (b : Bs) (base amp : Int) (k : Nat) : R Int :=
  (digitS b base amp k).bind fun d k' => (numL (b.length + 1) b base amp d k').bind fun v k2 => (takeS b k2).bind fun _ k3 => if isChar v = true then .ok v k3 else .bad amp 2
def numberS (b : Bs) (amp : Int) (k : Nat) : R Int :=
  (peekS b k).bind fun r _ => if r = 120 then numB b 16 amp (k + ln b k) else numB b 10 amp k
def ampS (b : Bs) (amp : Int) (k : Nat) : R Int :=
  (peekS b k).bind fun r _ => if r = 109 then (wordS b amp [109, 112, 59] k).bind fun _ k' => .ok 38 k' else (wordS b amp [112, 111, 115, 59] k).bind fun _ k' => .ok 39 k'
def refS (b : Bs) (k : Nat) : R Int :=
  (takeS b k).bind fun _ k1 => (takeS b k1).bind fun r k2 =>
    if r = 35 then numberS b k k2
    else if r = 108 then (wordS b k [116, 59] k2).bind fun _ k' => .ok 60 k'
    else if r = 103 then (wordS b k [116, 59] k2).bind fun _ k' => .ok 62 k'
    else if r = 113 then (wordS b k [117, 111, 116, 59] k2).bind fun _ k' => .ok 34 k'
    else if r = 97 then ampS b k k2
    else .bad k 2

/-- What is put: the bytes so far, or the limit's fault. -/
def putS (T at0 : Int) (out : Bs) (r : Int) (k : Nat) : R Bs := if T < ((out ++ enc r).length : Int) then .bad at0 3 else .ok (out ++ enc r) k
def valL : Nat → Bs → Int → Int → Int → Bs → Nat → R Bs
  | 0, _, _, _, _, _, _ => .bad (-1) 9
  | n + 1, b, T, at0, q, out, k => (peekS b k).bind fun r _ =>
      if r = q then .ok out (k + ln b k)
      else if r = 60 then .bad k 2
      else if r = 38 then (refS b k).bind fun c k' => (putS T at0 out c k').bind fun o k2 => valL n b T at0 q o k2
      else if isWhite r = true then (lineS b k).bind fun _ k' => (putS T at0 out 32 k').bind fun o k2 => valL n b T at0 q o k2
      else (takeS b k).bind fun c k' => (putS T at0 out c k').bind fun o k2 => valL n b T at0 q o k2
def valueS (b : Bs) (T : Int) (k : Nat) : R Bs := (quoteS b k).bind fun q k' => valL (b.length + 1) b T k q [] k'
def eqS (b : Bs) (k : Nat) : R Unit := (blanksS b k).bind fun _ k1 => (signS b 61 k1).bind fun _ k2 => (blanksS b k2).bind fun _ k3 => .ok () k3

structure At where
  name : Bs
  value : Bs
  place : Int
  deriving Repr, DecidableEq
structure Ev where
  kind : Int
  place : Int
  name : Bs
  text : Bs
  attrs : List At
  deriving Repr, DecidableEq

def attrS (b : Bs) (T : Int) (ahead : List At) (k : Nat) : R At :=
  (nameS b T k).bind fun nm k1 => (peekS b k1).bind fun _ _ => if (ahead.any fun a => a.name == nm) = true then .bad k 2 else
    (eqS b k1).bind fun _ k2 => (valueS b T k2).bind fun v k3 => .ok ⟨nm, v, k⟩ k3

/-- A tag's attributes; whether it is empty; the place of its end. -/
def attrsL : Nat → Bs → Int → Int → List At → Nat → R (List At × Option Int)
  | 0, _, _, _, _, _ => .bad (-1) 9
  | n + 1, b, A, T, l, k => (blanksS b k).bind fun gap k1 => (peekS b k1).bind fun r _ =>
      if r = 62 then .ok (l, none) (k1 + ln b k1)
      else if r = 47 then (signS b 62 (k1 + ln b k1)).bind fun _ k2 => .ok (l, some k1) k2
      else if gap = false ∨ isStart r = false then .bad k1 2
      else if (l.length : Int) = A then .bad k1 3
      else (attrS b T l k1).bind fun a k2 => attrsL n b A T (l ++ [a]) k2

structure Lm where
  D : Int
  N : Int
  A : Int
  T : Int
/-- The parser's state. -/
structure S where
  k : Nat
  op : List Bs
  nodes : Int
  begun : Bool
  tat : Int
  tout : Bs
  ready : List Ev
  over : Bool
  deriving Repr, DecidableEq

inductive Q where
  | go (s : S)
  | bad (place err : Int)
  deriving Repr, DecidableEq
def R.q {α : Type} (x : R α) (f : α → Nat → Q) : Q := match x with | .ok a k => f a k | .bad p e => .bad p e

def tellS (s : S) (tag : List Ev) : S :=
  { s with ready := s.ready ++ (if 0 < s.tout.length then [⟨3, s.tat, [], s.tout, []⟩] else []) ++ tag, begun := false, tat := 0, tout := [] }
def tagS (b : Bs) (L : Lm) (s : S) (lt0 : Nat) (k : Nat) : Q :=
  (peekS b k).q fun r _ => if isStart r = false then .bad k 2 else if (s.op.length : Int) = L.D ∨ s.nodes = L.N then .bad lt0 3 else
    (nameS b L.T k).q fun nm k1 => (attrsL (b.length + 1) b L.A L.T [] k1).q fun p k2 => match p with
      | (l, none) => .go (tellS { s with nodes := s.nodes + 1, k := k2, op := s.op ++ [nm] } [⟨1, lt0, nm, [], l⟩])
      | (l, some sl) => .go (tellS { s with nodes := s.nodes + 1, k := k2 } [⟨1, lt0, nm, [], l⟩, ⟨2, sl, nm, [], []⟩])
def endS (b : Bs) (L : Lm) (s : S) (lt0 : Nat) (k : Nat) : Q :=
  (nameS b L.T k).q fun nm k1 =>
    if nm ≠ s.op.getLastD [] ∧ ¬ (k1 = b.length ∧ (s.op.getLastD []).take nm.length = nm) then .bad lt0 2 else
    (blanksS b k1).q fun _ k2 => (signS b 62 k2).q fun _ k3 => .go (tellS { s with k := k3, op := s.op.dropLast } [⟨2, lt0, nm, [], []⟩])
def beginS (s : S) (at0 : Int) : S := if s.begun = true then s else { s with begun := true, tat := at0, tout := [] }
def putQ (L : Lm) (s : S) (r : Int) (k : Nat) : Q := (putS L.T s.tat s.tout r k).q fun o k' => .go { s with tout := o, k := k' }

/-- A note, from behind its mark on. -/
def noteL : Nat → Bs → Nat → Nat → R Unit
  | 0, _, _, _ => .bad (-1) 9
  | n + 1, b, d, k => (takeS b k).bind fun r k' => if d = 2 then (if r = 62 then .ok () k' else .bad ((k : Int) - 2) 2) else if r = 45 then noteL n b (d + 1) k' else noteL n b 0 k'
def noteS (b : Bs) (lt0 : Int) (k : Nat) : R Unit := (wordS b lt0 [45, 45] k).bind fun _ k' => noteL (b.length + 1) b 0 k'
/-- Is a name xml, in any letters? -/
def foldX (nm : Bs) : Bool := decide (nm.length = 3 ∧ (nm.getD 0 0 = 120 ∨ nm.getD 0 0 = 88) ∧ (nm.getD 1 0 = 109 ∨ nm.getD 1 0 = 77) ∧ (nm.getD 2 0 = 108 ∨ nm.getD 2 0 = 76))
def instL : Nat → Bs → Bool → Nat → R Unit
  | 0, _, _, _ => .bad (-1) 9
  | n + 1, b, asked, k => (takeS b k).bind fun r k' => if asked = true ∧ r = 62 then .ok () k' else instL n b (r == 63) k'
def instS (b : Bs) (T : Int) (k : Nat) : R Unit :=
  (takeS b k).bind fun _ k1 => (nameS b T k1).bind fun nm k2 => (peekS b k2).bind fun _ _ => if foldX nm = true then .bad k1 2 else
    (blanksS b k2).bind fun gap k3 => if gap = true then instL (b.length + 1) b false k3 else (signS b 63 k3).bind fun _ k4 => signS b 62 k4
/-- So many brackets that were held come out. -/
def putR (T at0 : Int) : Nat → Bs → Nat → R Bs
  | 0, out, k => .ok out k
  | h + 1, out, k => (putS T at0 out 93 k).bind fun o _ => putR T at0 h o k
def cdL : Nat → Bs → Int → Int → Nat → Bs → Nat → R Bs
  | 0, _, _, _, _, _, _ => .bad (-1) 9
  | n + 1, b, T, at0, h, out, k => (lineS b k).bind fun r k' =>
      if r = 93 then (if h < 2 then cdL n b T at0 (h + 1) out k' else (putS T at0 out 93 k').bind fun o _ => cdL n b T at0 h o k')
      else if r = 62 ∧ h = 2 then .ok out k'
      else (putR T at0 h out k').bind fun o _ => (putS T at0 o r k').bind fun o2 _ => cdL n b T at0 0 o2 k'
def cdS (b : Bs) (L : Lm) (s : S) (lt0 : Nat) (k : Nat) : Q :=
  (wordS b lt0 [91, 67, 68, 65, 84, 65, 91] k).q fun _ k' => (cdL (b.length + 1) b L.T (beginS s lt0).tat 0 (beginS s lt0).tout k').q fun o k2 => .go { beginS s lt0 with tout := o, k := k2 }

def setS (b : Bs) (w : List Int) (val : Nat → R Unit) (k : Nat) : R Unit :=
  (wordS b k w k).bind fun _ k1 => (eqS b k1).bind fun _ k2 => (quoteS b k2).bind fun q k3 => (val k3).bind fun _ k4 => signS b q k4
def verS (b : Bs) (k : Nat) : R Unit := wordS b k [49, 46, 48] k
def encL (b : Bs) (blame : Int) : List (Int × Int) → Nat → R Unit
  | [], k => .ok () k
  | c :: cs, k => (takeS b k).bind fun r k' => if r = c.1 ∨ r = c.2 then encL b blame cs k' else .bad blame 2
def encS (b : Bs) (k : Nat) : R Unit := encL b k [(85, 117), (84, 116), (70, 102), (45, 45), (56, 56)] k
def staS (b : Bs) (k : Nat) : R Unit := (peekS b k).bind fun r _ => if r = 110 then wordS b k [110, 111] k else wordS b k [121, 101, 115] k
def dec1S (b : Bs) (gap : Bool) (k : Nat) : R Bool :=
  if gap = true then (peekS b k).bind fun r _ => if r = 101 then (setS b [101, 110, 99, 111, 100, 105, 110, 103] (encS b) k).bind fun _ k1 => blanksS b k1 else .ok true k else .ok false k
def dec2S (b : Bs) (gap : Bool) (k : Nat) : R Unit :=
  if gap = true then (peekS b k).bind fun r _ => if r = 115 then (setS b [115, 116, 97, 110, 100, 97, 108, 111, 110, 101] (staS b) k).bind fun _ k1 => (blanksS b k1).bind fun _ k2 => .ok () k2 else .ok () k else .ok () k
def declS (b : Bs) : R Unit :=
  (blanksS b 5).bind fun _ k1 => (setS b [118, 101, 114, 115, 105, 111, 110] (verS b) k1).bind fun _ k2 => (blanksS b k2).bind fun gap k3 =>
    (dec1S b gap k3).bind fun gap2 k4 => (dec2S b gap2 k4).bind fun _ k5 => (signS b 63 k5).bind fun _ k6 => signS b 62 k6
def isDecl (b : Bs) : Bool := decide (b.take 5 = [60, 63, 120, 109, 108] ∧ 5 < b.length ∧ isWhite (b.getD 5 0) = true)

def bangS (b : Bs) (L : Lm) (s : S) (lt0 : Nat) (k : Nat) : Q := (peekS b k).q fun r _ => if r = 91 then cdS b L s lt0 k else (noteS b lt0 k).q fun _ k' => .go { s with k := k' }
def markS (b : Bs) (L : Lm) (s : S) (lt0 : Nat) (k : Nat) : Q :=
  (peekS b k).q fun r _ => if r = 63 then (instS b L.T k).q fun _ k' => .go { s with k := k' } else if r = 33 then bangS b L s lt0 (k + ln b k) else if r = 47 then endS b L s lt0 (k + ln b k) else tagS b L s lt0 k
def contS (b : Bs) (L : Lm) (s : S) : Q :=
  (peekS b s.k).q fun r _ =>
    if r = 60 then markS b L s s.k (s.k + ln b s.k)
    else if r = 38 then (refS b s.k).q fun c k' => putQ L (beginS s s.k) c k'
    else if r = 62 ∧ 2 ≤ s.k ∧ b.getD (s.k - 1) 0 = 93 ∧ b.getD (s.k - 2) 0 = 93 then .bad ((s.k : Int) - 2) 2
    else (lineS b s.k).q fun c k' => putQ L (beginS s s.k) c k'
def outS (b : Bs) (L : Lm) (s : S) : Q :=
  (blanksS b s.k).q fun _ k1 => if k1 = b.length ∧ 0 < s.nodes then .go { s with k := k1, over := true } else
    (signS b 60 k1).q fun _ k2 => (peekS b k2).q fun r _ => if r = 63 then (instS b L.T k2).q fun _ k' => .go { s with k := k' } else if r = 33 then (noteS b k1 (k2 + ln b k2)).q fun _ k' => .go { s with k := k' } else if r = 47 then .bad k1 2 else
      if 0 < s.nodes then .bad k1 2 else tagS b L s k1 k2
def readS (b : Bs) (L : Lm) (s : S) : Q :=
  if 0 < s.op.length then contS b L s else if s.k = 0 ∧ isDecl b = true then (declS b).q fun _ k => outS b L { s with k := k } else outS b L s

/-- What Next answers: an event, or the end (0, 0) or a fault. -/
inductive Nx where
  | ev (e : Ev) (s : S)
  | fin (place err : Int)
  deriving Repr, DecidableEq
def nextS : Nat → Bs → Lm → S → Nx
  | 0, _, _, _ => .fin (-1) 9
  | n + 1, b, L, s => match s.ready with
    | e :: es => .ev e { s with ready := es }
    | [] => if s.over = true then .fin 0 0 else match readS b L s with
      | .go s' => nextS n b L s'
      | .bad p e => .fin p e
def allS : Nat → Bs → Lm → S → List Ev → List Ev × Int × Int
  | 0, _, _, _, acc => (acc, -1, 9)
  | n + 1, b, L, s, acc => match nextS (b.length + 2) b L s with
    | .fin p e => (acc, p, e)
    | .ev e s' => allS n b L s' (acc ++ [e])
def s0 : S := ⟨0, [], 0, false, 0, [], [], false⟩
def narS (own most : Int) : Int := if own ≤ 0 then most else min own most
def limS (d n a t : Int) : Lm := ⟨narS d 64, narS n 4096, narS a 64, narS t 4096⟩
def allB (b : Bs) (L : Lm) : List Ev × Int × Int := if 65536 < b.length then ([], 0, 3) else allS (4 * b.length + 3) b L s0 []
def escS (attr : Bool) : Bs → Bs
  | [] => []
  | c :: cs => (if c = 38 then [38, 97, 109, 112, 59] else if c = 60 then [38, 108, 116, 59] else if c = 62 then [38, 103, 116, 59] else if c = 13 then [38, 35, 120, 68, 59]
      else if attr = true ∧ c = 34 then [38, 113, 117, 111, 116, 59] else if attr = true ∧ c = 9 then [38, 35, 120, 57, 59] else if attr = true ∧ c = 10 then [38, 35, 120, 65, 59] else [c]) ++ escS attr cs
end Go.Proofs.YtjcgnbmpnaapdaaDoor
namespace Go.Proofs.YtjcgnbmpnaapdaaDoor.M
set_option linter.unusedVariables false
variable {α β : Type}

theorem bind_ok (a : α) (k : Nat) (f : α → Nat → R β) : (R.ok a k).bind f = f a k := rfl
theorem bind_bad (p e : Int) (f : α → Nat → R β) : (R.bad p e : R α).bind f = .bad p e := rfl
theorem bind_inv {x : R α} {f : α → Nat → R β} {b : β} {k : Nat} (h : x.bind f = .ok b k) : ∃ a j, x = .ok a j ∧ f a j = .ok b k := by
  cases x with
  | ok a j => exact ⟨a, j, rfl, h⟩
  | bad p e => cases h
theorem fin_zero {r n : Int} (h : (fin r n).2 = 0) (hn : n ≠ 0) : (fin r n).1 = -1 := by
  unfold fin at *
  split at h
  · simp at h; omega
  · rename_i h1; rw [if_neg h1]
def Zr (p : Int × Int) : Prop := p.2 = 0 → p.1 = -1
theorem dec_zr (l : Bs) : Zr (dec l) := by
  unfold dec dec2 dec3 dec4
  repeat' split
  all_goals (first | exact fun _ => rfl | exact fun h => fin_zero h (by decide) | (intro h; simp at h))
theorem okl_pos {l : Bs} {k : Nat} (h : okl l k = true) : (dec (l.drop k)).2 ≠ 0 := by
  intro h0
  have := dec_zr _ h0
  unfold okl lt at h
  rw [this] at h
  revert h
  decide
theorem ln_pos {l : Bs} {k : Nat} (h : okl l k = true) : 1 ≤ ln l k := by
  have := okl_pos h
  have hb := dec_bd (l.drop k)
  unfold ln
  omega
theorem okl_lt {l : Bs} {k : Nat} (h : okl l k = true) : k < l.length := by
  rcases Nat.lt_or_ge k l.length with hk | hk
  · exact hk
  · exfalso
    have := okl_pos h
    rw [List.drop_eq_nil_of_le hk] at this
    exact this rfl
theorem okl_end {l : Bs} {k : Nat} (h : l.length ≤ k) : okl l k = false := by
  cases hh : okl l k
  · rfl
  · have := okl_lt hh; omega
theorem ln_le (l : Bs) (k : Nat) (hk : k ≤ l.length) : k + ln l k ≤ l.length := by
  have := dec_bd (l.drop k)
  unfold ln
  simp at this
  omega
/-- The letter at a row's front hangs on its own bytes alone. -/
theorem dec_app (l m : Bs) (h : (dec l).2 ≠ 0) : dec (l ++ m) = dec l := by
  match l with
  | [] => exact absurd rfl h
  | [a] =>
    by_cases h0 : a < 128
    · simp [dec, h0]
    · exfalso; apply h; simp [dec, h0]
  | [a, b] =>
    by_cases h0 : a < 128
    · simp [dec, h0]
    by_cases h1 : a < 192
    · exfalso; apply h; simp [dec, h0, h1]
    by_cases h2 : a < 224
    · simp [dec, h0, h1, h2]
    · exfalso; apply h; simp [dec, h0, h1, h2]
  | [a, b, c] =>
    by_cases h0 : a < 128
    · simp [dec, h0]
    by_cases h1 : a < 192
    · exfalso; apply h; simp [dec, h0, h1]
    by_cases h2 : a < 224
    · simp [dec, h0, h1, h2]
    by_cases h3 : a < 240
    · simp [dec, h0, h1, h2, h3]
    · exfalso; apply h; simp [dec, h0, h1, h2, h3]
  | a :: b :: c :: d :: t =>
    simp [dec]
theorem take_drop_app (b : Bs) (c k : Nat) : b.drop k = (b.take c).drop k ++ b.drop (max k c) := by
  rw [List.drop_take]
  rcases Nat.le_total k c with h | h
  · have e : b.drop (max k c) = (b.drop k).drop (c - k) := by rw [List.drop_drop]; congr 1; omega
    rw [e, List.take_append_drop]
  · have e : c - k = 0 := by omega
    rw [e, Nat.max_eq_left h]; simp
theorem okl_take {b : Bs} {c k : Nat} (h : okl (b.take c) k = true) : okl b k = true ∧ lt b k = lt (b.take c) k ∧ ln b k = ln (b.take c) k := by
  have hp := okl_pos h
  have e := dec_app _ (b.drop (max k c)) hp
  rw [← take_drop_app] at e
  have e1 : lt b k = lt (b.take c) k := by unfold lt; rw [e]
  refine ⟨?_, e1, ?_⟩
  · unfold okl at h ⊢; rw [e1]; exact h
  · unfold ln; rw [e]

/-- From k on: it goes on within the bytes; a fault lies there. -/
def Gd (b : Bs) (k : Nat) (x : R α) : Prop := match x with | .ok _ k' => k ≤ k' ∧ k' ≤ b.length | .bad p e => p ≤ (b.length : Int) ∧ e ≠ 0
theorem Gd.le {b : Bs} {k k' : Nat} {x : R α} (h : Gd b k' x) (hk : k ≤ k') : Gd b k x := by
  cases x with
  | ok a j => exact ⟨Nat.le_trans hk h.1, h.2⟩
  | bad p e => exact h
theorem Gd.bind {b : Bs} {k : Nat} {x : R α} {f : α → Nat → R β} (h : Gd b k x) (hf : ∀ a k', x = .ok a k' → k ≤ k' → k' ≤ b.length → Gd b k' (f a k')) : Gd b k (x.bind f) := by
  cases x with
  | ok a k' => exact (hf a k' rfl h.1 h.2).le h.1
  | bad p e => exact h
theorem Gd.ok {b : Bs} {k k' : Nat} {a : α} (h : k ≤ k') (h2 : k' ≤ b.length) : Gd b k (.ok a k' : R α) := ⟨h, h2⟩
theorem Gd.bad {b : Bs} {k : Nat} {p e : Int} (h : p ≤ (b.length : Int)) (h2 : e ≠ 0) : Gd b k (.bad p e : R α) := ⟨h, h2⟩
theorem Gd.use {b : Bs} {k k' : Nat} {x : R α} {a : α} (h : Gd b k x) (e : x = .ok a k') : k ≤ k' ∧ k' ≤ b.length := by subst e; exact h

/-- By narrower limits: the same, or a limit's fault. -/
def Lim (x y : R α) : Prop := x = y ∨ ∃ p, x = .bad p 3
theorem Lim.rfl {x : R α} : Lim x x := .inl (Eq.refl _)
theorem Lim.bad {p : Int} {y : R α} : Lim (.bad p 3) y := .inr ⟨p, Eq.refl _⟩
theorem Lim.bind {x y : R α} {f g : α → Nat → R β} (h : Lim x y) (hf : ∀ a k, Lim (f a k) (g a k)) : Lim (x.bind f) (y.bind g) := by
  rcases h with rfl | ⟨p, rfl⟩
  · cases x with
    | ok a k => exact hf a k
    | bad p e => exact .inl (Eq.refl _)
  · exact .inr ⟨p, Eq.refl _⟩

/-- By a front of c bytes: the same of the whole, or it stands at the front's end. -/
def FI (c : Nat) (x y : R α) : Prop := ∀ a k, x = .ok a k → y = .ok a k ∨ c ≤ k
theorem FI.bind {b : Bs} {c : Nat} {x y : R α} {f g : α → Nat → R β} (h : FI c x y) (hg : ∀ a k, x = .ok a k → Gd b k (f a k)) (hf : ∀ a k, x = .ok a k → FI c (f a k) (g a k)) : FI c (x.bind f) (y.bind g) := by
  intro r k hr
  obtain ⟨a, j, h1, h2⟩ := bind_inv hr
  rcases h a j h1 with h3 | h3
  · rw [h3, bind_ok]
    exact hf a j h1 r k h2
  · exact .inr (Nat.le_trans h3 ((hg a j h1).use h2).1)
theorem FI.bad {c : Nat} {p e : Int} {y : R α} : FI c (.bad p e) y := by intro a k h; cases h
theorem FI.ok {c k : Nat} {a : α} : FI c (.ok a k) (.ok a k) := by intro a k h; exact .inl h

theorem take_gd {b : Bs} {k : Nat} (hk : k ≤ b.length) : Gd b k (takeS b k) := by
  unfold takeS
  split
  · exact .ok (by omega) (ln_le b k hk)
  · exact .bad (by omega) (by decide)
theorem peek_gd {b : Bs} {k : Nat} (hk : k ≤ b.length) : Gd b k (peekS b k) := by
  unfold peekS
  split
  · exact .ok (by omega) hk
  · exact .bad (by omega) (by decide)
theorem take_fi {b : Bs} {c k : Nat} : FI c (takeS (b.take c) k) (takeS b k) := by
  intro a j h
  unfold takeS at h
  split at h
  · rename_i ho
    obtain ⟨h1, h2, h3⟩ := okl_take ho
    cases h
    left
    rw [takeS, if_pos h1, h2, h3]
  · cases h
theorem peek_fi {b : Bs} {c k : Nat} : FI c (peekS (b.take c) k) (peekS b k) := by
  intro a j h
  unfold peekS at h
  split at h
  · rename_i ho
    obtain ⟨h1, h2, h3⟩ := okl_take ho
    cases h
    left
    rw [peekS, if_pos h1, h2]
  · cases h
theorem peek_inv {b : Bs} {k k' : Nat} {r : Int} (h : peekS b k = .ok r k') : okl b k = true ∧ r = lt b k ∧ k' = k := by
  unfold peekS at h
  split at h
  · cases h; exact ⟨‹_›, rfl, rfl⟩
  · cases h
theorem take_inv {b : Bs} {k k' : Nat} {r : Int} (h : takeS b k = .ok r k') : okl b k = true ∧ r = lt b k ∧ k' = k + ln b k := by
  unfold takeS at h
  split at h
  · cases h; exact ⟨‹_›, rfl, rfl⟩
  · cases h
theorem line_gd {b : Bs} {k : Nat} (hk : k ≤ b.length) : Gd b k (lineS b k) := by
  unfold lineS
  refine (take_gd hk).bind ?_
  intro r k' _ _ hk'
  split
  · split
    · exact .ok (by omega) (by omega)
    · exact .ok (by omega) hk'
  · exact .ok (by omega) hk'
theorem line_fi {b : Bs} {c k : Nat} (hc : c ≤ b.length) : FI c (lineS (b.take c) k) (lineS b k) := by
  intro a j h
  unfold lineS at h ⊢
  obtain ⟨r, k1, h1, h2⟩ := bind_inv h
  have hk1 : k1 ≤ c := by
    obtain ⟨ho, _, rfl⟩ := take_inv h1
    have hlt := okl_lt ho
    have := ln_le (b.take c) k (by omega)
    simp at this
    omega
  rcases take_fi r k1 h1 with h3 | h3
  · rw [h3, bind_ok]
    split at h2
    · rename_i h13
      split at h2
      · rename_i hx
        cases h2
        left
        rw [if_pos h13]
        have h10 : b.getD k1 0 = 10 := by
          have h0 := hx.1
          have h1 := hx.2
          simp at h0
          rw [List.getD_eq_getElem?_getD, List.getElem?_take, if_pos (by omega)] at h1
          rw [List.getD_eq_getElem?_getD]
          exact h1
        have h0 := hx.1
        simp at h0
        rw [if_pos ⟨by omega, h10⟩]
      · rename_i hx
        injection h2 with e1 e2
        subst e1
        subst e2
        rcases Nat.lt_or_ge k1 c with hlt | hge
        · left
          rw [if_pos h13, if_neg]
          rintro ⟨q1, q2⟩
          apply hx
          refine ⟨by simp; omega, ?_⟩
          rw [List.getD_eq_getElem?_getD] at q2 ⊢
          rw [List.getElem?_take, if_pos hlt]
          exact q2
        · exact .inr hge
    · rename_i h13
      cases h2
      left
      rw [if_neg h13]
  · right
    split at h2
    · split at h2 <;> cases h2 <;> omega
    · cases h2; exact h3
theorem blk_gd {b : Bs} : ∀ {n k : Nat}, k ≤ b.length → Gd b k (blkS n b k)
  | 0, k, hk => .ok (Nat.le_refl _) hk
  | n + 1, k, hk => by
    rw [blkS]
    split
    · exact .ok (Nat.le_refl _) hk
    split
    · split
      · exact (blk_gd (ln_le b k hk)).le (by omega)
      · exact .ok (Nat.le_refl _) hk
    · exact .bad (by omega) (by decide)
theorem blk_fi {b : Bs} {c : Nat} (hc : c ≤ b.length) : ∀ {n m k : Nat}, c - k ≤ n → n ≤ m → k ≤ c → FI c (blkS n (b.take c) k) (blkS m b k)
  | 0, m, k, h1, h2, hk => by
    intro a j h
    rw [blkS] at h
    cases h
    exact .inr (by omega)
  | n + 1, 0, k, h1, h2, hk => by omega
  | n + 1, m + 1, k, h1, h2, hk => by
    have hl : (b.take c).length = c := by simp; omega
    intro a j h
    rw [blkS, hl] at h
    split at h
    · cases h; exact .inr (by omega)
    · split at h
      · rename_i hne ho
        obtain ⟨o1, o2, o3⟩ := okl_take ho
        have hp := ln_pos ho
        have hle := ln_le (b.take c) k (by omega)
        rw [hl] at hle
        rw [blkS, if_neg (by have := okl_lt o1; omega), if_pos o1, o2, o3]
        split at h
        · rename_i hw
          rw [if_pos hw]
          exact blk_fi hc (by omega) (by omega) hle a j h
        · rename_i hw
          rw [if_neg hw]
          exact .inl h
      · cases h
theorem blanks_gd {b : Bs} {k : Nat} (hk : k ≤ b.length) : Gd b k (blanksS b k) := by
  unfold blanksS
  exact (blk_gd hk).bind fun _ _ _ _ h => .ok (Nat.le_refl _) h
theorem blanks_fi {b : Bs} {c k : Nat} (hc : c ≤ b.length) (hk : k ≤ c) : FI c (blanksS (b.take c) k) (blanksS b k) := by
  have hl : (b.take c).length = c := by simp; omega
  unfold blanksS
  rw [hl]
  refine FI.bind (b := b.take c) (blk_fi hc (Nat.le_refl _) (by omega) hk) ?_ ?_
  · intro a j h
    have := (blk_gd (b := b.take c) (k := k) (n := c - k) (by omega)).use h
    exact .ok (Nat.le_refl _) this.2
  · intro a j h; exact .ok
theorem word_gd {b : Bs} {blame : Int} (hb : blame ≤ b.length) : ∀ {w : List Int} {k : Nat}, k ≤ b.length → Gd b k (wordS b blame w k)
  | [], k, hk => .ok (Nat.le_refl _) hk
  | x :: w, k, hk => by
    rw [wordS]
    refine (take_gd hk).bind ?_
    intro r k' _ _ hk'
    split
    · exact word_gd hb hk'
    · exact .bad hb (by decide)
theorem word_fi {b : Bs} {c : Nat} {blame : Int} (hb : blame ≤ (b.take c).length) : ∀ {w : List Int} {k : Nat}, k ≤ (b.take c).length → FI c (wordS (b.take c) blame w k) (wordS b blame w k)
  | [], k, hk => .ok
  | x :: w, k, hk => by
    rw [wordS, wordS]
    refine FI.bind (b := b.take c) take_fi ?_ ?_
    · intro r k' h
      have hk' := ((take_gd hk).use h).2
      split
      · exact word_gd hb hk'
      · exact .bad hb (by decide)
    · intro r k' h
      have hk' := ((take_gd hk).use h).2
      split
      · exact word_fi hb hk'
      · exact .bad
theorem sign_gd {b : Bs} {r : Int} {k : Nat} (hk : k ≤ b.length) : Gd b k (signS b r k) := by
  unfold signS
  split
  · exact .ok (by omega) (ln_le b k hk)
  · exact .bad (by omega) (by decide)
theorem sign_inv {b : Bs} {r : Int} {k k' : Nat} (h : signS b r k = .ok () k') : okl b k = true ∧ lt b k = r ∧ k' = k + ln b k := by
  unfold signS at h
  split at h
  · rename_i hh; cases h; exact ⟨hh.1, hh.2, rfl⟩
  · cases h
theorem sign_fe {b : Bs} {c k k' : Nat} {r : Int} (h : signS (b.take c) r k = .ok () k') : signS b r k = .ok () k' := by
  obtain ⟨h1, h2, h3⟩ := sign_inv h
  obtain ⟨o1, o2, o3⟩ := okl_take h1
  rw [signS, if_pos ⟨o1, by rw [o2]; exact h2⟩, o3, h3]
theorem sign_fi {b : Bs} {c k : Nat} {r : Int} : FI c (signS (b.take c) r k) (signS b r k) := by
  intro a j h; cases a; exact .inl (sign_fe h)
theorem quote_gd {b : Bs} {k : Nat} (hk : k ≤ b.length) : Gd b k (quoteS b k) := by
  unfold quoteS
  split
  · exact .ok (by omega) (ln_le b k hk)
  · exact .bad (by omega) (by decide)
theorem quote_fi {b : Bs} {c k : Nat} : FI c (quoteS (b.take c) k) (quoteS b k) := by
  intro a j h
  unfold quoteS at h
  split at h
  · rename_i hh
    obtain ⟨o1, o2, o3⟩ := okl_take hh.1
    cases h
    left
    rw [quoteS, if_pos ⟨o1, by rw [o2]; exact hh.2⟩, o2, o3]
  · cases h
end Go.Proofs.YtjcgnbmpnaapdaaDoor.M
namespace Go.Proofs.YtjcgnbmpnaapdaaDoor.M
set_option linter.unusedVariables false
variable {α β : Type}

theorem nm_gd {b : Bs} {T : Int} {k : Nat} (hk : k ≤ b.length) : ∀ {n j : Nat}, j ≤ b.length → Gd b j (nmS n b T k j)
  | 0, j, hj => .ok (Nat.le_refl _) hj
  | n + 1, j, hj => by
    rw [nmS]
    split
    · exact .ok (Nat.le_refl _) hj
    split
    · split
      · split
        · exact .bad (by omega) (by decide)
        · exact (nm_gd hk (ln_le b j hj)).le (by omega)
      · exact .ok (Nat.le_refl _) hj
    · exact .bad (by omega) (by decide)
theorem nm_fi {b : Bs} {T : Int} {c k : Nat} (hc : c ≤ b.length) : ∀ {n m j : Nat}, c - j ≤ n → n ≤ m → j ≤ c → FI c (nmS n (b.take c) T k j) (nmS m b T k j)
  | 0, m, j, h1, h2, hj => by
    intro a i h
    rw [nmS] at h
    cases h
    exact .inr (by omega)
  | n + 1, 0, j, h1, h2, hj => by omega
  | n + 1, m + 1, j, h1, h2, hj => by
    have hl : (b.take c).length = c := by simp; omega
    intro a i h
    rw [nmS, hl] at h
    split at h
    · cases h; exact .inr (by omega)
    · split at h
      · rename_i hne ho
        obtain ⟨o1, o2, o3⟩ := okl_take ho
        have hp := ln_pos ho
        have hle := ln_le (b.take c) j (by omega)
        rw [hl] at hle
        rw [nmS, if_neg (by have := okl_lt o1; omega), if_pos o1, o2, o3]
        split at h
        · rename_i hw
          rw [if_pos hw]
          split at h
          · cases h
          · rename_i hT
            rw [if_neg hT]
            exact nm_fi hc (by omega) (by omega) hle a i h
        · rename_i hw
          rw [if_neg hw]
          exact .inl h
      · cases h
theorem nm_lim {b : Bs} {T T' : Int} {k : Nat} (hT : T' ≤ T) : ∀ {n j : Nat}, Lim (nmS n b T' k j) (nmS n b T k j)
  | 0, j => .rfl
  | n + 1, j => by
    rw [nmS, nmS]
    split
    · exact .rfl
    split
    · split
      · by_cases h : T' < ((j + ln b j : Nat) : Int) - k
        · rw [if_pos h]; exact .bad
        · rw [if_neg h, if_neg (by omega)]; exact nm_lim hT
      · exact .rfl
    · exact .rfl
theorem sub_take {b : Bs} {c k j : Nat} (h : j ≤ c) : sub (b.take c) k j = sub b k j := by
  unfold sub
  rw [List.drop_take, List.take_take]
  congr 1
  omega
theorem name_gd {b : Bs} {T : Int} {k : Nat} (hk : k ≤ b.length) : Gd b k (nameS b T k) := by
  unfold nameS
  split
  · exact (nm_gd hk hk).bind fun _ _ _ _ h => .ok (Nat.le_refl _) h
  · exact .bad (by omega) (by decide)
theorem name_fi {b : Bs} {T : Int} {c k : Nat} (hc : c ≤ b.length) (hk : k ≤ c) : FI c (nameS (b.take c) T k) (nameS b T k) := by
  have hl : (b.take c).length = c := by simp; omega
  unfold nameS
  split
  · rename_i hh
    obtain ⟨o1, o2, o3⟩ := okl_take hh.1
    rw [if_pos ⟨o1, by rw [o2]; exact hh.2⟩, hl]
    refine FI.bind (b := b.take c) (nm_fi hc (Nat.le_refl _) (by omega) hk) ?_ ?_
    · intro a j h
      have := (nm_gd (b := b.take c) (T := T) (k := k) (n := c - k) (by omega) (by omega)).use h
      exact .ok (Nat.le_refl _) this.2
    · intro a j h
      have := (nm_gd (b := b.take c) (T := T) (k := k) (n := c - k) (by omega) (by omega)).use h
      rw [sub_take (by omega)]
      exact .ok
  · exact .bad
theorem name_lim {b : Bs} {T T' : Int} {k : Nat} (hT : T' ≤ T) : Lim (nameS b T' k) (nameS b T k) := by
  unfold nameS
  split
  · exact (nm_lim hT).bind fun _ _ => .rfl
  · exact .rfl
theorem digit_gd {b : Bs} {base amp : Int} {k : Nat} (ha : amp ≤ b.length) (hk : k ≤ b.length) : Gd b k (digitS b base amp k) := by
  unfold digitS
  refine (take_gd hk).bind ?_
  intro r k' _ _ hk'
  split
  · exact .ok (Nat.le_refl _) hk'
  · exact .bad ha (by decide)
theorem digit_fi {b : Bs} {base amp : Int} {c k : Nat} (ha : amp ≤ (b.take c).length) (hk : k ≤ (b.take c).length) : FI c (digitS (b.take c) base amp k) (digitS b base amp k) := by
  unfold digitS
  refine FI.bind (b := b.take c) take_fi ?_ ?_
  · intro r k' h
    have hk' := ((take_gd hk).use h).2
    split
    · exact .ok (Nat.le_refl _) hk'
    · exact .bad ha (by decide)
  · intro r k' h
    split
    · exact .ok
    · exact .bad
theorem numL_gd {b : Bs} {base amp : Int} (ha : amp ≤ b.length) : ∀ {n : Nat} {v : Int} {k : Nat}, k ≤ b.length → Gd b k (numL n b base amp v k)
  | 0, v, k, hk => .bad (by omega) (by decide)
  | n + 1, v, k, hk => by
    rw [numL]
    refine (peek_gd hk).bind ?_
    intro r k' _ h1 h2
    split
    · exact .ok (by have := (peek_inv ‹_›).2.2; omega) hk
    · have e := (peek_inv ‹_›).2.2
      refine Gd.le (k' := k) ?_ (by omega)
      refine (digit_gd ha hk).bind ?_
      intro d k2 _ _ hk2
      split
      · exact .bad ha (by decide)
      · exact numL_gd ha hk2
theorem numL_fi {b : Bs} {c : Nat} {base amp : Int} (ha : amp ≤ (b.take c).length) : ∀ {n m : Nat} {v : Int} {k : Nat}, n ≤ m → k ≤ (b.take c).length → FI c (numL n (b.take c) base amp v k) (numL m b base amp v k)
  | 0, m, v, k, hm, hk => .bad
  | n + 1, 0, v, k, hm, hk => by omega
  | n + 1, m + 1, v, k, hm, hk => by
    rw [numL, numL]
    have hg : ∀ d k2, digitS (b.take c) base amp k = .ok d k2 → Gd (b.take c) k2 (if 1114111 < v * base + d then (.bad amp 2 : R Int) else numL n (b.take c) base amp (v * base + d) k2) := by
      intro d k2 h
      have hk2 := ((digit_gd ha hk).use h).2
      split
      · exact .bad ha (by decide)
      · exact numL_gd ha hk2
    refine FI.bind (b := b.take c) peek_fi ?_ ?_
    · intro r k' h
      have e := (peek_inv h).2.2
      subst e
      split
      · exact .ok (Nat.le_refl _) hk
      · exact (digit_gd ha hk).bind fun d k2 h _ _ => hg d k2 h
    · intro r k' h
      split
      · exact .ok
      · refine FI.bind (b := b.take c) (digit_fi ha hk) hg ?_
        intro d k2 h
        have hk2 := ((digit_gd ha hk).use h).2
        split
        · exact .bad
        · exact numL_fi ha (by omega) hk2
theorem numB_gd {b : Bs} {base amp : Int} {k : Nat} (ha : amp ≤ b.length) (hk : k ≤ b.length) : Gd b k (numB b base amp k) := by
  unfold numB
  refine (digit_gd ha hk).bind fun d k1 _ _ h1 => (numL_gd ha h1).bind fun v k2 _ _ h2 => (take_gd h2).bind fun _ k3 _ _ h3 => ?_
  split
  · exact .ok (Nat.le_refl _) h3
  · exact .bad ha (by decide)
theorem numB_fi {b : Bs} {base amp : Int} {c k : Nat} (hc : c ≤ b.length) (ha : amp ≤ (b.take c).length) (hk : k ≤ (b.take c).length) : FI c (numB (b.take c) base amp k) (numB b base amp k) := by
  have hl : (b.take c).length = c := by simp; omega
  have g3 : ∀ (v : Int) (k3 : Nat), k3 ≤ (b.take c).length → Gd (b.take c) k3 (if isChar v = true then (.ok v k3 : R Int) else .bad amp 2) := by
    intro v k3 h3
    split
    · exact .ok (Nat.le_refl _) h3
    · exact .bad ha (by decide)
  have g2 : ∀ (v : Int) (k2 : Nat), k2 ≤ (b.take c).length → Gd (b.take c) k2 ((takeS (b.take c) k2).bind fun _ k3 => if isChar v = true then (.ok v k3 : R Int) else .bad amp 2) := by
    intro v k2 h2
    exact (take_gd h2).bind fun _ k3 _ _ h3 => g3 v k3 h3
  unfold numB
  refine FI.bind (b := b.take c) (digit_fi ha hk) (fun d k1 h => ?_) (fun d k1 h => ?_)
  · have h1 := ((digit_gd ha hk).use h).2
    exact (numL_gd ha h1).bind fun v k2 _ _ h2 => g2 v k2 h2
  · have h1 := ((digit_gd ha hk).use h).2
    refine FI.bind (b := b.take c) (numL_fi ha (by omega) h1) (fun v k2 h => g2 v k2 ((numL_gd ha h1).use h).2) (fun v k2 h => ?_)
    refine FI.bind (b := b.take c) take_fi (fun _ k3 h3 => g3 v k3 ((take_gd ((numL_gd ha h1).use h).2).use h3).2) (fun _ k3 h3 => ?_)
    split
    · exact .ok
    · exact .bad
theorem number_gd {b : Bs} {amp : Int} {k : Nat} (ha : amp ≤ b.length) (hk : k ≤ b.length) : Gd b k (numberS b amp k) := by
  unfold numberS
  refine (peek_gd hk).bind fun r k' h _ _ => ?_
  have e := (peek_inv h).2.2
  subst e
  split
  · exact (numB_gd ha (ln_le b k' hk)).le (by omega)
  · exact numB_gd ha hk
theorem number_fi {b : Bs} {amp : Int} {c k : Nat} (hc : c ≤ b.length) (ha : amp ≤ (b.take c).length) (hk : k ≤ (b.take c).length) : FI c (numberS (b.take c) amp k) (numberS b amp k) := by
  unfold numberS
  have hle := ln_le (b.take c) k hk
  refine FI.bind (b := b.take c) peek_fi (fun r k' h => ?_) (fun r k' h => ?_)
  · obtain ⟨ho, _, rfl⟩ := peek_inv h
    split
    · exact (numB_gd ha hle).le (by omega)
    · exact numB_gd ha hk
  · obtain ⟨ho, _, rfl⟩ := peek_inv h
    obtain ⟨o1, o2, o3⟩ := okl_take ho
    split
    · rw [o3]; exact numB_fi hc ha hle
    · exact numB_fi hc ha hk
theorem amp_gd {b : Bs} {amp : Int} {k : Nat} (ha : amp ≤ b.length) (hk : k ≤ b.length) : Gd b k (ampS b amp k) := by
  unfold ampS
  refine (peek_gd hk).bind fun r k' h _ _ => ?_
  have e := (peek_inv h).2.2
  subst e
  split
  · exact (word_gd ha hk).bind fun _ _ _ _ h => .ok (Nat.le_refl _) h
  · exact (word_gd ha hk).bind fun _ _ _ _ h => .ok (Nat.le_refl _) h
theorem wordv_gd {b : Bs} {blame v : Int} {w : List Int} {k : Nat} (hb : blame ≤ b.length) (hk : k ≤ b.length) : Gd b k ((wordS b blame w k).bind fun _ k' => (.ok v k' : R Int)) :=
  (word_gd hb hk).bind fun _ _ _ _ h => .ok (Nat.le_refl _) h
theorem wordv_fi {b : Bs} {blame v : Int} {c : Nat} {w : List Int} {k : Nat} (hb : blame ≤ (b.take c).length) (hk : k ≤ (b.take c).length) :
    FI c ((wordS (b.take c) blame w k).bind fun _ k' => (.ok v k' : R Int)) ((wordS b blame w k).bind fun _ k' => (.ok v k' : R Int)) :=
  FI.bind (b := b.take c) (word_fi hb hk) (fun _ k' h => .ok (Nat.le_refl _) ((word_gd hb hk).use h).2) (fun _ _ _ => .ok)
theorem amp_fi {b : Bs} {amp : Int} {c k : Nat} (ha : amp ≤ (b.take c).length) (hk : k ≤ (b.take c).length) : FI c (ampS (b.take c) amp k) (ampS b amp k) := by
  unfold ampS
  refine FI.bind (b := b.take c) peek_fi (fun r k' h => ?_) (fun r k' h => ?_)
  · obtain ⟨ho, _, rfl⟩ := peek_inv h
    split <;> exact wordv_gd ha hk
  · split <;> exact wordv_fi ha hk
theorem ref_gd {b : Bs} {k : Nat} (hk : k ≤ b.length) : Gd b k (refS b k) := by
  unfold refS
  refine (take_gd hk).bind fun _ k1 _ _ h1 => (take_gd h1).bind fun r k2 _ _ h2 => ?_
  have ha : (k : Int) ≤ b.length := by omega
  split
  · exact number_gd ha h2
  split
  · exact wordv_gd ha h2
  split
  · exact wordv_gd ha h2
  split
  · exact wordv_gd ha h2
  split
  · exact amp_gd ha h2
  · exact .bad ha (by decide)
theorem ref_fi {b : Bs} {c k : Nat} (hc : c ≤ b.length) (hk : k ≤ (b.take c).length) : FI c (refS (b.take c) k) (refS b k) := by
  have ha : (k : Int) ≤ (b.take c).length := by omega
  have g2 : ∀ (r : Int) (k2 : Nat), k2 ≤ (b.take c).length → Gd (b.take c) k2 (
    if r = 35 then numberS (b.take c) k k2
    else if r = 108 then (wordS (b.take c) k [116, 59] k2).bind fun _ k' => .ok 60 k'
    else if r = 103 then (wordS (b.take c) k [116, 59] k2).bind fun _ k' => .ok 62 k'
    else if r = 113 then (wordS (b.take c) k [117, 111, 116, 59] k2).bind fun _ k' => .ok 34 k'
    else if r = 97 then ampS (b.take c) k k2
    else .bad k 2) := by
    intro r k2 h2
    split
    · exact number_gd ha h2
    split
    · exact wordv_gd ha h2
    split
    · exact wordv_gd ha h2
    split
    · exact wordv_gd ha h2
    split
    · exact amp_gd ha h2
    · exact .bad ha (by decide)
  unfold refS
  refine FI.bind (b := b.take c) take_fi (fun _ k1 h => (take_gd ((take_gd hk).use h).2).bind fun r k2 _ _ h2 => g2 r k2 h2) (fun _ k1 h1 => ?_)
  have hk1 := ((take_gd hk).use h1).2
  refine FI.bind (b := b.take c) take_fi (fun r k2 h => g2 r k2 ((take_gd hk1).use h).2) (fun r k2 h => ?_)
  have h2 := ((take_gd hk1).use h).2
  split
  · exact number_fi hc ha h2
  split
  · exact wordv_fi ha h2
  split
  · exact wordv_fi ha h2
  split
  · exact wordv_fi ha h2
  split
  · exact amp_fi ha h2
  · exact .bad
theorem put_gd {b : Bs} {T at0 : Int} {out : Bs} {r : Int} {k : Nat} (ha : at0 ≤ b.length) (hk : k ≤ b.length) : Gd b k (putS T at0 out r k) := by
  unfold putS
  split
  · exact .bad ha (by decide)
  · exact .ok (Nat.le_refl _) hk
theorem put_inv {T at0 : Int} {out o : Bs} {r : Int} {k k' : Nat} (h : putS T at0 out r k = .ok o k') : k' = k ∧ o = out ++ enc r ∧ ((out ++ enc r).length : Int) ≤ T := by
  unfold putS at h
  split at h
  · cases h
  · injection h with e1 e2; exact ⟨e2.symm, e1.symm, by omega⟩
theorem put_lim {T T' at0 : Int} {out : Bs} {r : Int} {k : Nat} (hT : T' ≤ T) : Lim (putS T' at0 out r k) (putS T at0 out r k) := by
  unfold putS
  by_cases h : T' < ((out ++ enc r).length : Int)
  · rw [if_pos h]; exact .bad
  · rw [if_neg h, if_neg (by omega)]; exact .rfl
theorem val_gd {b : Bs} {T at0 q : Int} (ha : at0 ≤ b.length) : ∀ {n : Nat} {out : Bs} {k : Nat}, k ≤ b.length → Gd b k (valL n b T at0 q out k)
  | 0, out, k, hk => .bad (by omega) (by decide)
  | n + 1, out, k, hk => by
    rw [valL]
    refine (peek_gd hk).bind fun r k' h _ _ => ?_
    have e := (peek_inv h).2.2
    subst e
    split
    · exact .ok (by omega) (ln_le b k' hk)
    split
    · exact .bad (by omega) (by decide)
    split
    · exact (ref_gd hk).bind fun c k1 _ _ h1 => (put_gd ha h1).bind fun o k2 _ _ h2 => val_gd ha h2
    split
    · exact (line_gd hk).bind fun c k1 _ _ h1 => (put_gd ha h1).bind fun o k2 _ _ h2 => val_gd ha h2
    · exact (take_gd hk).bind fun c k1 _ _ h1 => (put_gd ha h1).bind fun o k2 _ _ h2 => val_gd ha h2
theorem val_fi {b : Bs} {T at0 q : Int} {c : Nat} (hc : c ≤ b.length) (ha : at0 ≤ (b.take c).length) : ∀ {n m : Nat} {out : Bs} {k : Nat}, n ≤ m → k ≤ (b.take c).length → FI c (valL n (b.take c) T at0 q out k) (valL m b T at0 q out k)
  | 0, m, out, k, hm, hk => .bad
  | n + 1, 0, out, k, hm, hk => by omega
  | n + 1, m + 1, out, k, hm, hk => by
    have gp : ∀ (r : Int) (k1 : Nat), k1 ≤ (b.take c).length → Gd (b.take c) k1 ((putS T at0 out r k1).bind fun o k2 => valL n (b.take c) T at0 q o k2) :=
      fun r k1 h1 => (put_gd ha h1).bind fun o k2 _ _ h2 => val_gd ha h2
    have fp : ∀ (r : Int) (k1 : Nat), k1 ≤ (b.take c).length → FI c ((putS T at0 out r k1).bind fun o k2 => valL n (b.take c) T at0 q o k2) ((putS T at0 out r k1).bind fun o k2 => valL m b T at0 q o k2) := by
      intro r k1 h1
      refine FI.bind (b := b.take c) (fun a k h => .inl h) (fun o k2 h => val_gd ha ((put_gd ha h1).use h).2) (fun o k2 h => val_fi hc ha (by omega) ((put_gd ha h1).use h).2)
    rw [valL, valL]
    refine FI.bind (b := b.take c) peek_fi (fun r k' h => ?_) (fun r k' h => ?_)
    · obtain ⟨ho, _, rfl⟩ := peek_inv h
      split
      · exact .ok (by omega) (ln_le _ k' hk)
      split
      · exact .bad (by omega) (by decide)
      split
      · exact (ref_gd hk).bind fun c k1 _ _ h1 => gp c k1 h1
      split
      · exact (line_gd hk).bind fun c k1 _ _ h1 => gp _ k1 h1
      · exact (take_gd hk).bind fun c k1 _ _ h1 => gp c k1 h1
    · obtain ⟨ho, _, rfl⟩ := peek_inv h
      obtain ⟨o1, o2, o3⟩ := okl_take ho
      split
      · rw [o3]; exact .ok
      split
      · exact .bad
      split
      · exact FI.bind (b := b.take c) (ref_fi hc hk) (fun x k1 h => gp x k1 ((ref_gd hk).use h).2) (fun x k1 h => fp x k1 ((ref_gd hk).use h).2)
      split
      · exact FI.bind (b := b.take c) (line_fi hc) (fun x k1 h => gp _ k1 ((line_gd hk).use h).2) (fun x k1 h => fp _ k1 ((line_gd hk).use h).2)
      · exact FI.bind (b := b.take c) take_fi (fun x k1 h => gp x k1 ((take_gd hk).use h).2) (fun x k1 h => fp x k1 ((take_gd hk).use h).2)
theorem val_lim {b : Bs} {T T' at0 q : Int} (hT : T' ≤ T) : ∀ {n : Nat} {out : Bs} {k : Nat}, Lim (valL n b T' at0 q out k) (valL n b T at0 q out k)
  | 0, out, k => .rfl
  | n + 1, out, k => by
    rw [valL, valL]
    refine Lim.rfl.bind fun r _ => ?_
    split
    · exact .rfl
    split
    · exact .rfl
    split
    · exact Lim.rfl.bind fun c k1 => (put_lim hT).bind fun o k2 => val_lim hT
    split
    · exact Lim.rfl.bind fun c k1 => (put_lim hT).bind fun o k2 => val_lim hT
    · exact Lim.rfl.bind fun c k1 => (put_lim hT).bind fun o k2 => val_lim hT
theorem value_gd {b : Bs} {T : Int} {k : Nat} (hk : k ≤ b.length) : Gd b k (valueS b T k) := by
  unfold valueS
  exact (quote_gd hk).bind fun q k1 _ _ h1 => val_gd (by omega) h1
theorem value_fi {b : Bs} {T : Int} {c k : Nat} (hc : c ≤ b.length) (hk : k ≤ (b.take c).length) : FI c (valueS (b.take c) T k) (valueS b T k) := by
  have hl : (b.take c).length = c := by simp; omega
  unfold valueS
  exact FI.bind (b := b.take c) quote_fi (fun q k1 h => val_gd (by omega) ((quote_gd hk).use h).2) (fun q k1 h => val_fi hc (by omega) (by omega) ((quote_gd hk).use h).2)
theorem value_lim {b : Bs} {T T' : Int} {k : Nat} (hT : T' ≤ T) : Lim (valueS b T' k) (valueS b T k) := by
  unfold valueS
  exact Lim.rfl.bind fun q k1 => val_lim hT
theorem eq_gd {b : Bs} {k : Nat} (hk : k ≤ b.length) : Gd b k (eqS b k) := by
  unfold eqS
  exact (blanks_gd hk).bind fun _ k1 _ _ h1 => (sign_gd h1).bind fun _ k2 _ _ h2 => (blanks_gd h2).bind fun _ k3 _ _ h3 => .ok (Nat.le_refl _) h3
theorem eq_fi {b : Bs} {c k : Nat} (hc : c ≤ b.length) (hk : k ≤ (b.take c).length) : FI c (eqS (b.take c) k) (eqS b k) := by
  have hl : (b.take c).length = c := by simp; omega
  unfold eqS
  refine FI.bind (b := b.take c) (blanks_fi hc (by omega)) (fun _ k1 h => (sign_gd ((blanks_gd hk).use h).2).bind fun _ k2 _ _ h2 => (blanks_gd h2).bind fun _ k3 _ _ h3 => .ok (Nat.le_refl _) h3) (fun _ k1 h => ?_)
  have h1 := ((blanks_gd hk).use h).2
  refine FI.bind (b := b.take c) sign_fi (fun _ k2 h => (blanks_gd ((sign_gd h1).use h).2).bind fun _ k3 _ _ h3 => .ok (Nat.le_refl _) h3) (fun _ k2 h => ?_)
  have h2 := ((sign_gd h1).use h).2
  exact FI.bind (b := b.take c) (blanks_fi hc (by omega)) (fun _ k3 h => .ok (Nat.le_refl _) ((blanks_gd h2).use h).2) (fun _ k3 h => .ok)
theorem attr_gd {b : Bs} {T : Int} {l : List At} {k : Nat} (hk : k ≤ b.length) : Gd b k (attrS b T l k) := by
  unfold attrS
  refine (name_gd hk).bind fun nm k1 _ _ h1 => (peek_gd h1).bind fun _ k2 _ h2a h2 => ?_
  split
  · exact .bad (by omega) (by decide)
  · have e := (peek_inv ‹_›).2.2
    subst e
    exact (eq_gd h1).bind fun _ k2 _ _ h2 => (value_gd h2).bind fun v k3 _ _ h3 => .ok (Nat.le_refl _) h3
theorem attr_fi {b : Bs} {T : Int} {l : List At} {c k : Nat} (hc : c ≤ b.length) (hk : k ≤ (b.take c).length) : FI c (attrS (b.take c) T l k) (attrS b T l k) := by
  have hl : (b.take c).length = c := by simp; omega
  have g1 : ∀ (nm : Bs) (k1 : Nat), k1 ≤ (b.take c).length → Gd (b.take c) k1 ((eqS (b.take c) k1).bind fun _ k2 => (valueS (b.take c) T k2).bind fun v k3 => (.ok ⟨nm, v, k⟩ k3 : R At)) :=
    fun nm k1 h1 => (eq_gd h1).bind fun _ k2 _ _ h2 => (value_gd h2).bind fun v k3 _ _ h3 => .ok (Nat.le_refl _) h3
  have g0 : ∀ (nm : Bs) (k1 : Nat), k1 ≤ (b.take c).length → Gd (b.take c) k1 (if (l.any fun a => a.name == nm) = true then (.bad k 2 : R At) else (eqS (b.take c) k1).bind fun _ k2 => (valueS (b.take c) T k2).bind fun v k3 => (.ok ⟨nm, v, k⟩ k3 : R At)) := by
    intro nm k1 h1
    split
    · exact .bad (by omega) (by decide)
    · exact g1 nm k1 h1
  unfold attrS
  refine FI.bind (b := b.take c) (name_fi hc (by omega)) (fun nm k1 h => (peek_gd ((name_gd hk).use h).2).bind fun _ k2 h2 _ _ => ?_) (fun nm k1 h => ?_)
  · obtain ⟨_, _, rfl⟩ := peek_inv h2
    exact g0 nm k2 ((name_gd hk).use h).2
  · have h1 := ((name_gd hk).use h).2
    refine FI.bind (b := b.take c) peek_fi (fun _ k2 h2 => ?_) (fun _ k2 h2 => ?_)
    · obtain ⟨_, _, rfl⟩ := peek_inv h2
      exact g0 nm k2 h1
    · split
      · exact .bad
      · refine FI.bind (b := b.take c) (eq_fi hc h1) (fun _ k2 h => (value_gd ((eq_gd h1).use h).2).bind fun v k3 _ _ h3 => .ok (Nat.le_refl _) h3) (fun _ k2 h => ?_)
        have h2 := ((eq_gd h1).use h).2
        exact FI.bind (b := b.take c) (value_fi hc h2) (fun v k3 h => .ok (Nat.le_refl _) ((value_gd h2).use h).2) (fun v k3 h => .ok)
theorem attr_lim {b : Bs} {T T' : Int} {l : List At} {k : Nat} (hT : T' ≤ T) : Lim (attrS b T' l k) (attrS b T l k) := by
  unfold attrS
  refine (name_lim hT).bind fun nm k1 => Lim.rfl.bind fun _ _ => ?_
  split
  · exact .rfl
  · exact Lim.rfl.bind fun _ k2 => (value_lim hT).bind fun v k3 => .rfl
theorem attrs_gd {b : Bs} {A T : Int} : ∀ {n : Nat} {l : List At} {k : Nat}, k ≤ b.length → Gd b k (attrsL n b A T l k)
  | 0, l, k, hk => .bad (by omega) (by decide)
  | n + 1, l, k, hk => by
    rw [attrsL]
    refine (blanks_gd hk).bind fun gap k1 _ _ h1 => (peek_gd h1).bind fun r k' h _ _ => ?_
    obtain ⟨_, _, rfl⟩ := peek_inv h
    have hle := ln_le b k' h1
    split
    · exact .ok (by omega) hle
    split
    · exact ((sign_gd hle).bind fun _ k2 _ _ h2 => .ok (Nat.le_refl _) h2).le (by omega)
    split
    · exact .bad (by omega) (by decide)
    split
    · exact .bad (by omega) (by decide)
    · exact (attr_gd h1).bind fun a k2 _ _ h2 => attrs_gd h2
/-- At the end of the bytes there is no tag's end. -/
theorem attrs_end {b : Bs} {A T : Int} {n : Nat} {l : List At} {k : Nat} (hk : b.length ≤ k) (r : List At × Option Int) (k' : Nat) : attrsL n b A T l k ≠ .ok r k' := by
  cases n with
  | zero => intro h; cases h
  | succ n =>
    intro h
    rw [attrsL] at h
    obtain ⟨g, k1, h1, h2⟩ := bind_inv h
    obtain ⟨x, k2, h3, h4⟩ := bind_inv h2
    obtain ⟨ho, _, _⟩ := peek_inv h3
    have hlt := okl_lt ho
    unfold blanksS at h1
    have e : b.length - k = 0 := by omega
    rw [e, blkS, bind_ok] at h1
    injection h1 with e1 e2
    omega
/-- A tag's attributes by a front: just the same of the whole. -/
theorem attrs_fe {b : Bs} {A T : Int} {c : Nat} (hc : c ≤ b.length) : ∀ {n m : Nat} {l : List At} {k : Nat} {r : List At × Option Int} {k' : Nat}, n ≤ m → k ≤ (b.take c).length → attrsL n (b.take c) A T l k = .ok r k' → attrsL m b A T l k = .ok r k'
  | 0, m, l, k, r, k', hm, hk, h => by cases h
  | n + 1, 0, l, k, r, k', hm, hk, h => by omega
  | n + 1, m + 1, l, k, r, k', hm, hk, h => by
    have hl : (b.take c).length = c := by simp; omega
    rw [attrsL] at h
    obtain ⟨g, k1, h1, h2⟩ := bind_inv h
    obtain ⟨x, k2, h3, h4⟩ := bind_inv h2
    obtain ⟨ho, hx, e⟩ := peek_inv h3
    subst e
    subst hx
    have hlt := okl_lt ho
    obtain ⟨o1, o2, o3⟩ := okl_take ho
    have hle := ln_le (b.take c) k2 (by omega)
    rcases blanks_fi hc (by omega) g k2 h1 with hb | hb
    · rw [attrsL, hb, bind_ok]
      rw [peekS, if_pos o1, bind_ok, o2, o3]
      split at h4
      · rename_i q1
        rw [if_pos q1]; exact h4
      · rename_i q1
        rw [if_neg q1]
        split at h4
        · rename_i q2
          rw [if_pos q2]
          obtain ⟨y, k3, h5, h6⟩ := bind_inv h4
          cases y
          rw [sign_fe h5, bind_ok]
          exact h6
        · rename_i q2
          rw [if_neg q2]
          split at h4
          · cases h4
          · rename_i q3
            rw [if_neg q3]
            split at h4
            · cases h4
            · rename_i q4
              rw [if_neg q4]
              obtain ⟨a, k3, h5, h6⟩ := bind_inv h4
              have hk3 := ((attr_gd (by omega)).use h5).2
              rcases attr_fi hc (by omega) a k3 h5 with h7 | h7
              · rw [h7, bind_ok]
                exact attrs_fe hc (by omega) hk3 h6
              · exact absurd h6 (attrs_end (by omega) _ _)
    · omega
theorem attrs_lim {b : Bs} {A A' T T' : Int} (hT : T' ≤ T) (hA : A' ≤ A) : ∀ {n : Nat} {l : List At} {k : Nat}, (l.length : Int) ≤ A' → Lim (attrsL n b A' T' l k) (attrsL n b A T l k)
  | 0, l, k, hl => .rfl
  | n + 1, l, k, hl => by
    rw [attrsL, attrsL]
    refine Lim.rfl.bind fun gap k1 => Lim.rfl.bind fun r _ => ?_
    split
    · exact .rfl
    split
    · exact .rfl
    split
    · exact .rfl
    by_cases h : (l.length : Int) = A'
    · rw [if_pos h]; exact .bad
    · rw [if_neg h, if_neg (by omega)]
      exact (attr_lim hT).bind fun a k2 => attrs_lim hT hA (by simp; omega)
end Go.Proofs.YtjcgnbmpnaapdaaDoor.M
namespace Go.Proofs.YtjcgnbmpnaapdaaDoor.M
set_option linter.unusedVariables false
variable {α β : Type}

theorem noteL_gd {b : Bs} : ∀ {n d k : Nat}, k ≤ b.length → Gd b k (noteL n b d k)
  | 0, d, k, hk => .bad (by omega) (by decide)
  | n + 1, d, k, hk => by
    rw [noteL]
    refine (take_gd hk).bind fun r k' _ _ h1 => ?_
    split
    · split
      · exact .ok (Nat.le_refl _) h1
      · exact .bad (by omega) (by decide)
    split
    · exact noteL_gd h1
    · exact noteL_gd h1
theorem noteL_fi {b : Bs} {c : Nat} : ∀ {n m d k : Nat}, n ≤ m → k ≤ (b.take c).length → FI c (noteL n (b.take c) d k) (noteL m b d k)
  | 0, m, d, k, hm, hk => .bad
  | n + 1, 0, d, k, hm, hk => by omega
  | n + 1, m + 1, d, k, hm, hk => by
    rw [noteL, noteL]
    refine FI.bind (b := b.take c) take_fi (fun r k' h => ?_) (fun r k' h => ?_)
    · have h1 := ((take_gd hk).use h).2
      split
      · split
        · exact .ok (Nat.le_refl _) h1
        · exact .bad (by omega) (by decide)
      split
      · exact noteL_gd h1
      · exact noteL_gd h1
    · have h1 := ((take_gd hk).use h).2
      split
      · split
        · exact .ok
        · exact .bad
      split
      · exact noteL_fi (by omega) h1
      · exact noteL_fi (by omega) h1
theorem note_gd {b : Bs} {lt0 : Int} {k : Nat} (ha : lt0 ≤ b.length) (hk : k ≤ b.length) : Gd b k (noteS b lt0 k) := by
  unfold noteS
  exact (word_gd ha hk).bind fun _ k' _ _ h => noteL_gd h
theorem note_fi {b : Bs} {lt0 : Int} {c k : Nat} (hc : c ≤ b.length) (ha : lt0 ≤ (b.take c).length) (hk : k ≤ (b.take c).length) : FI c (noteS (b.take c) lt0 k) (noteS b lt0 k) := by
  have hl : (b.take c).length = c := by simp; omega
  unfold noteS
  exact FI.bind (b := b.take c) (word_fi ha hk) (fun _ k' h => noteL_gd ((word_gd ha hk).use h).2) (fun _ k' h => noteL_fi (by omega) ((word_gd ha hk).use h).2)
theorem instL_gd {b : Bs} : ∀ {n : Nat} {a : Bool} {k : Nat}, k ≤ b.length → Gd b k (instL n b a k)
  | 0, a, k, hk => .bad (by omega) (by decide)
  | n + 1, a, k, hk => by
    rw [instL]
    refine (take_gd hk).bind fun r k' _ _ h1 => ?_
    split
    · exact .ok (Nat.le_refl _) h1
    · exact instL_gd h1
theorem instL_fi {b : Bs} {c : Nat} : ∀ {n m : Nat} {a : Bool} {k : Nat}, n ≤ m → k ≤ (b.take c).length → FI c (instL n (b.take c) a k) (instL m b a k)
  | 0, m, a, k, hm, hk => .bad
  | n + 1, 0, a, k, hm, hk => by omega
  | n + 1, m + 1, a, k, hm, hk => by
    rw [instL, instL]
    refine FI.bind (b := b.take c) take_fi (fun r k' h => ?_) (fun r k' h => ?_)
    · have h1 := ((take_gd hk).use h).2
      split
      · exact .ok (Nat.le_refl _) h1
      · exact instL_gd h1
    · have h1 := ((take_gd hk).use h).2
      split
      · exact .ok
      · exact instL_fi (by omega) h1
theorem inst_gd {b : Bs} {T : Int} {k : Nat} (hk : k ≤ b.length) : Gd b k (instS b T k) := by
  unfold instS
  refine (take_gd hk).bind fun _ k1 _ _ h1 => (name_gd h1).bind fun nm k2 _ _ h2 => (peek_gd h2).bind fun _ k' h _ _ => ?_
  obtain ⟨_, _, rfl⟩ := peek_inv h
  split
  · exact .bad (by omega) (by decide)
  refine (blanks_gd h2).bind fun gap k3 _ _ h3 => ?_
  split
  · exact instL_gd h3
  · exact (sign_gd h3).bind fun _ k4 _ _ h4 => sign_gd h4
theorem inst_fi {b : Bs} {T : Int} {c k : Nat} (hc : c ≤ b.length) (hk : k ≤ (b.take c).length) : FI c (instS (b.take c) T k) (instS b T k) := by
  have hl : (b.take c).length = c := by simp; omega
  have g3 : ∀ (gap : Bool) (k3 : Nat), k3 ≤ (b.take c).length → Gd (b.take c) k3 (if gap = true then instL ((b.take c).length + 1) (b.take c) false k3 else (signS (b.take c) 63 k3).bind fun _ k4 => signS (b.take c) 62 k4) := by
    intro gap k3 h3
    split
    · exact instL_gd h3
    · exact (sign_gd h3).bind fun _ k4 _ _ h4 => sign_gd h4
  have g2 : ∀ (nm : Bs) (k1 k2 : Nat), k1 ≤ (b.take c).length → k2 ≤ (b.take c).length → Gd (b.take c) k2 (if foldX nm = true then (.bad k1 2 : R Unit) else (blanksS (b.take c) k2).bind fun gap k3 => if gap = true then instL ((b.take c).length + 1) (b.take c) false k3 else (signS (b.take c) 63 k3).bind fun _ k4 => signS (b.take c) 62 k4) := by
    intro nm k1 k2 h1 h2
    split
    · exact .bad (by omega) (by decide)
    · exact (blanks_gd h2).bind fun gap k3 _ _ h3 => g3 gap k3 h3
  have g1 : ∀ (nm : Bs) (k1 k2 : Nat), k1 ≤ (b.take c).length → k2 ≤ (b.take c).length → Gd (b.take c) k2 ((peekS (b.take c) k2).bind fun _ _ => if foldX nm = true then (.bad k1 2 : R Unit) else (blanksS (b.take c) k2).bind fun gap k3 => if gap = true then instL ((b.take c).length + 1) (b.take c) false k3 else (signS (b.take c) 63 k3).bind fun _ k4 => signS (b.take c) 62 k4) := by
    intro nm k1 k2 h1 h2
    refine (peek_gd h2).bind fun _ k' h _ _ => ?_
    obtain ⟨_, _, rfl⟩ := peek_inv h
    exact g2 nm k1 k' h1 h2
  unfold instS
  refine FI.bind (b := b.take c) take_fi (fun _ k1 h => (name_gd ((take_gd hk).use h).2).bind fun nm k2 _ _ h2 => g1 nm k1 k2 ((take_gd hk).use h).2 h2) (fun _ k1 h => ?_)
  have h1 := ((take_gd hk).use h).2
  refine FI.bind (b := b.take c) (name_fi hc (by omega)) (fun nm k2 h => g1 nm k1 k2 h1 ((name_gd h1).use h).2) (fun nm k2 h => ?_)
  have h2 := ((name_gd h1).use h).2
  refine FI.bind (b := b.take c) peek_fi (fun _ k' h => ?_) (fun _ k' h => ?_)
  · obtain ⟨_, _, rfl⟩ := peek_inv h
    exact g2 nm k1 k' h1 h2
  · split
    · exact .bad
    refine FI.bind (b := b.take c) (blanks_fi hc (by omega)) (fun gap k3 h => g3 gap k3 ((blanks_gd h2).use h).2) (fun gap k3 h => ?_)
    have h3 := ((blanks_gd h2).use h).2
    split
    · exact instL_fi (by omega) h3
    · exact FI.bind (b := b.take c) sign_fi (fun _ k4 h => sign_gd ((sign_gd h3).use h).2) (fun _ k4 h => sign_fi)
theorem inst_lim {b : Bs} {T T' : Int} {k : Nat} (hT : T' ≤ T) : Lim (instS b T' k) (instS b T k) := by
  unfold instS
  exact Lim.rfl.bind fun _ k1 => (name_lim hT).bind fun nm k2 => .rfl
theorem Gd.eqk {b : Bs} {k k' : Nat} {x : R α} (h : Gd b k x) (hk : k' = k) : Gd b k' x := by subst hk; exact h
theorem putR_gd {b : Bs} {T at0 : Int} (ha : at0 ≤ b.length) : ∀ {h : Nat} {out : Bs} {k : Nat}, k ≤ b.length → Gd b k (putR T at0 h out k)
  | 0, out, k, hk => .ok (Nat.le_refl _) hk
  | h + 1, out, k, hk => by
    rw [putR]
    refine (put_gd ha hk).bind fun o k1 hh h1 h2 => ?_
    exact Gd.eqk (putR_gd ha hk) (put_inv hh).1
theorem putR_k {T at0 : Int} : ∀ {h : Nat} {out o : Bs} {k k' : Nat}, putR T at0 h out k = .ok o k' → k' = k
  | 0, out, o, k, k', hh => by rw [putR] at hh; injection hh with _ e; exact e.symm
  | h + 1, out, o, k, k', hh => by
    rw [putR] at hh
    obtain ⟨x, j, h1, h2⟩ := bind_inv hh
    exact putR_k h2
theorem putR_lim {T T' at0 : Int} (hT : T' ≤ T) : ∀ {h : Nat} {out : Bs} {k : Nat}, Lim (putR T' at0 h out k) (putR T at0 h out k)
  | 0, out, k => .rfl
  | h + 1, out, k => by
    rw [putR, putR]
    exact (put_lim hT).bind fun o _ => putR_lim hT
theorem cd_gd {b : Bs} {T at0 : Int} (ha : at0 ≤ b.length) : ∀ {n h : Nat} {out : Bs} {k : Nat}, k ≤ b.length → Gd b k (cdL n b T at0 h out k)
  | 0, h, out, k, hk => .bad (by omega) (by decide)
  | n + 1, h, out, k, hk => by
    rw [cdL]
    refine (line_gd hk).bind fun r k' _ _ h1 => ?_
    split
    · split
      · exact cd_gd ha h1
      · refine (put_gd ha h1).bind fun o k2 hh _ _ => ?_
        exact (cd_gd ha h1).eqk (put_inv hh).1
    split
    · exact .ok (Nat.le_refl _) h1
    refine (putR_gd ha h1).bind fun o k2 hh _ _ => ?_
    refine Gd.eqk (k := k') ?_ (putR_k hh)
    refine (put_gd ha h1).bind fun o2 k3 hh _ _ => ?_
    exact (cd_gd ha h1).eqk (put_inv hh).1
theorem cd_fi {b : Bs} {T at0 : Int} {c : Nat} (hc : c ≤ b.length) (ha : at0 ≤ (b.take c).length) : ∀ {n m h : Nat} {out : Bs} {k : Nat}, n ≤ m → k ≤ (b.take c).length → FI c (cdL n (b.take c) T at0 h out k) (cdL m b T at0 h out k)
  | 0, m, h, out, k, hm, hk => .bad
  | n + 1, 0, h, out, k, hm, hk => by omega
  | n + 1, m + 1, h, out, k, hm, hk => by
    have gA : ∀ (o : Bs) (r : Int) (h : Nat) (k' : Nat), k' ≤ (b.take c).length → Gd (b.take c) k' ((putS T at0 o r k').bind fun o2 _ => cdL n (b.take c) T at0 h o2 k') := by
      intro o r h k' h1
      refine (put_gd ha h1).bind fun o2 k3 hh _ _ => ?_
      exact (cd_gd ha h1).eqk (put_inv hh).1
    have fA : ∀ (o : Bs) (r : Int) (h : Nat) (k' : Nat), k' ≤ (b.take c).length → FI c ((putS T at0 o r k').bind fun o2 _ => cdL n (b.take c) T at0 h o2 k') ((putS T at0 o r k').bind fun o2 _ => cdL m b T at0 h o2 k') := by
      intro o r h k' h1
      refine FI.bind (b := b.take c) (fun a k h => .inl h) (fun o2 k3 hh => (cd_gd ha h1).eqk (put_inv hh).1) (fun o2 k3 hh => cd_fi hc ha (by omega) h1)
    rw [cdL, cdL]
    refine FI.bind (b := b.take c) (line_fi hc) (fun r k' h => ?_) (fun r k' h => ?_)
    · have h1 := ((line_gd hk).use h).2
      split
      · split
        · exact cd_gd ha h1
        · exact gA _ _ _ _ h1
      split
      · exact .ok (Nat.le_refl _) h1
      refine (putR_gd ha h1).bind fun o k2 hh _ _ => ?_
      exact Gd.eqk (k := k') (gA _ _ _ _ h1) (putR_k hh)
    · have h1 := ((line_gd hk).use h).2
      split
      · split
        · exact cd_fi hc ha (by omega) h1
        · exact fA _ _ _ _ h1
      split
      · exact .ok
      · exact FI.bind (b := b.take c) (fun a k h => .inl h) (fun o k2 hh => Gd.eqk (k := k') (gA _ _ _ _ h1) (putR_k hh)) (fun o k2 hh => fA _ _ _ _ h1)
theorem cd_lim {b : Bs} {T T' at0 : Int} (hT : T' ≤ T) : ∀ {n h : Nat} {out : Bs} {k : Nat}, Lim (cdL n b T' at0 h out k) (cdL n b T at0 h out k)
  | 0, h, out, k => .rfl
  | n + 1, h, out, k => by
    rw [cdL, cdL]
    refine Lim.rfl.bind fun r k' => ?_
    split
    · split
      · exact cd_lim hT
      · exact (put_lim hT).bind fun o _ => cd_lim hT
    split
    · exact .rfl
    · exact (putR_lim hT).bind fun o _ => (put_lim hT).bind fun o2 _ => cd_lim hT
theorem set_gd {b : Bs} {w : List Int} {val : Nat → R Unit} {k : Nat} (hv : ∀ k, k ≤ b.length → Gd b k (val k)) (hk : k ≤ b.length) : Gd b k (setS b w val k) := by
  unfold setS
  exact (word_gd (by omega) hk).bind fun _ k1 _ _ h1 => (eq_gd h1).bind fun _ k2 _ _ h2 => (quote_gd h2).bind fun q k3 _ _ h3 => (hv k3 h3).bind fun _ k4 _ _ h4 => sign_gd h4
theorem set_fi {b : Bs} {w : List Int} {val val' : Nat → R Unit} {c k : Nat} (hc : c ≤ b.length) (hv : ∀ k, k ≤ (b.take c).length → Gd (b.take c) k (val' k)) (hf : ∀ k, k ≤ (b.take c).length → FI c (val' k) (val k)) (hk : k ≤ (b.take c).length) : FI c (setS (b.take c) w val' k) (setS b w val k) := by
  have hl : (b.take c).length = c := by simp; omega
  unfold setS
  refine FI.bind (b := b.take c) (word_fi (by omega) hk) (fun _ k1 h => (eq_gd ((word_gd (by omega) hk).use h).2).bind fun _ k2 _ _ h2 => (quote_gd h2).bind fun q k3 _ _ h3 => (hv k3 h3).bind fun _ k4 _ _ h4 => sign_gd h4) (fun _ k1 h => ?_)
  have h1 := ((word_gd (by omega) hk).use h).2
  refine FI.bind (b := b.take c) (eq_fi hc h1) (fun _ k2 h => (quote_gd ((eq_gd h1).use h).2).bind fun q k3 _ _ h3 => (hv k3 h3).bind fun _ k4 _ _ h4 => sign_gd h4) (fun _ k2 h => ?_)
  have h2 := ((eq_gd h1).use h).2
  refine FI.bind (b := b.take c) quote_fi (fun q k3 h => (hv k3 ((quote_gd h2).use h).2).bind fun _ k4 _ _ h4 => sign_gd h4) (fun q k3 h => ?_)
  have h3 := ((quote_gd h2).use h).2
  exact FI.bind (b := b.take c) (hf k3 h3) (fun _ k4 h => sign_gd ((hv k3 h3).use h).2) (fun _ k4 h => sign_fi)
theorem encL_gd {b : Bs} {blame : Int} (hb : blame ≤ b.length) : ∀ {w : List (Int × Int)} {k : Nat}, k ≤ b.length → Gd b k (encL b blame w k)
  | [], k, hk => .ok (Nat.le_refl _) hk
  | x :: w, k, hk => by
    rw [encL]
    refine (take_gd hk).bind ?_
    intro r k' _ _ hk'
    split
    · exact encL_gd hb hk'
    · exact .bad hb (by decide)
theorem encL_fi {b : Bs} {c : Nat} {blame : Int} (hb : blame ≤ (b.take c).length) : ∀ {w : List (Int × Int)} {k : Nat}, k ≤ (b.take c).length → FI c (encL (b.take c) blame w k) (encL b blame w k)
  | [], k, hk => .ok
  | x :: w, k, hk => by
    rw [encL, encL]
    refine FI.bind (b := b.take c) take_fi ?_ ?_
    · intro r k' h
      have hk' := ((take_gd hk).use h).2
      split
      · exact encL_gd hb hk'
      · exact .bad hb (by decide)
    · intro r k' h
      have hk' := ((take_gd hk).use h).2
      split
      · exact encL_fi hb hk'
      · exact .bad
theorem sta_gd {b : Bs} {k : Nat} (hk : k ≤ b.length) : Gd b k (staS b k) := by
  unfold staS
  refine (peek_gd hk).bind fun r k' h _ _ => ?_
  obtain ⟨_, _, rfl⟩ := peek_inv h
  split <;> exact word_gd (by omega) hk
theorem sta_fi {b : Bs} {c k : Nat} (hk : k ≤ (b.take c).length) : FI c (staS (b.take c) k) (staS b k) := by
  unfold staS
  refine FI.bind (b := b.take c) peek_fi (fun r k' h => ?_) (fun r k' h => ?_)
  · obtain ⟨_, _, rfl⟩ := peek_inv h
    split <;> exact word_gd (by omega) hk
  · split <;> exact word_fi (by omega) hk
theorem dec1_gd {b : Bs} {g : Bool} {k : Nat} (hk : k ≤ b.length) : Gd b k (dec1S b g k) := by
  unfold dec1S
  split
  · refine (peek_gd hk).bind fun r k' h _ _ => ?_
    obtain ⟨_, _, rfl⟩ := peek_inv h
    split
    · exact (set_gd (fun k hk => encL_gd (by omega) hk) hk).bind fun _ k1 _ _ h1 => blanks_gd h1
    · exact .ok (Nat.le_refl _) hk
  · exact .ok (Nat.le_refl _) hk
theorem dec1_fi {b : Bs} {g : Bool} {c k : Nat} (hc : c ≤ b.length) (hk : k ≤ (b.take c).length) : FI c (dec1S (b.take c) g k) (dec1S b g k) := by
  have hl : (b.take c).length = c := by simp; omega
  have hg := set_gd (b := b.take c) (w := [101, 110, 99, 111, 100, 105, 110, 103]) (val := encS (b.take c)) (fun k hk => encL_gd (by omega) hk) hk
  unfold dec1S
  split
  · refine FI.bind (b := b.take c) peek_fi (fun r k' h => ?_) (fun r k' h => ?_)
    · obtain ⟨_, _, rfl⟩ := peek_inv h
      split
      · exact hg.bind fun _ k1 _ _ h1 => blanks_gd h1
      · exact .ok (Nat.le_refl _) hk
    · split
      · exact FI.bind (b := b.take c) (set_fi hc (fun k hk => encL_gd (by omega) hk) (fun k hk => encL_fi (by omega) hk) hk) (fun _ k1 h => blanks_gd (hg.use h).2) (fun _ k1 h => blanks_fi hc (by have := (hg.use h).2; omega))
      · exact .ok
  · exact .ok
theorem dec2_gd {b : Bs} {g : Bool} {k : Nat} (hk : k ≤ b.length) : Gd b k (dec2S b g k) := by
  unfold dec2S
  split
  · refine (peek_gd hk).bind fun r k' h _ _ => ?_
    obtain ⟨_, _, rfl⟩ := peek_inv h
    split
    · exact (set_gd (fun k hk => sta_gd hk) hk).bind fun _ k1 _ _ h1 => (blanks_gd h1).bind fun _ k2 _ _ h2 => .ok (Nat.le_refl _) h2
    · exact .ok (Nat.le_refl _) hk
  · exact .ok (Nat.le_refl _) hk
theorem dec2_fi {b : Bs} {g : Bool} {c k : Nat} (hc : c ≤ b.length) (hk : k ≤ (b.take c).length) : FI c (dec2S (b.take c) g k) (dec2S b g k) := by
  have hl : (b.take c).length = c := by simp; omega
  have hg := set_gd (b := b.take c) (w := [115, 116, 97, 110, 100, 97, 108, 111, 110, 101]) (val := staS (b.take c)) (fun k hk => sta_gd hk) hk
  unfold dec2S
  split
  · refine FI.bind (b := b.take c) peek_fi (fun r k' h => ?_) (fun r k' h => ?_)
    · obtain ⟨_, _, rfl⟩ := peek_inv h
      split
      · exact hg.bind fun _ k1 _ _ h1 => (blanks_gd h1).bind fun _ k2 _ _ h2 => .ok (Nat.le_refl _) h2
      · exact .ok (Nat.le_refl _) hk
    · split
      · refine FI.bind (b := b.take c) (set_fi hc (fun k hk => sta_gd hk) (fun k hk => sta_fi hk) hk) (fun _ k1 h => (blanks_gd (hg.use h).2).bind fun _ k2 _ _ h2 => .ok (Nat.le_refl _) h2) (fun _ k1 h => ?_)
        have h1 := (hg.use h).2
        exact FI.bind (b := b.take c) (blanks_fi hc (by omega)) (fun _ k2 h => .ok (Nat.le_refl _) ((blanks_gd h1).use h).2) (fun _ _ _ => .ok)
      · exact .ok
  · exact .ok
theorem decl_gd {b : Bs} (hk : 5 ≤ b.length) : Gd b 5 (declS b) := by
  unfold declS
  refine (blanks_gd hk).bind fun _ k1 _ _ h1 => (set_gd (fun k hk => word_gd (by omega) hk) h1).bind fun _ k2 _ _ h2 => (blanks_gd h2).bind fun gap k3 _ _ h3 => (dec1_gd h3).bind fun g2 k4 _ _ h4 => (dec2_gd h4).bind fun _ k5 _ _ h5 => (sign_gd h5).bind fun _ k6 _ _ h6 => sign_gd h6
theorem decl_fi {b : Bs} {c : Nat} (hc : c ≤ b.length) (hk : 5 ≤ (b.take c).length) : FI c (declS (b.take c)) (declS b) := by
  have hl : (b.take c).length = c := by simp; omega
  have hv : ∀ k, k ≤ (b.take c).length → Gd (b.take c) k (verS (b.take c) k) := fun k hk => word_gd (by omega) hk
  have s5 : ∀ k5, k5 ≤ (b.take c).length → Gd (b.take c) k5 ((signS (b.take c) 63 k5).bind fun _ k6 => signS (b.take c) 62 k6) := fun k5 h5 => (sign_gd h5).bind fun _ k6 _ _ h6 => sign_gd h6
  have s4 : ∀ g k4, k4 ≤ (b.take c).length → Gd (b.take c) k4 ((dec2S (b.take c) g k4).bind fun _ k5 => (signS (b.take c) 63 k5).bind fun _ k6 => signS (b.take c) 62 k6) := fun g k4 h4 => (dec2_gd h4).bind fun _ k5 _ _ h5 => s5 k5 h5
  have s3 : ∀ g k3, k3 ≤ (b.take c).length → Gd (b.take c) k3 ((dec1S (b.take c) g k3).bind fun g2 k4 => (dec2S (b.take c) g2 k4).bind fun _ k5 => (signS (b.take c) 63 k5).bind fun _ k6 => signS (b.take c) 62 k6) := fun g k3 h3 => (dec1_gd h3).bind fun g2 k4 _ _ h4 => s4 g2 k4 h4
  unfold declS
  refine FI.bind (b := b.take c) (blanks_fi hc (by omega)) (fun _ k1 h => (set_gd hv ((blanks_gd hk).use h).2).bind fun _ k2 _ _ h2 => (blanks_gd h2).bind fun gap k3 _ _ h3 => s3 gap k3 h3) (fun _ k1 h => ?_)
  have h1 := ((blanks_gd hk).use h).2
  refine FI.bind (b := b.take c) (set_fi hc hv (fun k hk => word_fi (by omega) hk) h1) (fun _ k2 h => (blanks_gd ((set_gd hv h1).use h).2).bind fun gap k3 _ _ h3 => s3 gap k3 h3) (fun _ k2 h => ?_)
  have h2 := ((set_gd hv h1).use h).2
  refine FI.bind (b := b.take c) (blanks_fi hc (by omega)) (fun g k3 h => s3 g k3 ((blanks_gd h2).use h).2) (fun g k3 h => ?_)
  have h3 := ((blanks_gd h2).use h).2
  refine FI.bind (b := b.take c) (dec1_fi hc h3) (fun g k4 h => s4 g k4 ((dec1_gd h3).use h).2) (fun g k4 h => ?_)
  have h4 := ((dec1_gd h3).use h).2
  refine FI.bind (b := b.take c) (dec2_fi hc h4) (fun _ k5 h => s5 k5 ((dec2_gd h4).use h).2) (fun _ k5 h => ?_)
  have h5 := ((dec2_gd h4).use h).2
  exact FI.bind (b := b.take c) sign_fi (fun _ k6 h => sign_gd ((sign_gd h5).use h).2) (fun _ k6 h => sign_fi)
end Go.Proofs.YtjcgnbmpnaapdaaDoor.M
namespace Go.Proofs.YtjcgnbmpnaapdaaDoor.M
set_option linter.unusedVariables false
variable {α β : Type}

theorem q_go {x : R α} {f : α → Nat → Q} {s : S} (h : x.q f = .go s) : ∃ a k, x = .ok a k ∧ f a k = .go s := by
  cases x with
  | ok a k => exact ⟨a, k, rfl, h⟩
  | bad p e => cases h
theorem q_bad {x : R α} {f : α → Nat → Q} {p e : Int} (h : x.q f = .bad p e) : x = .bad p e ∨ ∃ a k, x = .ok a k ∧ f a k = .bad p e := by
  cases x with
  | ok a k => exact .inr ⟨a, k, rfl, h⟩
  | bad p e => injection h with h1 h2; subst h1; subst h2; exact .inl rfl
theorem Gd.isbad {b : Bs} {k : Nat} {x : R α} {p e : Int} (h : Gd b k x) (hx : x = .bad p e) : p ≤ (b.length : Int) ∧ e ≠ 0 := by subst hx; exact h

/-- What a step leaves. -/
inductive Step (b : Bs) (L : Lm) (s : S) : S → Prop where
  | on (k : Nat) (h1 : s.k < k) (h2 : k ≤ b.length) : Step b L s { s with k := k }
  | text (k : Nat) (o : Bs) (h0 : s.op ≠ []) (h1 : s.k < k) (h2 : k ≤ b.length) : Step b L s { beginS s s.k with tout := o, k := k }
  | over (k : Nat) (h0 : s.op = []) (hn : 0 < s.nodes) (h1 : s.k ≤ k) (h2 : k ≤ b.length) : Step b L s { s with k := k, over := true }
  | start (nm : Bs) (l : List At) (lt0 k : Nat) (hD : (s.op.length : Int) ≠ L.D) (hN : s.nodes ≠ L.N) (h0 : s.op = [] → ¬ 0 < s.nodes) (h1 : s.k ≤ lt0) (h2 : lt0 < k) (h3 : k ≤ b.length) :
      Step b L s (tellS { s with nodes := s.nodes + 1, k := k, op := s.op ++ [nm] } [⟨1, lt0, nm, [], l⟩])
  | empty (nm : Bs) (l : List At) (lt0 k : Nat) (sl : Int) (hD : (s.op.length : Int) ≠ L.D) (hN : s.nodes ≠ L.N) (h0 : s.op = [] → ¬ 0 < s.nodes) (h1 : s.k ≤ lt0) (h2 : lt0 < k) (h3 : k ≤ b.length) (h4 : (lt0 : Int) ≤ sl) (h5 : sl ≤ k) :
      Step b L s (tellS { s with nodes := s.nodes + 1, k := k } [⟨1, lt0, nm, [], l⟩, ⟨2, sl, nm, [], []⟩])
  | close (lt0 k : Nat) (h0 : s.op ≠ []) (h1 : s.k ≤ lt0) (h2 : lt0 < k) (h3 : k ≤ b.length) :
      Step b L s (tellS { s with k := k, op := s.op.dropLast } [⟨2, lt0, s.op.getLastD [], [], []⟩])

theorem attrs_sl {b : Bs} {A T : Int} : ∀ {n : Nat} {l l' : List At} {k k' : Nat} {sl : Int}, k ≤ b.length → attrsL n b A T l k = .ok (l', some sl) k' → (k : Int) ≤ sl ∧ sl ≤ k'
  | 0, l, l', k, k', sl, hk, h => by cases h
  | n + 1, l, l', k, k', sl, hk, h => by
    rw [attrsL] at h
    obtain ⟨g, k1, h1, h2⟩ := bind_inv h
    obtain ⟨x, k2, h3, h4⟩ := bind_inv h2
    obtain ⟨ho, hx, e⟩ := peek_inv h3
    subst e
    have hb := (blanks_gd hk).use h1
    split at h4
    · cases h4
    split at h4
    · obtain ⟨y, k3, h5, h6⟩ := bind_inv h4
      injection h6 with e1 e2
      injection e1 with e3 e4
      injection e4 with e5
      have := (sign_gd (ln_le b k2 hb.2)).use h5
      omega
    split at h4
    · cases h4
    split at h4
    · cases h4
    obtain ⟨a, k3, h5, h6⟩ := bind_inv h4
    have h7 := (attr_gd hb.2).use h5
    have := attrs_sl h7.2 h6
    omega
theorem name_gt {b : Bs} {T : Int} {k k' : Nat} {nm : Bs} (hk : k ≤ b.length) (h : nameS b T k = .ok nm k') : k ≤ k' := ((name_gd hk).use h).1

theorem tag_go {b : Bs} {L : Lm} {s s' : S} {lt0 k : Nat} (hk : k ≤ b.length) (hlt : lt0 < k) (hs : s.k ≤ lt0) (h0 : s.op = [] → ¬ 0 < s.nodes) (h : tagS b L s lt0 k = .go s') : Step b L s s' := by
  unfold tagS at h
  obtain ⟨r, k1, h1, h2⟩ := q_go h
  split at h2
  · cases h2
  split at h2
  · cases h2
  rename_i hcap
  have hD : (s.op.length : Int) ≠ L.D := fun e => hcap (.inl e)
  have hN : s.nodes ≠ L.N := fun e => hcap (.inr e)
  obtain ⟨nm, k2, h3, h4⟩ := q_go h2
  obtain ⟨⟨l, sl⟩, k3, h5, h6⟩ := q_go h4
  have g2 := (name_gd hk).use h3
  have g3 := (attrs_gd g2.2).use h5
  cases sl with
  | none => injection h6 with e; subst e; exact .start nm l lt0 k3 hD hN h0 hs (by omega) g3.2
  | some sl =>
    injection h6 with e; subst e
    have := attrs_sl g2.2 h5
    exact .empty nm l lt0 k3 sl hD hN h0 hs (by omega) g3.2 (by omega) (by omega)
theorem blanks_end {b : Bs} {k k' : Nat} {g : Bool} (hk : b.length ≤ k) (h : blanksS b k = .ok g k') : k' = k := by
  unfold blanksS at h
  have e : b.length - k = 0 := by omega
  rw [e, blkS, bind_ok] at h
  injection h with e1 e2
  exact e2.symm
theorem sign_end {b : Bs} {r : Int} {k : Nat} (hk : b.length ≤ k) : signS b r k = .bad k 2 := by
  rw [signS, if_neg]
  rintro ⟨h, _⟩
  rw [okl_end hk] at h
  cases h
theorem end_go {b : Bs} {L : Lm} {s s' : S} {lt0 k : Nat} (hk : k ≤ b.length) (hlt : lt0 < k) (hs : s.k ≤ lt0) (h0 : s.op ≠ []) (h : endS b L s lt0 k = .go s') : Step b L s s' := by
  unfold endS at h
  obtain ⟨nm, k1, h1, h2⟩ := q_go h
  have g1 := (name_gd hk).use h1
  split at h2
  · cases h2
  rename_i hc
  obtain ⟨g, k2, h3, h4⟩ := q_go h2
  obtain ⟨u, k3, h5, h6⟩ := q_go h4
  have g2 := (blanks_gd g1.2).use h3
  have g3 := (sign_gd g2.2).use h5
  cases u
  have hnm : nm = s.op.getLastD [] := by
    by_cases e : nm = s.op.getLastD []
    · exact e
    · exfalso
      apply hc
      refine ⟨e, ?_⟩
      rintro ⟨e1, _⟩
      have := blanks_end (by omega) h3
      rw [sign_end (by omega)] at h5
      cases h5
  injection h6 with e
  subst e
  rw [hnm]
  exact .close lt0 k3 h0 hs (by omega) g3.2
theorem cd_go {b : Bs} {L : Lm} {s s' : S} {k : Nat} (hs : s.k ≤ b.length) (hk : k ≤ b.length) (hlt : s.k < k) (ht : s.tat ≤ b.length) (h0 : s.op ≠ []) (h : cdS b L s s.k k = .go s') : Step b L s s' := by
  unfold cdS at h
  obtain ⟨_, k1, h1, h2⟩ := q_go h
  obtain ⟨o, k2, h3, h4⟩ := q_go h2
  have g1 := (word_gd (by omega) hk).use h1
  have ha : (beginS s s.k).tat ≤ b.length := by
    unfold beginS
    split
    · exact ht
    · show (s.k : Int) ≤ _; omega
  have g2 := (cd_gd ha g1.2).use h3
  injection h4 with e
  subst e
  exact .text k2 o h0 (by omega) g2.2
theorem put_go {b : Bs} {L : Lm} {s s' : S} {r : Int} {k : Nat} (hk : k ≤ b.length) (hlt : s.k < k) (h0 : s.op ≠ []) (h : putQ L (beginS s s.k) r k = .go s') : Step b L s s' := by
  unfold putQ at h
  obtain ⟨o, k1, h1, h2⟩ := q_go h
  obtain ⟨rfl, rfl, _⟩ := put_inv h1
  injection h2 with e
  subst e
  exact .text k1 _ h0 hlt hk
theorem take_pos {b : Bs} {k k' : Nat} {r : Int} (h : takeS b k = .ok r k') : k < k' := by
  obtain ⟨ho, _, rfl⟩ := take_inv h
  have := ln_pos ho
  omega
theorem inst_pos {b : Bs} {T : Int} {k k' : Nat} (hk : k ≤ b.length) (h : instS b T k = .ok () k') : k < k' := by
  unfold instS at h
  obtain ⟨r, k1, h1, h2⟩ := bind_inv h
  have h3 := take_pos h1
  have g1 := ((take_gd hk).use h1).2
  obtain ⟨nm, k2, h4, h5⟩ := bind_inv h2
  have g2 := (name_gd g1).use h4
  obtain ⟨x, k3, h6, h7⟩ := bind_inv h5
  split at h7
  · cases h7
  obtain ⟨gap, k4, h8, h9⟩ := bind_inv h7
  have g3 := (blanks_gd g2.2).use h8
  split at h9
  · have := (instL_gd g3.2).use h9; omega
  · have := ((sign_gd g3.2).bind fun _ k4 _ _ h4 => sign_gd h4).use h9; omega
theorem bang_go {b : Bs} {L : Lm} {s s' : S} {k : Nat} (hs : s.k ≤ b.length) (hk : k ≤ b.length) (hlt : s.k < k) (ht : s.tat ≤ b.length) (h0 : s.op ≠ []) (h : bangS b L s s.k k = .go s') : Step b L s s' := by
  unfold bangS at h
  obtain ⟨r, k1, h1, h2⟩ := q_go h
  split at h2
  · exact cd_go hs hk hlt ht h0 h2
  · obtain ⟨_, k2, h3, h4⟩ := q_go h2
    have g := (note_gd (by omega) hk).use h3
    injection h4 with e
    subst e
    exact .on k2 (by omega) g.2
theorem mark_go {b : Bs} {L : Lm} {s s' : S} {k : Nat} (hs : s.k ≤ b.length) (hk : k ≤ b.length) (hlt : s.k < k) (ht : s.tat ≤ b.length) (h0 : s.op ≠ []) (h : markS b L s s.k k = .go s') : Step b L s s' := by
  unfold markS at h
  obtain ⟨r, k1, h1, h2⟩ := q_go h
  have hle := ln_le b k hk
  split at h2
  · obtain ⟨_, k2, h3, h4⟩ := q_go h2
    have g := (inst_gd hk).use h3
    injection h4 with e
    subst e
    exact .on k2 (by omega) g.2
  split at h2
  · exact bang_go hs hle (by omega) ht h0 h2
  split at h2
  · exact end_go hle (by omega) (Nat.le_refl _) h0 h2
  · exact tag_go hk hlt (Nat.le_refl _) (fun e => absurd e h0) h2
theorem ref_pos {b : Bs} {k k' : Nat} {c : Int} (hk : k ≤ b.length) (h : refS b k = .ok c k') : k < k' := by
  unfold refS at h
  obtain ⟨r, k1, h1, h2⟩ := bind_inv h
  obtain ⟨r2, k2, h3, h4⟩ := bind_inv h2
  have p1 := take_pos h1
  have g1 := ((take_gd hk).use h1).2
  have g2 := (take_gd g1).use h3
  have ha : (k : Int) ≤ b.length := by omega
  have : Gd b k2 (
    if r2 = 35 then numberS b k k2
    else if r2 = 108 then (wordS b k [116, 59] k2).bind fun _ k' => .ok 60 k'
    else if r2 = 103 then (wordS b k [116, 59] k2).bind fun _ k' => .ok 62 k'
    else if r2 = 113 then (wordS b k [117, 111, 116, 59] k2).bind fun _ k' => .ok 34 k'
    else if r2 = 97 then ampS b k k2
    else .bad k 2) := by
    have h2 := g2.2
    split
    · exact number_gd ha h2
    split
    · exact wordv_gd ha h2
    split
    · exact wordv_gd ha h2
    split
    · exact wordv_gd ha h2
    split
    · exact amp_gd ha h2
    · exact .bad ha (by decide)
  have := this.use h4
  omega
theorem line_pos {b : Bs} {k k' : Nat} {c : Int} (h : lineS b k = .ok c k') : k < k' := by
  unfold lineS at h
  obtain ⟨r, k1, h1, h2⟩ := bind_inv h
  have := take_pos h1
  split at h2
  · split at h2
    · injection h2 with _ e; omega
    · injection h2 with _ e; omega
  · injection h2 with _ e; omega
theorem cont_go {b : Bs} {L : Lm} {s s' : S} (hs : s.k ≤ b.length) (ht : s.tat ≤ b.length) (h0 : s.op ≠ []) (h : contS b L s = .go s') : Step b L s s' := by
  unfold contS at h
  obtain ⟨r, k1, h1, h2⟩ := q_go h
  obtain ⟨ho, _, _⟩ := peek_inv h1
  have hle := ln_le b s.k hs
  have hp := ln_pos ho
  split at h2
  · exact mark_go hs hle (by omega) ht h0 h2
  split at h2
  · obtain ⟨c, k2, h3, h4⟩ := q_go h2
    exact put_go ((ref_gd hs).use h3).2 (ref_pos hs h3) h0 h4
  split at h2
  · cases h2
  · obtain ⟨c, k2, h3, h4⟩ := q_go h2
    exact put_go ((line_gd hs).use h3).2 (line_pos h3) h0 h4
theorem out_go {b : Bs} {L : Lm} {s s' : S} (hs : s.k ≤ b.length) (h0 : s.op = []) (h : outS b L s = .go s') : Step b L s s' := by
  unfold outS at h
  obtain ⟨g, k1, h1, h2⟩ := q_go h
  have g1 := (blanks_gd hs).use h1
  split at h2
  · rename_i hc
    injection h2 with e
    subst e
    exact .over k1 h0 hc.2 g1.1 g1.2
  obtain ⟨_, k2, h3, h4⟩ := q_go h2
  have g2 := (sign_gd g1.2).use h3
  have hp : k1 < k2 := by
    obtain ⟨o, _, e⟩ := sign_inv h3
    have := ln_pos o
    omega
  obtain ⟨r, k3, h5, h6⟩ := q_go h4
  have hle := ln_le b k2 g2.2
  split at h6
  · obtain ⟨_, k4, h7, h8⟩ := q_go h6
    have g := (inst_gd g2.2).use h7
    injection h8 with e
    subst e
    exact .on k4 (by omega) g.2
  split at h6
  · obtain ⟨_, k4, h7, h8⟩ := q_go h6
    have g := (note_gd (by omega) hle).use h7
    injection h8 with e
    subst e
    exact .on k4 (by omega) g.2
  split at h6
  · cases h6
  split at h6
  · cases h6
  · rename_i hn
    exact tag_go g2.2 hp g1.1 (fun _ => hn) h6
theorem step_k {b : Bs} {L : Lm} {s s' : S} {k : Nat} (hk : s.k ≤ k) (h : Step b L { s with k := k } s') (h0 : s.op = []) (hbg : s.begun = false) : Step b L s s' := by
  cases h with
  | on k2 h1 h2 => exact .on k2 (by have : k < k2 := h1; omega) h2
  | text k2 o h0' h1 h2 => exact absurd h0 h0'
  | over k2 _ hn h1 h2 => exact .over k2 h0 hn (by have : k ≤ k2 := h1; omega) h2
  | start nm l lt0 k2 hD hN h0' h1 h2 h3 => exact .start nm l lt0 k2 hD hN h0' (by have : k ≤ lt0 := h1; omega) h2 h3
  | empty nm l lt0 k2 sl hD hN h0' h1 h2 h3 h4 h5 => exact .empty nm l lt0 k2 sl hD hN h0' (by have : k ≤ lt0 := h1; omega) h2 h3 h4 h5
  | close lt0 k2 h0' h1 h2 h3 => exact absurd h0 h0'
theorem read_go {b : Bs} {L : Lm} {s s' : S} (hs : s.k ≤ b.length) (ht : s.tat ≤ b.length) (hbg : s.op = [] → s.begun = false) (h : readS b L s = .go s') : Step b L s s' := by
  unfold readS at h
  split at h
  · rename_i h0
    exact cont_go hs ht (by intro e; rw [e] at h0; simp at h0) h
  · rename_i h0
    have h0' : s.op = [] := List.eq_nil_of_length_eq_zero (by omega)
    split at h
    · rename_i hd
      have h5 : 5 ≤ b.length := by
        have := hd.2
        unfold isDecl at this
        simp at this
        omega
      obtain ⟨_, k, h1, h2⟩ := q_go h
      have g := (decl_gd h5).use h1
      have := out_go (s := { s with k := k }) g.2 h0' h2
      exact step_k (by omega) this h0' (hbg h0')
    · exact out_go hs h0' h

/-- Faults lie within the bytes. -/
def FB (b : Bs) (p e : Int) : Prop := p ≤ (b.length : Int) ∧ e ≠ 0
theorem Gd.fb {b : Bs} {k : Nat} {x : R α} {p e : Int} (h : Gd b k x) (hx : x = .bad p e) : FB b p e := h.isbad hx
theorem tag_fb {b : Bs} {L : Lm} {s : S} {lt0 k : Nat} {p e : Int} (hk : k ≤ b.length) (hlt : lt0 ≤ b.length) (h : tagS b L s lt0 k = .bad p e) : FB b p e := by
  unfold tagS at h
  rcases q_bad h with h | ⟨r, k1, h1, h⟩
  · exact (peek_gd hk).fb h
  split at h
  · injection h with e1 e2; subst e1; subst e2; exact ⟨by omega, by decide⟩
  split at h
  · injection h with e1 e2; subst e1; subst e2; exact ⟨by omega, by decide⟩
  rcases q_bad h with h | ⟨nm, k2, h2, h⟩
  · exact (name_gd hk).fb h
  have g2 := (name_gd hk).use h2
  rcases q_bad h with h | ⟨⟨l, sl⟩, k3, h5, h⟩
  · exact (attrs_gd g2.2).fb h
  cases sl <;> cases h
theorem end_fb {b : Bs} {L : Lm} {s : S} {lt0 k : Nat} {p e : Int} (hk : k ≤ b.length) (hlt : lt0 ≤ b.length) (h : endS b L s lt0 k = .bad p e) : FB b p e := by
  unfold endS at h
  rcases q_bad h with h | ⟨nm, k1, h1, h⟩
  · exact (name_gd hk).fb h
  have g1 := (name_gd hk).use h1
  split at h
  · injection h with e1 e2; subst e1; subst e2; exact ⟨by omega, by decide⟩
  rcases q_bad h with h | ⟨_, k2, h2, h⟩
  · exact (blanks_gd g1.2).fb h
  have g2 := (blanks_gd g1.2).use h2
  rcases q_bad h with h | ⟨_, k3, h3, h⟩
  · exact (sign_gd g2.2).fb h
  cases h
theorem begin_tat {b : Bs} {s : S} (hs : s.k ≤ b.length) (ht : s.tat ≤ b.length) : (beginS s s.k).tat ≤ b.length := by
  unfold beginS
  split
  · exact ht
  · show (s.k : Int) ≤ _; omega
theorem put_fb {b : Bs} {L : Lm} {s : S} {r : Int} {k : Nat} {p e : Int} (hk : k ≤ b.length) (ht : s.tat ≤ b.length) (h : putQ L s r k = .bad p e) : FB b p e := by
  unfold putQ at h
  rcases q_bad h with h | ⟨o, k1, h1, h⟩
  · exact (put_gd ht hk).fb h
  cases h
theorem cont_fb {b : Bs} {L : Lm} {s : S} {p e : Int} (hs : s.k ≤ b.length) (ht : s.tat ≤ b.length) (h : contS b L s = .bad p e) : FB b p e := by
  unfold contS at h
  rcases q_bad h with h | ⟨r, k1, h1, h⟩
  · exact (peek_gd hs).fb h
  have hle := ln_le b s.k hs
  have hbt := begin_tat hs ht
  split at h
  · unfold markS at h
    rcases q_bad h with h | ⟨r, k1, h1, h⟩
    · exact (peek_gd hle).fb h
    have hle2 := ln_le b _ hle
    split at h
    · rcases q_bad h with h | ⟨r, k1, h1, h⟩
      · exact (inst_gd hle).fb h
      · cases h
    split at h
    · unfold bangS at h
      rcases q_bad h with h | ⟨r, k1, h1, h⟩
      · exact (peek_gd hle2).fb h
      split at h
      · unfold cdS at h
        rcases q_bad h with h | ⟨r, k1, h1, h⟩
        · exact (word_gd (by omega) hle2).fb h
        have g := (word_gd (by omega) hle2).use h1
        rcases q_bad h with h | ⟨r, k1, h1, h⟩
        · exact (cd_gd hbt g.2).fb h
        · cases h
      · rcases q_bad h with h | ⟨r, k1, h1, h⟩
        · exact (note_gd (by omega) hle2).fb h
        · cases h
    split at h
    · exact end_fb hle2 hs h
    · exact tag_fb hle hs h
  split at h
  · rcases q_bad h with h | ⟨c, k1, h1, h⟩
    · exact (ref_gd hs).fb h
    · exact put_fb ((ref_gd hs).use h1).2 hbt h
  split at h
  · injection h with e1 e2; subst e1; subst e2; exact ⟨by omega, by decide⟩
  · rcases q_bad h with h | ⟨c, k1, h1, h⟩
    · exact (line_gd hs).fb h
    · exact put_fb ((line_gd hs).use h1).2 hbt h
theorem out_fb {b : Bs} {L : Lm} {s : S} {p e : Int} (hs : s.k ≤ b.length) (h : outS b L s = .bad p e) : FB b p e := by
  unfold outS at h
  rcases q_bad h with h | ⟨r, k1, h1, h⟩
  · exact (blanks_gd hs).fb h
  have g1 := (blanks_gd hs).use h1
  split at h
  · cases h
  rcases q_bad h with h | ⟨r, k2, h2, h⟩
  · exact (sign_gd g1.2).fb h
  have g2 := (sign_gd g1.2).use h2
  rcases q_bad h with h | ⟨r, k3, h3, h⟩
  · exact (peek_gd g2.2).fb h
  split at h
  · rcases q_bad h with h | ⟨r, k1, h1, h⟩
    · exact (inst_gd g2.2).fb h
    · cases h
  split at h
  · rcases q_bad h with h | ⟨r, k1, h1, h⟩
    · exact (note_gd (by omega) (ln_le b k2 g2.2)).fb h
    · cases h
  split at h
  · injection h with e1 e2; subst e1; subst e2; exact ⟨by omega, by decide⟩
  split at h
  · injection h with e1 e2; subst e1; subst e2; exact ⟨by omega, by decide⟩
  · exact tag_fb g2.2 g1.2 h
theorem read_fb {b : Bs} {L : Lm} {s : S} {p e : Int} (hs : s.k ≤ b.length) (ht : s.tat ≤ b.length) (h : readS b L s = .bad p e) : FB b p e := by
  unfold readS at h
  split at h
  · exact cont_fb hs ht h
  split at h
  · rename_i hd
    have h5 : 5 ≤ b.length := by
      have := hd.2
      unfold isDecl at this
      simp at this
      omega
    rcases q_bad h with h | ⟨r, k1, h1, h⟩
    · exact (decl_gd h5).fb h
    · exact out_fb (s := { s with k := k1 }) ((decl_gd h5).use h1).2 h
  · exact out_fb hs h
end Go.Proofs.YtjcgnbmpnaapdaaDoor.M
namespace Go.Proofs.YtjcgnbmpnaapdaaDoor.M
set_option linter.unusedVariables false

structure J (b : Bs) (s : S) : Prop where
  k : s.k ≤ b.length
  bg : s.op = [] → s.begun = false
  t0 : s.begun = false → s.tat = 0 ∧ s.tout = []
  t1 : s.begun = true → 0 ≤ s.tat ∧ s.tat ≤ s.k
  nd : s.op ≠ [] → 0 < s.nodes
  n0 : 0 ≤ s.nodes
  ov : s.over = true → s.op = [] ∧ 0 < s.nodes
theorem J.ta {b : Bs} {s : S} (h : J b s) : s.tat ≤ b.length := by
  have hk := h.k
  cases hb : s.begun
  · have := (h.t0 hb).1; omega
  · have := (h.t1 hb).2; omega
theorem J.s0 (b : Bs) : J b s0 := ⟨Nat.zero_le _, fun _ => rfl, fun _ => ⟨rfl, rfl⟩, fun h => (by cases h), fun h => absurd rfl h, by decide, fun h => by cases h⟩
theorem J.clear {b : Bs} {s : S} (h : J b s) (r : List Ev) : J b { s with ready := r } := ⟨h.k, h.bg, h.t0, h.t1, h.nd, h.n0, h.ov⟩
theorem J.step {b : Bs} {L : Lm} {s s' : S} (h : J b s) (hs : Step b L s s') (ho : s.over = false) : J b s' := by
  cases hs with
  | on k h1 h2 => exact ⟨h2, h.bg, h.t0, fun hb => (by have := h.t1 hb; refine ⟨this.1, ?_⟩; show s.tat ≤ (k : Int); omega), h.nd, h.n0, h.ov⟩
  | text k o h0 h1 h2 =>
    have hnd := h.nd h0
    have e1 : (beginS s s.k).op = s.op := by unfold beginS; split <;> rfl
    have e2 : (beginS s s.k).nodes = s.nodes := by unfold beginS; split <;> rfl
    have e3 : (beginS s s.k).begun = true := by unfold beginS; split <;> first | assumption | rfl
    have e4 : (beginS s s.k).over = s.over := by unfold beginS; split <;> rfl
    have e5 : 0 ≤ (beginS s s.k).tat ∧ (beginS s s.k).tat ≤ k := by
      unfold beginS
      split
      · rename_i hb; have := h.t1 hb; omega
      · show (0 : Int) ≤ (s.k : Int) ∧ (s.k : Int) ≤ k; omega
    refine ⟨h2, fun e => ?_, fun e => ?_, fun _ => e5, fun _ => ?_, ?_, fun e => ?_⟩
    · have : (beginS s s.k).op = [] := e
      rw [e1] at this; exact absurd this h0
    · have : (beginS s s.k).begun = false := e
      rw [e3] at this; cases this
    · show 0 < (beginS s s.k).nodes; rw [e2]; exact hnd
    · show 0 ≤ (beginS s s.k).nodes; rw [e2]; exact h.n0
    · have : (beginS s s.k).over = true := e
      rw [e4, ho] at this; cases this
  | over k h0 hn h1 h2 => exact ⟨h2, h.bg, h.t0, fun hb => (by rw [h.bg h0] at hb; cases hb), h.nd, h.n0, fun _ => ⟨h0, hn⟩⟩
  | start nm l lt0 k hD hN h0 h1 h2 h3 => exact ⟨h3, fun _ => rfl, fun _ => ⟨rfl, rfl⟩, fun e => (by cases e), fun _ => (by have := h.n0; show 0 < s.nodes + 1; omega), (by have := h.n0; show 0 ≤ s.nodes + 1; omega), fun e => (by have e : s.over = true := e; rw [ho] at e; cases e)⟩
  | empty nm l lt0 k sl hD hN h0 h1 h2 h3 h4 h5 => exact ⟨h3, fun _ => rfl, fun _ => ⟨rfl, rfl⟩, fun e => (by cases e), fun _ => (by have := h.n0; show 0 < s.nodes + 1; omega), (by have := h.n0; show 0 ≤ s.nodes + 1; omega), fun e => (by have e : s.over = true := e; rw [ho] at e; cases e)⟩
  | close lt0 k h0 h1 h2 h3 => exact ⟨h3, fun _ => rfl, fun _ => ⟨rfl, rfl⟩, fun e => (by cases e), fun _ => h.nd h0, h.n0, fun e => (by have e : s.over = true := e; rw [ho] at e; cases e)⟩

def runS : Nat → Bs → Lm → S → List Ev × Int × Int
  | 0, _, _, _ => ([], -1, 9)
  | n + 1, b, L, s => if s.over = true then ([], 0, 0) else match readS b L s with
    | .bad p e => ([], p, e)
    | .go s' => (s'.ready ++ (runS n b L { s' with ready := [] }).1, (runS n b L { s' with ready := [] }).2)
def ov1 (s : S) : Nat := if s.over = true then 0 else 1
def mu (b : Bs) (s : S) : Nat := 4 * (b.length - s.k) + s.ready.length + ov1 s
def nu (b : Bs) (s : S) : Nat := b.length - s.k + ov1 s
theorem ov1_le (s : S) : ov1 s ≤ 1 := by unfold ov1; split <;> omega
theorem tell_len (s : S) (tag : List Ev) : (tellS s tag).ready.length ≤ s.ready.length + 1 + tag.length := by
  unfold tellS
  simp only [List.length_append]
  split <;> simp
theorem step_mu {b : Bs} {L : Lm} {s s' : S} (hr : s.ready = []) (ho : s.over = false) (hs : Step b L s s') : mu b s' < mu b s ∧ nu b s' < nu b s := by
  have e0 : ov1 s = 1 := by unfold ov1; rw [if_neg (by rw [ho]; simp)]
  have l1 := ov1_le s'
  unfold mu nu
  rw [e0]
  have hr0 : s.ready.length = 0 := by rw [hr]; rfl
  cases hs with
  | on k h1 h2 => simp only at *; omega
  | text k o h0 h1 h2 =>
    have e1 : (beginS s s.k).ready = s.ready := by unfold beginS; split <;> rfl
    simp only [e1] at *; omega
  | over k h0 hn h1 h2 =>
    have : ov1 { s with k := k, over := true } = 0 := by unfold ov1; rw [if_pos rfl]
    rw [this]
    simp only at *; omega
  | start nm l lt0 k hD hN h0 h1 h2 h3 =>
    have := tell_len { s with nodes := s.nodes + 1, k := k, op := s.op ++ [nm] } [⟨1, lt0, nm, [], l⟩]
    have e : (tellS { s with nodes := s.nodes + 1, k := k, op := s.op ++ [nm] } [⟨1, lt0, nm, [], l⟩]).k = k := rfl
    rw [e]
    simp only [List.length_cons, List.length_nil] at *
    omega
  | empty nm l lt0 k sl hD hN h0 h1 h2 h3 h4 h5 =>
    have := tell_len { s with nodes := s.nodes + 1, k := k } [⟨1, lt0, nm, [], l⟩, ⟨2, sl, nm, [], []⟩]
    have e : (tellS { s with nodes := s.nodes + 1, k := k } [⟨1, lt0, nm, [], l⟩, ⟨2, sl, nm, [], []⟩]).k = k := rfl
    rw [e]
    simp only [List.length_cons, List.length_nil] at *
    omega
  | close lt0 k h0 h1 h2 h3 =>
    have := tell_len { s with k := k, op := s.op.dropLast } [⟨2, lt0, s.op.getLastD [], [], []⟩]
    have e : (tellS { s with k := k, op := s.op.dropLast } [⟨2, lt0, s.op.getLastD [], [], []⟩]).k = k := rfl
    rw [e]
    simp only [List.length_cons, List.length_nil] at *
    omega
theorem clear_self {s : S} (h : s.ready = []) : { s with ready := [] } = s := by cases s; simp at h; subst h; rfl

theorem next_pop {n : Nat} {b : Bs} {L : Lm} {s : S} {e : Ev} {es : List Ev} (h : s.ready = e :: es) : nextS (n + 1) b L s = .ev e { s with ready := es } := by rw [nextS, h]
theorem next_over {n : Nat} {b : Bs} {L : Lm} {s : S} (h : s.ready = []) (ho : s.over = true) : nextS (n + 1) b L s = .fin 0 0 := by rw [nextS, h]; simp [ho]
theorem next_bad {n : Nat} {b : Bs} {L : Lm} {s : S} {p e : Int} (h : s.ready = []) (ho : s.over = false) (hx : readS b L s = .bad p e) : nextS (n + 1) b L s = .fin p e := by rw [nextS, h]; simp [ho, hx]
theorem next_go {n : Nat} {b : Bs} {L : Lm} {s s' : S} (h : s.ready = []) (ho : s.over = false) (hx : readS b L s = .go s') : nextS (n + 1) b L s = nextS n b L s' := by rw [nextS, h]; simp [ho, hx]
theorem run_over {n : Nat} {b : Bs} {L : Lm} {s : S} (ho : s.over = true) : runS (n + 1) b L s = ([], 0, 0) := by rw [runS, if_pos ho]
theorem run_bad {n : Nat} {b : Bs} {L : Lm} {s : S} {p e : Int} (ho : s.over = false) (hx : readS b L s = .bad p e) : runS (n + 1) b L s = ([], p, e) := by rw [runS, if_neg (by rw [ho]; simp), hx]
theorem run_go {n : Nat} {b : Bs} {L : Lm} {s s' : S} (ho : s.over = false) (hx : readS b L s = .go s') : runS (n + 1) b L s = (s'.ready ++ (runS n b L { s' with ready := [] }).1, (runS n b L { s' with ready := [] }).2) := by rw [runS, if_neg (by rw [ho]; simp), hx]
theorem run_go0 {n : Nat} {b : Bs} {L : Lm} {s s' : S} (ho : s.over = false) (hx : readS b L s = .go s') (hr : s'.ready = []) : runS (n + 1) b L s = runS n b L s' := by
  rw [run_go ho hx, clear_self hr, hr]; rfl

theorem next_run {b : Bs} {L : Lm} : ∀ (n : Nat) (s : S), J b s → s.ready = [] → nu b s < n → ∀ m, nu b s < m →
    (∃ p e, nextS n b L s = .fin p e ∧ runS m b L s = ([], p, e)) ∨
    (∃ e s' m', nextS n b L s = .ev e s' ∧ J b s' ∧ mu b s' < mu b s ∧ nu b s' < m' ∧ runS m b L s = (e :: (s'.ready ++ (runS m' b L { s' with ready := [] }).1), (runS m' b L { s' with ready := [] }).2))
  | 0, s, hj, hr, hn, m, hm => by omega
  | n + 1, s, hj, hr, hn, 0, hm => by omega
  | n + 1, s, hj, hr, hn, m + 1, hm => by
    rcases Bool.eq_false_or_eq_true s.over with ho | ho
    · exact .inl ⟨0, 0, next_over hr ho, run_over ho⟩
    · cases hx : readS b L s with
      | bad p e => exact .inl ⟨p, e, next_bad hr ho hx, run_bad ho hx⟩
      | go s1 =>
        have hst := read_go hj.k hj.ta hj.bg hx
        have hj1 := hj.step hst ho
        obtain ⟨q1, q2⟩ := step_mu hr ho hst
        rw [next_go hr ho hx]
        cases hr1 : s1.ready with
        | nil =>
          rw [run_go0 ho hx hr1]
          have := next_run (L := L) n s1 hj1 hr1 (by omega) m (by omega)
          rcases this with h | ⟨e, s2, m2, a1, a2, a3, a4, a5⟩
          · exact .inl h
          · exact .inr ⟨e, s2, m2, a1, a2, by omega, a4, a5⟩
        | cons e es =>
          refine .inr ⟨e, { s1 with ready := es }, m, ?_, hj1.clear es, ?_, ?_, ?_⟩
          · obtain ⟨n, rfl⟩ : ∃ n', n = n' + 1 := ⟨n - 1, by omega⟩
            exact next_pop hr1
          · have : mu b { s1 with ready := es } < mu b s1 := by unfold mu ov1; rw [hr1]; simp
            omega
          · have : nu b { s1 with ready := es } = nu b s1 := rfl
            omega
          · rw [run_go ho hx, hr1]; rfl

theorem all_run {b : Bs} {L : Lm} : ∀ (n : Nat) (s : S) (acc : List Ev), J b s → mu b s < n → ∀ m, nu b s < m →
    allS n b L s acc = (acc ++ (s.ready ++ (runS m b L { s with ready := [] }).1), (runS m b L { s with ready := [] }).2)
  | 0, s, acc, hj, hn, m, hm => by omega
  | n + 1, s, acc, hj, hn, m, hm => by
    rw [allS]
    cases hr : s.ready with
    | cons e es =>
      rw [next_pop hr]
      have hmu : mu b { s with ready := es } < mu b s := by unfold mu ov1; rw [hr]; simp
      have := all_run (L := L) n { s with ready := es } (acc ++ [e]) (hj.clear es) (by omega) m hm
      simp only
      rw [this]
      simp
    | nil =>
      rw [clear_self hr]
      have l1 := ov1_le s
      rcases next_run (L := L) (b.length + 2) s hj hr (by unfold nu; omega) m hm with ⟨p, e, a1, a2⟩ | ⟨e, s2, m2, a1, a2, a3, a4, a5⟩
      · rw [a1, a2]; simp
      · rw [a1, a5]
        have := all_run (L := L) n s2 (acc ++ [e]) a2 (by omega) m2 a4
        simp only
        rw [this]
        simp
theorem allB_run {b : Bs} {L : Lm} (h : b.length ≤ 65536) (m : Nat) (hm : b.length + 1 < m) : allB b L = runS m b L s0 := by
  unfold allB
  rw [if_neg (by omega), all_run (4 * b.length + 3) s0 [] (J.s0 b) (by show 4 * (b.length - 0) + 0 + 1 < _; omega) m (by show b.length - 0 + 1 < _; omega)]
  rfl

/-- Events one by one: names open, roots so far, the last event's kind and place. -/
def nst (op : List Bs) (roots pk pa : Int) : List Ev → Option (List Bs × Int)
  | [] => some (op, roots)
  | e :: es => if e.place < pa then none
      else if e.kind = 1 then nst (op ++ [e.name]) (if op = [] then roots + 1 else roots) 1 e.place es
      else if e.kind = 2 then (if op = [] ∨ op.getLastD [] ≠ e.name then none else nst op.dropLast roots 2 e.place es)
      else if e.kind = 3 then (if op = [] ∨ e.text = [] ∨ pk = 3 then none else nst op roots 3 e.place es)
      else none
theorem nst_start {op : List Bs} {roots pk pa place : Int} {nm t : Bs} {l : List At} {es : List Ev} (h : pa ≤ place) : nst op roots pk pa (⟨1, place, nm, t, l⟩ :: es) = nst (op ++ [nm]) (if op = [] then roots + 1 else roots) 1 place es := by
  rw [nst, if_neg (by simp; omega), if_pos rfl]
theorem nst_end {op : List Bs} {roots pk pa place : Int} {nm t : Bs} {l : List At} {es : List Ev} (h : pa ≤ place) (h0 : op ≠ []) (h1 : op.getLastD [] = nm) : nst op roots pk pa (⟨2, place, nm, t, l⟩ :: es) = nst op.dropLast roots 2 place es := by
  rw [nst, if_neg (by simp; omega), if_neg (by simp), if_pos rfl, if_neg]
  rintro (e | e)
  · exact h0 e
  · exact e h1
theorem nst_text {op : List Bs} {roots pk pa place : Int} {nm t : Bs} {l : List At} {es : List Ev} (h : pa ≤ place) (h0 : op ≠ []) (h1 : t ≠ []) (h2 : pk ≠ 3) : nst op roots pk pa (⟨3, place, nm, t, l⟩ :: es) = nst op roots 3 place es := by
  rw [nst, if_neg (by simp; omega), if_neg (by simp), if_neg (by simp), if_pos rfl, if_neg]
  rintro (e | e | e)
  · exact h0 e
  · exact h1 e
  · exact h2 e
/-- A text ahead of a tag. -/
theorem nst_tell {b : Bs} {s : S} {roots pk pa q : Int} {es : List Ev} (hj : J b s) (h2 : pk ≠ 3) (h3 : s.begun = true → pa ≤ s.tat) (hq : pa ≤ q) (hk : (s.k : Int) ≤ q) :
    ∃ pk' pa', pa' ≤ q ∧ nst s.op roots pk pa ((if 0 < s.tout.length then [⟨3, s.tat, [], s.tout, []⟩] else []) ++ es) = nst s.op roots pk' pa' es := by
  by_cases ht : 0 < s.tout.length
  · rw [if_pos ht]
    have hb : s.begun = true := by
      cases hb : s.begun
      · rw [(hj.t0 hb).2] at ht; simp at ht
      · rfl
    have ho : s.op ≠ [] := by intro e; rw [hj.bg e] at hb; cases hb
    have htn : s.tout ≠ [] := by intro e; rw [e] at ht; simp at ht
    refine ⟨3, s.tat, ?_, ?_⟩
    · have := (hj.t1 hb).2; omega
    · show nst s.op roots pk pa (⟨3, s.tat, [], s.tout, []⟩ :: es) = _
      exact nst_text (h3 hb) ho htn h2
  · rw [if_neg ht]
    exact ⟨pk, pa, hq, rfl⟩
theorem run_nst {b : Bs} {L : Lm} : ∀ (n : Nat) (s : S) (pk pa : Int), J b s → s.ready = [] → pk ≠ 3 → pa ≤ s.k → (s.begun = true → pa ≤ s.tat) →
    ∃ op' roots', nst s.op (if 0 < s.nodes then 1 else 0) pk pa (runS n b L s).1 = some (op', roots') ∧ roots' ≤ 1 ∧ ((runS n b L s).2.2 ≠ 0 ∨ roots' = 1 ∧ op' = [])
  | 0, s, pk, pa, hj, hr, h1, h2, h3 => ⟨s.op, _, rfl, by split <;> omega, .inl (by rw [runS]; decide)⟩
  | n + 1, s, pk, pa, hj, hr, h1, h2, h3 => by
    rcases Bool.eq_false_or_eq_true s.over with ho | ho
    · rw [run_over ho]
      have := hj.ov ho
      refine ⟨s.op, _, rfl, by split <;> omega, .inr ⟨by rw [if_pos this.2], this.1⟩⟩
    · cases hx : readS b L s with
      | bad p e => rw [run_bad ho hx]; exact ⟨s.op, _, rfl, by split <;> omega, .inl (read_fb hj.k hj.ta hx).2⟩
      | go s1 =>
        rw [run_go ho hx]
        have hst := read_go hj.k hj.ta hj.bg hx
        have hj1 := (hj.step hst ho).clear []
        have hn0 := hj.n0
        show ∃ op' roots', nst s.op _ pk pa (s1.ready ++ (runS n b L { s1 with ready := [] }).1) = some (op', roots') ∧ roots' ≤ 1 ∧ ((runS n b L { s1 with ready := [] }).2.2 ≠ 0 ∨ roots' = 1 ∧ op' = [])
        have hbT : s.begun = true → s.tat ≤ s.k := fun h => (hj.t1 h).2
        clear hx
        cases hst with
        | on k q1 q2 =>
          have := run_nst (L := L) n { s with k := k, ready := [] } pk pa hj1 rfl h1 (by show pa ≤ (k : Int); omega) h3
          rw [show ({ s with k := k } : S).ready = [] from hr]
          exact this
        | text k o h0 q1 q2 =>
          have e1 : (beginS s s.k).op = s.op := by unfold beginS; split <;> rfl
          have e2 : (beginS s s.k).nodes = s.nodes := by unfold beginS; split <;> rfl
          have e3 : (beginS s s.k).ready = s.ready := by unfold beginS; split <;> rfl
          have e4 : pa ≤ (beginS s s.k).tat := by
            unfold beginS
            split
            · exact h3 ‹_›
            · exact h2
          have := run_nst (L := L) n { { beginS s s.k with tout := o, k := k } with ready := [] } pk pa hj1 rfl h1 (by show pa ≤ (k : Int); omega) (fun _ => e4)
          rw [show ({ beginS s s.k with tout := o, k := k } : S).ready = [] by show (beginS s s.k).ready = []; rw [e3, hr]]
          have e5 : ({ { beginS s s.k with tout := o, k := k } with ready := [] } : S).op = s.op := e1
          have e6 : ({ { beginS s s.k with tout := o, k := k } with ready := [] } : S).nodes = s.nodes := e2
          rw [e5, e6] at this
          exact this
        | over k h0 hn q1 q2 =>
          have := run_nst (L := L) n { s with k := k, over := true, ready := [] } pk pa hj1 rfl h1 (by show pa ≤ (k : Int); omega) h3
          rw [show ({ s with k := k, over := true } : S).ready = [] from hr]
          exact this
        | start nm l lt0 k hD hN h0 q1 q2 q3 =>
          have hrd : (tellS { s with nodes := s.nodes + 1, k := k, op := s.op ++ [nm] } [⟨1, lt0, nm, [], l⟩]).ready = (if 0 < s.tout.length then [⟨3, s.tat, [], s.tout, []⟩] else []) ++ [⟨1, lt0, nm, [], l⟩] := by
            show s.ready ++ _ ++ _ = _
            rw [hr, List.nil_append]
          rw [hrd, List.append_assoc]
          obtain ⟨pk', pa', hq, e⟩ := nst_tell (roots := if 0 < s.nodes then 1 else 0) (es := [⟨1, lt0, nm, [], l⟩] ++ (runS n b L { tellS { s with nodes := s.nodes + 1, k := k, op := s.op ++ [nm] } [⟨1, lt0, nm, [], l⟩] with ready := [] }).1) hj h1 h3 (q := lt0) (by omega) (by omega)
          rw [e, List.singleton_append, nst_start hq]
          have := run_nst (L := L) n { tellS { s with nodes := s.nodes + 1, k := k, op := s.op ++ [nm] } [⟨1, lt0, nm, [], l⟩] with ready := [] } 1 lt0 hj1 rfl (by decide) (by show (lt0 : Int) ≤ (k : Int); omega) (fun h => by cases h)
          have e1 : (if s.op = [] then (if 0 < s.nodes then (1 : Int) else 0) + 1 else (if 0 < s.nodes then 1 else 0)) = (if 0 < s.nodes + 1 then 1 else 0) := by
            rw [if_pos (show 0 < s.nodes + 1 by omega)]
            by_cases hop : s.op = []
            · rw [if_pos hop, if_neg (h0 hop)]; rfl
            · rw [if_neg hop, if_pos (hj.nd hop)]
          rw [e1]
          exact this
        | empty nm l lt0 k sl hD hN h0 q1 q2 q3 q4 q5 =>
          have hrd : (tellS { s with nodes := s.nodes + 1, k := k } [⟨1, lt0, nm, [], l⟩, ⟨2, sl, nm, [], []⟩]).ready = (if 0 < s.tout.length then [⟨3, s.tat, [], s.tout, []⟩] else []) ++ [⟨1, lt0, nm, [], l⟩, ⟨2, sl, nm, [], []⟩] := by
            show s.ready ++ _ ++ _ = _
            rw [hr, List.nil_append]
          rw [hrd, List.append_assoc]
          obtain ⟨pk', pa', hq, e⟩ := nst_tell (roots := if 0 < s.nodes then 1 else 0) (es := [⟨1, lt0, nm, [], l⟩, ⟨2, sl, nm, [], []⟩] ++ (runS n b L { tellS { s with nodes := s.nodes + 1, k := k } [⟨1, lt0, nm, [], l⟩, ⟨2, sl, nm, [], []⟩] with ready := [] }).1) hj h1 h3 (q := lt0) (by omega) (by omega)
          rw [e, List.cons_append, nst_start hq, List.singleton_append, nst_end q4 (by simp) (by simp)]
          have := run_nst (L := L) n { tellS { s with nodes := s.nodes + 1, k := k } [⟨1, lt0, nm, [], l⟩, ⟨2, sl, nm, [], []⟩] with ready := [] } 2 sl hj1 rfl (by decide) (by show sl ≤ (k : Int); omega) (fun h => by cases h)
          have e1 : (if s.op = [] then (if 0 < s.nodes then (1 : Int) else 0) + 1 else (if 0 < s.nodes then 1 else 0)) = (if 0 < s.nodes + 1 then 1 else 0) := by
            rw [if_pos (show 0 < s.nodes + 1 by omega)]
            by_cases hop : s.op = []
            · rw [if_pos hop, if_neg (h0 hop)]; rfl
            · rw [if_neg hop, if_pos (hj.nd hop)]
          rw [e1, List.dropLast_concat]
          exact this
        | close lt0 k h0 q1 q2 q3 =>
          have hrd : (tellS { s with k := k, op := s.op.dropLast } [⟨2, lt0, s.op.getLastD [], [], []⟩]).ready = (if 0 < s.tout.length then [⟨3, s.tat, [], s.tout, []⟩] else []) ++ [⟨2, lt0, s.op.getLastD [], [], []⟩] := by
            show s.ready ++ _ ++ _ = _
            rw [hr, List.nil_append]
          rw [hrd, List.append_assoc]
          obtain ⟨pk', pa', hq, e⟩ := nst_tell (roots := if 0 < s.nodes then 1 else 0) (es := [⟨2, lt0, s.op.getLastD [], [], []⟩] ++ (runS n b L { tellS { s with k := k, op := s.op.dropLast } [⟨2, lt0, s.op.getLastD [], [], []⟩] with ready := [] }).1) hj h1 h3 (q := lt0) (by omega) (by omega)
          rw [e, List.singleton_append, nst_end hq h0 rfl]
          exact run_nst n { tellS { s with k := k, op := s.op.dropLast } [⟨2, lt0, s.op.getLastD [], [], []⟩] with ready := [] } 2 lt0 hj1 rfl (by decide) (by show (lt0 : Int) ≤ (k : Int); omega) (fun h => by cases h)
theorem all_nst (b : Bs) (L : Lm) : ∃ op roots, nst [] 0 0 0 (allB b L).1 = some (op, roots) ∧ roots ≤ 1 ∧ ((allB b L).2.2 ≠ 0 ∨ roots = 1 ∧ op = []) := by
  by_cases h : b.length ≤ 65536
  · rw [allB_run h (b.length + 2) (by omega)]
    exact run_nst (b.length + 2) s0 0 0 (J.s0 b) rfl (by decide) (by decide) (fun h => by cases h)
  · unfold allB
    rw [if_pos (by omega)]
    exact ⟨[], 0, rfl, by decide, .inl (by decide)⟩
end Go.Proofs.YtjcgnbmpnaapdaaDoor.M
namespace Go.Proofs.YtjcgnbmpnaapdaaDoor.M
set_option linter.unusedVariables false
variable {α β : Type}

def LimQ (x y : Q) : Prop := x = y ∨ ∃ p, x = .bad p 3
theorem LimQ.rfl {x : Q} : LimQ x x := .inl (Eq.refl _)
theorem LimQ.bad {p : Int} {y : Q} : LimQ (.bad p 3) y := .inr ⟨p, Eq.refl _⟩
theorem Lim.q {x y : R α} {f g : α → Nat → Q} (h : Lim x y) (hf : ∀ a k, LimQ (f a k) (g a k)) : LimQ (x.q f) (y.q g) := by
  rcases h with rfl | ⟨p, rfl⟩
  · cases x with
    | ok a k => exact hf a k
    | bad p e => exact .inl (Eq.refl _)
  · exact .inr ⟨p, Eq.refl _⟩
structure LL (L' L : Lm) : Prop where
  D : L'.D ≤ L.D
  N : L'.N ≤ L.N
  A : L'.A ≤ L.A
  T : L'.T ≤ L.T
  A0 : 0 ≤ L'.A
theorem tag_lim {b : Bs} {L' L : Lm} (hL : LL L' L) {s : S} {lt0 k : Nat} (hD : (s.op.length : Int) ≤ L'.D) (hN : s.nodes ≤ L'.N) : LimQ (tagS b L' s lt0 k) (tagS b L s lt0 k) := by
  have l1 := hL.D
  have l2 := hL.N
  unfold tagS
  refine Lim.rfl.q fun r _ => ?_
  split
  · exact .rfl
  by_cases h : (s.op.length : Int) = L'.D ∨ s.nodes = L'.N
  · rw [if_pos h]; exact .bad
  · rw [if_neg h, if_neg (by omega)]
    refine (name_lim hL.T).q fun nm k1 => ?_
    exact (attrs_lim hL.T hL.A (by simpa using hL.A0)).q fun p k2 => .rfl
theorem end_lim {b : Bs} {L' L : Lm} (hL : LL L' L) {s : S} {lt0 k : Nat} : LimQ (endS b L' s lt0 k) (endS b L s lt0 k) := by
  unfold endS
  exact (name_lim hL.T).q fun nm k1 => .rfl
theorem put_limq {L' L : Lm} (hL : LL L' L) {s : S} {r : Int} {k : Nat} : LimQ (putQ L' s r k) (putQ L s r k) := by
  unfold putQ
  exact (put_lim hL.T).q fun o k' => .rfl
theorem cont_lim {b : Bs} {L' L : Lm} (hL : LL L' L) {s : S} (hD : (s.op.length : Int) ≤ L'.D) (hN : s.nodes ≤ L'.N) : LimQ (contS b L' s) (contS b L s) := by
  unfold contS
  refine Lim.rfl.q fun r _ => ?_
  split
  · unfold markS
    refine Lim.rfl.q fun r _ => ?_
    split
    · exact (inst_lim hL.T).q fun _ _ => .rfl
    split
    · unfold bangS
      refine Lim.rfl.q fun r _ => ?_
      split
      · unfold cdS
        exact Lim.rfl.q fun _ k' => (cd_lim hL.T).q fun o k2 => .rfl
      · exact .rfl
    split
    · exact end_lim hL
    · exact tag_lim hL hD hN
  split
  · exact Lim.rfl.q fun c k' => put_limq hL
  split
  · exact .rfl
  · exact Lim.rfl.q fun c k' => put_limq hL
theorem out_lim {b : Bs} {L' L : Lm} (hL : LL L' L) {s : S} (hD : (s.op.length : Int) ≤ L'.D) (hN : s.nodes ≤ L'.N) : LimQ (outS b L' s) (outS b L s) := by
  unfold outS
  refine Lim.rfl.q fun _ k1 => ?_
  split
  · exact .rfl
  refine Lim.rfl.q fun _ k2 => Lim.rfl.q fun r _ => ?_
  split
  · exact (inst_lim hL.T).q fun _ _ => .rfl
  split
  · exact .rfl
  split
  · exact .rfl
  split
  · exact .rfl
  · exact tag_lim hL hD hN
theorem read_lim {b : Bs} {L' L : Lm} (hL : LL L' L) {s : S} (hD : (s.op.length : Int) ≤ L'.D) (hN : s.nodes ≤ L'.N) : LimQ (readS b L' s) (readS b L s) := by
  unfold readS
  split
  · exact cont_lim hL hD hN
  split
  · exact Lim.rfl.q fun _ k => out_lim hL hD hN
  · exact out_lim hL hD hN
theorem step_cap {b : Bs} {L : Lm} {s s' : S} (hs : Step b L s s') (hD : (s.op.length : Int) ≤ L.D) (hN : s.nodes ≤ L.N) : (s'.op.length : Int) ≤ L.D ∧ s'.nodes ≤ L.N := by
  cases hs with
  | on k h1 h2 => exact ⟨hD, hN⟩
  | text k o h0 h1 h2 =>
    have e1 : (beginS s s.k).op = s.op := by unfold beginS; split <;> rfl
    have e2 : (beginS s s.k).nodes = s.nodes := by unfold beginS; split <;> rfl
    refine ⟨?_, ?_⟩
    · show ((beginS s s.k).op.length : Int) ≤ _; rw [e1]; exact hD
    · show (beginS s s.k).nodes ≤ _; rw [e2]; exact hN
  | over k h0 hn h1 h2 => exact ⟨hD, hN⟩
  | start nm l lt0 k q1 q2 h0 h1 h2 h3 => exact ⟨by show (((s.op ++ [nm]).length : Nat) : Int) ≤ _; simp; omega, by show s.nodes + 1 ≤ _; omega⟩
  | empty nm l lt0 k sl q1 q2 h0 h1 h2 h3 h4 h5 => exact ⟨hD, by show s.nodes + 1 ≤ _; omega⟩
  | close lt0 k h0 h1 h2 h3 => exact ⟨by show ((s.op.dropLast.length : Nat) : Int) ≤ _; simp; omega, hN⟩
theorem run_fb {b : Bs} {L : Lm} : ∀ (n : Nat) (s : S), J b s → (runS n b L s).2.1 ≤ b.length
  | 0, s, hj => by rw [runS]; show (-1 : Int) ≤ _; omega
  | n + 1, s, hj => by
    rcases Bool.eq_false_or_eq_true s.over with ho | ho
    · rw [run_over ho]; show (0 : Int) ≤ _; omega
    · cases hx : readS b L s with
      | bad p e => rw [run_bad ho hx]; exact (read_fb hj.k hj.ta hx).1
      | go s1 =>
        rw [run_go ho hx]
        exact run_fb n _ ((hj.step (read_go hj.k hj.ta hj.bg hx) ho).clear [])
theorem run_lim {b : Bs} {L' L : Lm} (hL : LL L' L) : ∀ (n : Nat) (s : S), J b s → (s.op.length : Int) ≤ L'.D → s.nodes ≤ L'.N →
    ((runS n b L' s).2.2 = 3 ∧ (runS n b L' s).1.length ≤ (runS n b L s).1.length) ∨ runS n b L' s = runS n b L s
  | 0, s, hj, hD, hN => .inr rfl
  | n + 1, s, hj, hD, hN => by
    rcases Bool.eq_false_or_eq_true s.over with ho | ho
    · rw [run_over ho, run_over ho]; exact .inr rfl
    · rcases read_lim (b := b) hL hD hN with h | ⟨p, h⟩
      · cases hx : readS b L' s with
        | bad p e => rw [run_bad ho hx, run_bad ho (h ▸ hx)]; exact .inr rfl
        | go s1 =>
          have hst := read_go hj.k hj.ta hj.bg hx
          have hcap := step_cap hst hD hN
          rw [run_go ho hx, run_go ho (h ▸ hx)]
          rcases run_lim hL n { s1 with ready := [] } ((hj.step hst ho).clear []) hcap.1 hcap.2 with ⟨a1, a2⟩ | a1
          · exact .inl ⟨a1, by simp only [List.length_append]; omega⟩
          · rw [a1]; exact .inr rfl
      · rw [run_bad ho h]; exact .inl ⟨rfl, Nat.zero_le _⟩
theorem nar_le (own most : Int) (h : 1 ≤ most) : 1 ≤ narS own most ∧ narS own most ≤ most := by
  unfold narS
  split
  · omega
  · omega
theorem all_lim (b : Bs) (d n a t : Int) (hb : b.length ≤ 65536) : ((allB b (limS d n a t)).2.2 = 3 ∧ (allB b (limS d n a t)).1.length ≤ (allB b (limS 0 0 0 0)).1.length ∧ (allB b (limS d n a t)).2.1 ≤ b.length) ∨
    ((allB b (limS d n a t)).2.2 ≠ 3 ∧ allB b (limS d n a t) = allB b (limS 0 0 0 0)) := by
  have hL : LL (limS d n a t) (limS 0 0 0 0) := ⟨(nar_le d 64 (by decide)).2, (nar_le n 4096 (by decide)).2, (nar_le a 64 (by decide)).2, (nar_le t 4096 (by decide)).2, by have := (nar_le a 64 (by decide)).1; show 0 ≤ narS a 64; omega⟩
  rw [allB_run hb (b.length + 2) (by omega), allB_run hb (b.length + 2) (by omega)]
  have hf := run_fb (L := limS d n a t) (b.length + 2) s0 (J.s0 b)
  rcases run_lim hL (b.length + 2) s0 (J.s0 b) (by have := (nar_le d 64 (by decide)).1; show (0 : Int) ≤ narS d 64; omega) (by have := (nar_le n 4096 (by decide)).1; show (0 : Int) ≤ narS n 4096; omega) with ⟨h1, h2⟩ | h
  · exact .inl ⟨h1, h2, hf⟩
  · by_cases h3 : (runS (b.length + 2) b (limS d n a t) s0).2.2 = 3
    · exact .inl ⟨h3, by rw [h]; exact Nat.le_refl _, hf⟩
    · exact .inr ⟨h3, h⟩

/- Fronts. -/
def Alt (c : Nat) (s s' : S) : Prop := s'.ready = s.ready ∧ s'.op = s.op ∧ s'.nodes = s.nodes ∧ c ≤ s'.k
theorem alt_k {c : Nat} {s : S} {k : Nat} (h : c ≤ k) : Alt c s { s with k := k } := ⟨rfl, rfl, rfl, h⟩
theorem alt_t {c : Nat} {s : S} {a : Int} {o : Bs} {k : Nat} (h : c ≤ k) : Alt c s { beginS s a with tout := o, k := k } := by
  have e1 : (beginS s a).op = s.op := by unfold beginS; split <;> rfl
  have e2 : (beginS s a).nodes = s.nodes := by unfold beginS; split <;> rfl
  have e3 : (beginS s a).ready = s.ready := by unfold beginS; split <;> rfl
  exact ⟨e3, e1, e2, h⟩
theorem tag_fe {b : Bs} {L : Lm} {s s' : S} {c lt0 k : Nat} (hc : c ≤ b.length) (hk : k ≤ (b.take c).length) (h : tagS (b.take c) L s lt0 k = .go s') : tagS b L s lt0 k = .go s' := by
  have hl : (b.take c).length = c := by simp; omega
  unfold tagS at h ⊢
  obtain ⟨r, k0, h1, h2⟩ := q_go h
  obtain ⟨ho, hr, _⟩ := peek_inv h1
  obtain ⟨o1, o2, o3⟩ := okl_take ho
  subst hr
  rw [peekS, if_pos o1, o2]
  show (if isStart (lt (b.take c) k) = false then Q.bad k 2 else _) = _
  split at h2
  · cases h2
  rename_i q1
  rw [if_neg q1]
  split at h2
  · cases h2
  rename_i q2
  rw [if_neg q2]
  obtain ⟨nm, k2, h3, h4⟩ := q_go h2
  obtain ⟨p, k3, h5, h6⟩ := q_go h4
  have g2 := ((name_gd hk).use h3).2
  rcases name_fi hc (by omega) nm k2 h3 with h7 | h7
  · rw [h7]
    show (attrsL (b.length + 1) b L.A L.T [] k2).q _ = _
    rw [attrs_fe hc (by omega) g2 h5]
    exact h6
  · exact absurd h5 (attrs_end (by omega) _ _)
theorem end_fe {b : Bs} {L : Lm} {s s' : S} {c lt0 k : Nat} (hc : c ≤ b.length) (hk : k ≤ (b.take c).length) (h : endS (b.take c) L s lt0 k = .go s') : endS b L s lt0 k = .go s' := by
  have hl : (b.take c).length = c := by simp; omega
  unfold endS at h ⊢
  obtain ⟨nm, k1, h1, h2⟩ := q_go h
  have g1 := ((name_gd hk).use h1).2
  split at h2
  · cases h2
  rename_i q1
  obtain ⟨g, k2, h3, h4⟩ := q_go h2
  have g2 := (blanks_gd g1).use h3
  obtain ⟨u, k3, h5, h6⟩ := q_go h4
  cases u
  have hlt : k2 < c := by
    have := okl_lt (sign_inv h5).1
    omega
  rcases name_fi hc (by omega) nm k1 h1 with h7 | h7
  · rw [h7]
    show (if nm ≠ s.op.getLastD [] ∧ ¬ (k1 = b.length ∧ _) then Q.bad lt0 2 else _) = _
    rw [if_neg]
    · rcases blanks_fi hc (by omega) g k2 h3 with h8 | h8
      · rw [h8]
        show (signS b 62 k2).q _ = _
        rw [sign_fe h5]
        exact h6
      · omega
    · rintro ⟨x1, x2⟩
      apply q1
      refine ⟨x1, ?_⟩
      rintro ⟨x3, _⟩
      omega
  · omega
theorem put_alt {L : Lm} {s s' : S} {a : Int} {r : Int} {c k : Nat} (h : putQ L (beginS s a) r k = .go s') (hk : c ≤ k) : Alt c s s' := by
  unfold putQ at h
  obtain ⟨o, k1, h1, h2⟩ := q_go h
  obtain ⟨rfl, rfl, _⟩ := put_inv h1
  injection h2 with e
  subst e
  exact alt_t hk
theorem cont_fi {b : Bs} {L : Lm} {s s' : S} {c : Nat} (hc : c ≤ b.length) (hs : s.k ≤ (b.take c).length) (ht : s.tat ≤ (b.take c).length) (h : contS (b.take c) L s = .go s') : contS b L s = .go s' ∨ Alt c s s' := by
  have hl : (b.take c).length = c := by simp; omega
  have hbt := begin_tat hs ht
  unfold contS at h ⊢
  obtain ⟨r, k0, h1, h2⟩ := q_go h
  obtain ⟨ho, hr, _⟩ := peek_inv h1
  obtain ⟨o1, o2, o3⟩ := okl_take ho
  have hle := ln_le (b.take c) s.k hs
  have hlt := okl_lt ho
  subst hr
  rw [peekS, if_pos o1, o2]
  show (if lt (b.take c) s.k = 60 then _ else _) = _ ∨ _
  split at h2
  · rename_i q1
    rw [if_pos q1, o3]
    unfold markS at h2 ⊢
    obtain ⟨r, k0, h1, h2⟩ := q_go h2
    obtain ⟨ho, hr, _⟩ := peek_inv h1
    obtain ⟨o1, o2, o3⟩ := okl_take ho
    have hle2 := ln_le (b.take c) _ hle
    subst hr
    rw [peekS, if_pos o1, o2]
    show (if lt (b.take c) (s.k + ln (b.take c) s.k) = 63 then _ else _) = _ ∨ _
    generalize s.k + ln (b.take c) s.k = k at *
    split at h2
    · rename_i q2
      rw [if_pos q2]
      obtain ⟨u, k1, h3, h4⟩ := q_go h2
      rcases inst_fi hc hle u k1 h3 with h5 | h5
      · rw [h5]; exact .inl h4
      · injection h4 with e; subst e; exact .inr (alt_k h5)
    rename_i q2
    rw [if_neg q2]
    split at h2
    · rename_i q3
      rw [if_pos q3, o3]
      generalize k + ln (b.take c) k = k2 at *
      unfold bangS at h2 ⊢
      obtain ⟨r, k0, h1, h2⟩ := q_go h2
      obtain ⟨ho, hr, _⟩ := peek_inv h1
      obtain ⟨o1, o2, o3⟩ := okl_take ho
      subst hr
      rw [peekS, if_pos o1, o2]
      show (if lt (b.take c) k2 = 91 then _ else _) = _ ∨ _
      split at h2
      · rename_i q4
        rw [if_pos q4]
        unfold cdS at h2 ⊢
        obtain ⟨u, k1, h3, h4⟩ := q_go h2
        obtain ⟨o, k3, h5, h6⟩ := q_go h4
        have g1 := ((word_gd (by omega) hle2).use h3).2
        have g2 := (cd_gd hbt g1).use h5
        rcases word_fi (by omega) hle2 u k1 h3 with h7 | h7
        · rw [h7]
          show (cdL (b.length + 1) b L.T _ 0 _ k1).q _ = _ ∨ _
          rcases cd_fi hc hbt (m := b.length + 1) (by omega) g1 o k3 h5 with h8 | h8
          · rw [h8]; exact .inl h6
          · injection h6 with e; subst e; exact .inr (alt_t h8)
        · injection h6 with e; subst e; exact .inr (alt_t (by omega))
      · rename_i q4
        rw [if_neg q4]
        obtain ⟨u, k1, h3, h4⟩ := q_go h2
        rcases note_fi hc (by omega) hle2 u k1 h3 with h5 | h5
        · rw [h5]; exact .inl h4
        · injection h4 with e; subst e; exact .inr (alt_k h5)
    rename_i q3
    rw [if_neg q3]
    split at h2
    · rename_i q4
      rw [if_pos q4, o3]
      exact .inl (end_fe hc hle2 h2)
    · rename_i q4
      rw [if_neg q4]
      exact .inl (tag_fe hc hle h2)
  rename_i q1
  rw [if_neg q1]
  split at h2
  · rename_i q2
    rw [if_pos q2]
    obtain ⟨x, k1, h3, h4⟩ := q_go h2
    rcases ref_fi hc hs x k1 h3 with h5 | h5
    · rw [h5]; exact .inl h4
    · exact .inr (put_alt h4 h5)
  rename_i q2
  rw [if_neg q2]
  split at h2
  · cases h2
  rename_i q3
  rw [if_neg]
  · obtain ⟨x, k1, h3, h4⟩ := q_go h2
    rcases line_fi hc x k1 h3 with h5 | h5
    · rw [h5]; exact .inl h4
    · exact .inr (put_alt h4 h5)
  · rintro ⟨x1, x2, x3, x4⟩
    apply q3
    have e : ∀ i, i < c → (b.take c).getD i 0 = b.getD i 0 := by
      intro i hi
      rw [List.getD_eq_getElem?_getD, List.getD_eq_getElem?_getD, List.getElem?_take, if_pos hi]
    exact ⟨x1, x2, by rw [e _ (by omega)]; exact x3, by rw [e _ (by omega)]; exact x4⟩
theorem out_fi {b : Bs} {L : Lm} {s s' : S} {c : Nat} (hc : c ≤ b.length) (hs : s.k ≤ (b.take c).length) (h : outS (b.take c) L s = .go s') : outS b L s = .go s' ∨ Alt c s s' := by
  have hl : (b.take c).length = c := by simp; omega
  unfold outS at h ⊢
  obtain ⟨g, k1, h1, h2⟩ := q_go h
  have g1 := (blanks_gd hs).use h1
  split at h2
  · rename_i q1
    injection h2 with e
    subst e
    exact .inr ⟨rfl, rfl, rfl, by show c ≤ k1; omega⟩
  rename_i q1
  obtain ⟨u, k2, h3, h4⟩ := q_go h2
  cases u
  have hlt := okl_lt (sign_inv h3).1
  have g2 := (sign_gd g1.2).use h3
  rcases blanks_fi hc (by omega) g k1 h1 with h5 | h5
  · rw [h5]
    show (if k1 = b.length ∧ _ then _ else _) = _ ∨ _
    rw [if_neg (by rintro ⟨e, _⟩; omega), sign_fe h3]
    show (peekS b k2).q _ = _ ∨ _
    obtain ⟨r, k0, h6, h7⟩ := q_go h4
    obtain ⟨ho, hr, _⟩ := peek_inv h6
    obtain ⟨o1, o2, o3⟩ := okl_take ho
    subst hr
    rw [peekS, if_pos o1, o2]
    show (if lt (b.take c) k2 = 63 then _ else _) = _ ∨ _
    have hle2 := ln_le (b.take c) k2 g2.2
    split at h7
    · rename_i q2
      rw [if_pos q2]
      obtain ⟨u, k3, h3, h4⟩ := q_go h7
      rcases inst_fi hc g2.2 u k3 h3 with h5 | h5
      · rw [h5]; exact .inl h4
      · injection h4 with e; subst e; exact .inr (alt_k h5)
    rename_i q2
    rw [if_neg q2]
    split at h7
    · rename_i q3
      rw [if_pos q3, o3]
      obtain ⟨u, k3, h3, h4⟩ := q_go h7
      rcases note_fi hc (by omega) hle2 u k3 h3 with h5 | h5
      · rw [h5]; exact .inl h4
      · injection h4 with e; subst e; exact .inr (alt_k h5)
    rename_i q3
    rw [if_neg q3]
    split at h7
    · cases h7
    rename_i q4
    rw [if_neg q4]
    split at h7
    · cases h7
    rename_i q5
    rw [if_neg q5]
    exact .inl (tag_fe hc g2.2 h7)
  · omega
theorem read_fi {b : Bs} {L : Lm} {s s' : S} {c : Nat} (hc : c ≤ b.length) (hd : isDecl (b.take c) = isDecl b) (hj : J (b.take c) s) (h : readS (b.take c) L s = .go s') : readS b L s = .go s' ∨ Alt c s s' := by
  unfold readS at h ⊢
  split at h
  · rename_i q1
    rw [if_pos q1]
    exact cont_fi hc hj.k hj.ta h
  · rename_i q1
    rw [if_neg q1, ← hd]
    split at h
    · rename_i q2
      rw [if_pos q2]
      have h5 : 5 ≤ (b.take c).length := by
        have := q2.2
        unfold isDecl at this
        simp at this
        simp
        omega
      obtain ⟨u, k, h1, h2⟩ := q_go h
      have g := (decl_gd h5).use h1
      rcases decl_fi hc h5 u k h1 with h3 | h3
      · rw [h3]
        rcases out_fi (s := { s with k := k }) hc g.2 h2 with h4 | h4
        · exact .inl h4
        · exact .inr h4
      · right
        have hst := out_go (s := { s with k := k }) g.2 (List.eq_nil_of_length_eq_zero (by show s.op.length = 0; omega)) h2
        have hl : (b.take c).length = c := by simp; omega
        cases hst with
        | on k2 h1 h2 => exact alt_k (by have : k < k2 := h1; omega)
        | text k2 o h0 h1 h2 => exact absurd (List.eq_nil_of_length_eq_zero (by show s.op.length = 0; omega)) h0
        | over k2 h0 hn h1 h2 => exact ⟨rfl, rfl, rfl, by have : k ≤ k2 := h1; show c ≤ k2; omega⟩
        | start nm l lt0 k2 hD hN h0 h1 h2 h3 => exfalso; have : k ≤ lt0 := h1; omega
        | empty nm l lt0 k2 sl hD hN h0 h1 h2 h3 h4 h5 => exfalso; have : k ≤ lt0 := h1; omega
        | close lt0 k2 h0 h1 h2 h3 => exact absurd (List.eq_nil_of_length_eq_zero (by show s.op.length = 0; omega)) h0
    · rename_i q2
      rw [if_neg q2]
      exact out_fi hc hj.k h
theorem run_end {b : Bs} {L : Lm} {s : S} (hj : J b s) (hk : b.length ≤ s.k) (hr : s.ready = []) (n : Nat) : (runS n b L s).1 = [] ∧ ((runS n b L s).2.2 = 0 → s.op = [] ∧ 0 < s.nodes) := by
  cases n with
  | zero => rw [runS]; exact ⟨rfl, fun h => by cases h⟩
  | succ n =>
    rcases Bool.eq_false_or_eq_true s.over with ho | ho
    · rw [run_over ho]; exact ⟨rfl, fun _ => hj.ov ho⟩
    · cases hx : readS b L s with
      | bad p e => rw [run_bad ho hx]; exact ⟨rfl, fun h => absurd h (read_fb hj.k hj.ta hx).2⟩
      | go s1 =>
        have hst := read_go hj.k hj.ta hj.bg hx
        rw [run_go ho hx]
        cases hst with
        | on k2 h1 h2 => omega
        | text k2 o h0 h1 h2 => omega
        | over k2 h0 hn h1 h2 =>
          refine ⟨?_, fun _ => ⟨h0, hn⟩⟩
          show s.ready ++ _ = []
          rw [hr]
          cases n with
          | zero => rfl
          | succ n => rw [run_over rfl]; rfl
        | start nm l lt0 k2 hD hN h0 h1 h2 h3 => omega
        | empty nm l lt0 k2 sl hD hN h0 h1 h2 h3 h4 h5 => omega
        | close lt0 k2 h0 h1 h2 h3 => omega
theorem run_dead {b : Bs} {L : Lm} : ∀ (n : Nat) (s : S), J b s → s.op = [] → 0 < s.nodes → s.ready = [] → (runS n b L s).1 = []
  | 0, s, hj, h0, hn, hr => rfl
  | n + 1, s, hj, h0, hn, hr => by
    rcases Bool.eq_false_or_eq_true s.over with ho | ho
    · rw [run_over ho]
    · cases hx : readS b L s with
      | bad p e => rw [run_bad ho hx]
      | go s1 =>
        have hst := read_go hj.k hj.ta hj.bg hx
        have hj1 := (hj.step hst ho).clear []
        rw [run_go ho hx]
        clear hx
        cases hst with
        | on k2 h1 h2 =>
          show s.ready ++ _ = []
          rw [hr, List.nil_append]
          exact run_dead n _ hj1 h0 hn rfl
        | text k2 o q0 h1 h2 => exact absurd h0 q0
        | over k2 q0 hn h1 h2 =>
          show s.ready ++ _ = []
          rw [hr, List.nil_append]
          exact run_dead n _ hj1 h0 hn rfl
        | start nm l lt0 k2 hD hN q0 h1 h2 h3 => exact absurd hn (q0 h0)
        | empty nm l lt0 k2 sl hD hN q0 h1 h2 h3 h4 h5 => exact absurd hn (q0 h0)
        | close lt0 k2 q0 h1 h2 h3 => exact absurd h0 q0
theorem J.up {b : Bs} {c : Nat} {s : S} (h : J (b.take c) s) : J b s := ⟨by have := h.k; simp at this; omega, h.bg, h.t0, h.t1, h.nd, h.n0, h.ov⟩
theorem run_front {b : Bs} {L : Lm} {c : Nat} (hc : c ≤ b.length) (hd : isDecl (b.take c) = isDecl b) : ∀ (n m : Nat) (s : S), n ≤ m → J (b.take c) s → s.ready = [] →
    ∃ rest, (runS m b L s).1 = (runS n (b.take c) L s).1 ++ rest ∧ ((runS n (b.take c) L s).2.2 = 0 → rest = [])
  | 0, m, s, hm, hj, hr => ⟨_, rfl, fun h => by rw [runS] at h; cases h⟩
  | n + 1, 0, s, hm, hj, hr => by omega
  | n + 1, m + 1, s, hm, hj, hr => by
    rcases Bool.eq_false_or_eq_true s.over with ho | ho
    · rw [run_over ho, run_over ho]; exact ⟨[], rfl, fun _ => rfl⟩
    · cases hx : readS (b.take c) L s with
      | bad p e => rw [run_bad ho hx]; exact ⟨_, rfl, fun h => absurd h (read_fb hj.k hj.ta hx).2⟩
      | go s1 =>
        have hst := read_go hj.k hj.ta hj.bg hx
        have hj1 := (hj.step hst ho).clear []
        rcases read_fi hc hd hj hx with h | ⟨a1, a2, a3, a4⟩
        · rw [run_go ho hx, run_go ho h]
          obtain ⟨rest, e1, e2⟩ := run_front (L := L) hc hd n m { s1 with ready := [] } (by omega) hj1 rfl
          exact ⟨rest, by rw [e1, List.append_assoc], e2⟩
        · have hl : (b.take c).length = c := by simp; omega
          rw [run_go ho hx]
          obtain ⟨e1, e2⟩ := run_end (L := L) hj1 (by show (b.take c).length ≤ s1.k; omega) rfl n
          rw [e1, a1, hr]
          refine ⟨_, rfl, fun h => ?_⟩
          obtain ⟨e3, e4⟩ := e2 h
          exact run_dead (m + 1) s hj.up (by rw [← a2]; exact e3) (by rw [← a3]; exact e4) hr
theorem decl_take {b : Bs} {c : Nat} (h : 6 ≤ c) (hc : c ≤ b.length) : isDecl (b.take c) = isDecl b := by
  unfold isDecl
  have e1 : (b.take c).take 5 = b.take 5 := by rw [List.take_take]; congr 1; omega
  have e2 : (b.take c).getD 5 0 = b.getD 5 0 := by rw [List.getD_eq_getElem?_getD, List.getD_eq_getElem?_getD, List.getElem?_take, if_pos (by omega)]
  rw [e1, e2]
  congr 1
  simp
  omega
theorem all_front (b : Bs) (c : Nat) (hb : b.length ≤ 65536) (hc : c ≤ b.length) : (∃ rest, (allB b (limS 0 0 0 0)).1 = (allB (b.take c) (limS 0 0 0 0)).1 ++ rest ∧ ((allB (b.take c) (limS 0 0 0 0)).2.2 = 0 → rest = [])) ∧ (allB (b.take c) (limS 0 0 0 0)).2.1 ≤ c := by
  have hl : (b.take c).length = c := by simp; omega
  by_cases hd : isDecl (b.take c) = isDecl b
  · rw [allB_run hb (b.length + 2) (by omega), allB_run (b := b.take c) (by omega) (c + 2) (by omega)]
    refine ⟨run_front hc hd (c + 2) (b.length + 2) s0 (by omega) (J.s0 _) rfl, ?_⟩
    have := run_fb (L := limS 0 0 0 0) (c + 2) s0 (J.s0 (b.take c))
    rw [hl] at this
    exact this
  · have hc5 : c < 6 := by
      rcases Nat.lt_or_ge c 6 with h | h
      · exact h
      · exact absurd (decl_take h hc) hd
    have hb1 : isDecl b = true := by
      cases h : isDecl b
      · exfalso
        apply hd
        rw [h]
        unfold isDecl
        simp
        omega
      · rfl
    unfold isDecl at hb1
    simp at hb1
    have e : b.take c = [60, 63, 120, 109, 108].take c := by
      rw [← hb1.1, List.take_take]; congr 1; omega
    rw [e]
    have key : ∀ c, c < 6 → (allB (([60, 63, 120, 109, 108] : Bs).take c) (limS 0 0 0 0)).1 = [] ∧ (allB (([60, 63, 120, 109, 108] : Bs).take c) (limS 0 0 0 0)).2.2 ≠ 0 ∧ (allB (([60, 63, 120, 109, 108] : Bs).take c) (limS 0 0 0 0)).2.1 ≤ c := by
      decide +kernel
    obtain ⟨k1, k2, k3⟩ := key c hc5
    rw [k1]
    exact ⟨⟨_, rfl, fun h => absurd h k2⟩, k3⟩
end Go.Proofs.YtjcgnbmpnaapdaaDoor.M
namespace Go.Proofs.YtjcgnbmpnaapdaaDoor.M
open Go.Proofs.YtjcgnbmpnaapdaaDoor
set_option linter.unusedVariables false

/-- The parser goes from one state to another and tells these events. -/
def Run (b : Bs) (L : Lm) (s : S) (es : List Ev) (s' : S) : Prop := ∃ j, ∀ m, runS (m + j) b L s = (es ++ (runS m b L s').1, (runS m b L s').2)
/-- It tells these events and ends. -/
def End (b : Bs) (L : Lm) (s : S) (es : List Ev) (p e : Int) : Prop := ∃ j, ∀ m, runS (m + j) b L s = (es, p, e)
theorem Run.refl {b : Bs} {L : Lm} {s : S} : Run b L s [] s := ⟨0, fun m => rfl⟩
theorem Run.trans {b : Bs} {L : Lm} {s s' s2 : S} {es es' : List Ev} (h : Run b L s es s') (h' : Run b L s' es' s2) : Run b L s (es ++ es') s2 := by
  obtain ⟨j, h⟩ := h
  obtain ⟨j', h'⟩ := h'
  refine ⟨j' + j, fun m => ?_⟩
  rw [← Nat.add_assoc, h, h']
  simp
theorem Run.fin {b : Bs} {L : Lm} {s s' : S} {es es' : List Ev} {p e : Int} (h : Run b L s es s') (h' : End b L s' es' p e) : End b L s (es ++ es') p e := by
  obtain ⟨j, h⟩ := h
  obtain ⟨j', h'⟩ := h'
  refine ⟨j' + j, fun m => ?_⟩
  rw [← Nat.add_assoc, h, h']
theorem Run.step {b : Bs} {L : Lm} {s s' : S} (ho : s.over = false) (hx : readS b L s = .go s') : Run b L s s'.ready { s' with ready := [] } := ⟨1, fun m => run_go ho hx⟩
theorem End.bad {b : Bs} {L : Lm} {s : S} {p e : Int} (ho : s.over = false) (hx : readS b L s = .bad p e) : End b L s [] p e := ⟨1, fun m => run_bad ho hx⟩
theorem End.over {b : Bs} {L : Lm} {s : S} (ho : s.over = true) : End b L s [] 0 0 := ⟨1, fun m => run_over ho⟩
theorem End.all {b : Bs} {L : Lm} {es : List Ev} {p e : Int} (h : End b L s0 es p e) (hb : b.length ≤ 65536) : allB b L = (es, p, e) := by
  obtain ⟨j, h⟩ := h
  rw [allB_run hb (b.length + 2 + j) (by omega)]
  exact h _

/-! What stands at a place. -/
theorem d_tail {b t : Bs} {k : Nat} {c : Int} (h : b.drop k = c :: t) : b.drop (k + 1) = t := by
  have : b.drop (k + 1) = (b.drop k).drop 1 := by rw [List.drop_drop]
  rw [this, h]; rfl
theorem d_app {b l t : Bs} {k : Nat} (h : b.drop k = l ++ t) : b.drop (k + l.length) = t := by
  have : b.drop (k + l.length) = (b.drop k).drop l.length := by rw [List.drop_drop]
  rw [this, h]; simp
theorem d_len {b l : Bs} {k : Nat} (h : b.drop k = l) (hl : 0 < l.length) : b.length = k + l.length := by
  have : (b.drop k).length = l.length := by rw [h]
  rw [List.length_drop] at this
  omega
theorem d_sub {b l t : Bs} {k : Nat} (h : b.drop k = l ++ t) : sub b k (k + l.length) = l := by
  unfold sub
  rw [h, Nat.add_sub_cancel_left]
  simp
theorem dec_ascii {c : Int} {t : Bs} (h : c < 128) : dec (c :: t) = (c, 1) := by
  unfold dec
  rw [if_neg (by simp), if_pos (by simpa using h)]
  rfl
/-- A letter of one byte stands at a place. -/
structure Lk (b : Bs) (k : Nat) (c : Int) (t : Bs) : Prop where
  d : b.drop k = c :: t
  ch : isChar c = true
  lo : c < 128
section
variable {b t : Bs} {k : Nat} {c : Int}
theorem Lk.mk' (d : b.drop k = c :: t) (h : isChar c = true ∧ c < 128) : Lk b k c t := ⟨d, h.1, h.2⟩
theorem Lk.lt (h : Lk b k c t) : lt b k = c := by unfold YtjcgnbmpnaapdaaDoor.lt; rw [h.d, dec_ascii h.lo]
theorem Lk.ln (h : Lk b k c t) : ln b k = 1 := by unfold YtjcgnbmpnaapdaaDoor.ln; rw [h.d, dec_ascii h.lo]; rfl
theorem Lk.ok (h : Lk b k c t) : okl b k = true := by unfold okl; rw [h.lt]; exact h.ch
theorem Lk.tl (h : Lk b k c t) : b.drop (k + 1) = t := d_tail h.d
theorem Lk.le (h : Lk b k c t) : k < b.length := by have := d_len h.d (by simp); simp at this; omega
theorem Lk.peek (h : Lk b k c t) : peekS b k = .ok c k := by unfold peekS; rw [if_pos h.ok, h.lt]
theorem Lk.take (h : Lk b k c t) : takeS b k = .ok c (k + 1) := by unfold takeS; rw [if_pos h.ok, h.lt, h.ln]
theorem Lk.sign (h : Lk b k c t) : signS b c k = .ok () (k + 1) := by unfold signS; rw [if_pos ⟨h.ok, h.lt⟩, h.ln]
theorem Lk.quote (h : Lk b k c t) (hc : c = 34) : quoteS b k = .ok 34 (k + 1) := by unfold quoteS; rw [if_pos ⟨h.ok, .inl (h.lt.trans hc)⟩, h.lt, h.ln, hc]
theorem Lk.blk0 (h : Lk b k c t) (hw : isWhite c = false) (n : Nat) : blkS n b k = .ok () k := by
  have := h.le
  cases n with
  | zero => rfl
  | succ n => rw [blkS, if_neg (by omega), if_pos h.ok, h.lt, hw]; rfl
theorem Lk.blanks0 (h : Lk b k c t) (hw : isWhite c = false) : blanksS b k = .ok false k := by
  unfold blanksS
  rw [h.blk0 hw, R.bind]
  simp
theorem Lk.blanks1 {d : Int} {u : Bs} (h : Lk b k 32 t) (h2 : Lk b (k + 1) d u) (hw : isWhite d = false) : blanksS b k = .ok true (k + 1) := by
  unfold blanksS
  have hl := h.le
  obtain ⟨n, hn⟩ : ∃ n, b.length - k = n + 1 := ⟨b.length - k - 1, by omega⟩
  rw [hn, blkS, if_neg (by omega), if_pos h.ok, h.lt, if_pos (by decide), h.ln, h2.blk0 hw, R.bind]
  simp
theorem Lk.line (h : Lk b k c t) (hc : c ≠ 13) : lineS b k = .ok c (k + 1) := by
  unfold lineS
  rw [h.take, R.bind]
  simp [hc]
end
theorem word_d {b : Bs} {blame : Int} : ∀ {w t : Bs} {k : Nat}, b.drop k = w ++ t → (∀ c ∈ w, isChar c = true ∧ c < 128) → wordS b blame w k = .ok () (k + w.length)
  | [], t, k, h, hw => rfl
  | c :: w, t, k, h, hw => by
    have l : Lk b k c (w ++ t) := .mk' h (hw c (by simp))
    rw [wordS, l.take, R.bind]
    simp only [if_true]
    rw [word_d l.tl (fun x hx => hw x (by simp [hx]))]
    simp
    omega
theorem nm_d {b : Bs} {T : Int} {k : Nat} : ∀ {w : Bs} {n j : Nat} {c : Int} {t : Bs}, b.drop j = w ++ c :: t → (∀ x ∈ w, isPart x = true ∧ isChar x = true ∧ x < 128) → isChar c = true ∧ c < 128 → isPart c = false → w.length ≤ n → ((j + w.length : Nat) : Int) - k ≤ T → nmS n b T k j = .ok () (j + w.length)
  | [], 0, j, c, t, h, hw, hc, hp, hn, hT => rfl
  | [], n + 1, j, c, t, h, hw, hc, hp, hn, hT => by
    have l : Lk b j c t := .mk' h hc
    have := l.le
    rw [nmS, if_neg (by omega), if_pos l.ok, l.lt, hp]
    rfl
  | x :: w, 0, j, c, t, h, hw, hc, hp, hn, hT => by simp at hn
  | x :: w, n + 1, j, c, t, h, hw, hc, hp, hn, hT => by
    have hx := hw x (by simp)
    have l : Lk b j x (w ++ c :: t) := .mk' h hx.2
    have := l.le
    simp only [List.length_cons] at hT hn
    rw [nmS, if_neg (by omega), if_pos l.ok, l.lt, if_pos hx.1, l.ln, if_neg (by omega)]
    rw [nm_d l.tl (fun y hy => hw y (by simp [hy])) hc hp (by omega) (by omega)]
    simp
    omega
theorem name_d {b : Bs} {T : Int} {w : Bs} {k : Nat} {c : Int} {t : Bs} (h : b.drop k = w ++ c :: t) (h0 : w ≠ []) (hs : isStart (w.headD 0) = true) (hw : ∀ x ∈ w, isPart x = true ∧ isChar x = true ∧ x < 128) (hc : isChar c = true ∧ c < 128) (hp : isPart c = false) (hT : (w.length : Int) ≤ T) : nameS b T k = .ok w (k + w.length) := by
  unfold nameS
  obtain ⟨x, u, rfl⟩ := List.exists_cons_of_ne_nil h0
  have hx := hw x (by simp)
  have l : Lk b k x (u ++ c :: t) := .mk' h hx.2
  have hl := d_len h (by simp)
  rw [List.length_append] at hl
  rw [if_pos ⟨l.ok, by rw [l.lt]; exact hs⟩, nm_d (w := x :: u) h hw hc hp (by omega) (by omega), R.bind, d_sub h]
theorem wid_rg (r : Int) : (wid r = 0 → r < 0 ∨ 1114111 < r ∨ (55296 ≤ r ∧ r ≤ 57343)) ∧ (wid r = 1 → 0 ≤ r ∧ r < 128) ∧ (wid r = 2 → 128 ≤ r ∧ r < 2048) ∧
    (wid r = 3 → 2048 ≤ r ∧ r < 65536 ∧ ¬ (55296 ≤ r ∧ r ≤ 57343)) ∧ (wid r = 4 → 65536 ≤ r ∧ r ≤ 1114111) := by
  unfold wid
  repeat' split
  all_goals omega
theorem enc1 {r : Int} (h : wid r = 1) : enc r = [r] := by unfold enc; rw [h]; rfl
theorem enc2 {r : Int} (h : wid r = 2) : enc r = [192 + r / 64, 128 + r % 64] := by unfold enc; rw [h]; rfl
theorem enc3 {r : Int} (h : wid r = 3) : enc r = [224 + r / 4096, 128 + r / 64 % 64, 128 + r % 64] := by unfold enc; rw [h]; rfl
theorem enc4 {r : Int} (h : wid r = 4) : enc r = [240 + r / 262144, 128 + r / 4096 % 64, 128 + r / 64 % 64, 128 + r % 64] := by unfold enc; rw [h]; rfl
theorem isTl_128 (x : Int) (h0 : 0 ≤ x) (h1 : x < 64) : isTl (128 + x) = true := by
  unfold isTl; rw [decide_eq_true]; omega
theorem dec_enc (r : Int) (t : List Int) (hw : ¬ wid r = 0) : dec (enc r ++ t) = (r, wid r) := by
  have hr := wid_rg r
  rcases wid_cases r with h | h | h | h | h
  · exact absurd h hw
  · rw [enc1 h, h]
    have := hr.2.1 h
    unfold dec
    rw [if_neg (by simp), if_pos (by simp; omega)]
    rfl
  · rw [enc2 h, h]
    have := hr.2.2.1 h
    unfold dec
    have g0 : ([192 + r / 64, 128 + r % 64] ++ t).getD 0 0 = 192 + r / 64 := rfl
    have g1 : ([192 + r / 64, 128 + r % 64] ++ t).getD 1 0 = 128 + r % 64 := rfl
    rw [g0, g1, if_neg (by simp), if_neg (by omega), if_neg (by omega), if_pos (by omega), if_pos (by simp)]
    unfold dec2
    rw [if_pos (isTl_128 _ (by omega) (by omega))]
    have e : (192 + r / 64) % 32 * 64 + (128 + r % 64) % 64 = r := by omega
    rw [e]
    unfold fin
    rw [if_pos h]
  · rw [enc3 h, h]
    have := hr.2.2.2.1 h
    unfold dec
    have g0 : ([224 + r / 4096, 128 + r / 64 % 64, 128 + r % 64] ++ t).getD 0 0 = 224 + r / 4096 := rfl
    have g1 : ([224 + r / 4096, 128 + r / 64 % 64, 128 + r % 64] ++ t).getD 1 0 = 128 + r / 64 % 64 := rfl
    have g2 : ([224 + r / 4096, 128 + r / 64 % 64, 128 + r % 64] ++ t).getD 2 0 = 128 + r % 64 := rfl
    rw [g0, g1, g2, if_neg (by simp), if_neg (by omega), if_neg (by omega), if_neg (by omega), if_pos (by omega), if_pos (by simp)]
    unfold dec3
    rw [if_pos ⟨isTl_128 _ (by omega) (by omega), isTl_128 _ (by omega) (by omega)⟩]
    have e : ((224 + r / 4096) % 16 * 64 + (128 + r / 64 % 64) % 64) * 64 + (128 + r % 64) % 64 = r := by omega
    rw [e]
    unfold fin
    rw [if_pos h]
  · rw [enc4 h, h]
    have := hr.2.2.2.2 h
    unfold dec
    have g0 : ([240 + r / 262144, 128 + r / 4096 % 64, 128 + r / 64 % 64, 128 + r % 64] ++ t).getD 0 0 = 240 + r / 262144 := rfl
    have g1 : ([240 + r / 262144, 128 + r / 4096 % 64, 128 + r / 64 % 64, 128 + r % 64] ++ t).getD 1 0 = 128 + r / 4096 % 64 := rfl
    have g2 : ([240 + r / 262144, 128 + r / 4096 % 64, 128 + r / 64 % 64, 128 + r % 64] ++ t).getD 2 0 = 128 + r / 64 % 64 := rfl
    have g3 : ([240 + r / 262144, 128 + r / 4096 % 64, 128 + r / 64 % 64, 128 + r % 64] ++ t).getD 3 0 = 128 + r % 64 := rfl
    rw [g0, g1, g2, g3, if_neg (by simp), if_neg (by omega), if_neg (by omega), if_neg (by omega), if_neg (by omega), if_pos (by omega), if_pos (by simp)]
    unfold dec4
    rw [if_pos ⟨isTl_128 _ (by omega) (by omega), isTl_128 _ (by omega) (by omega), isTl_128 _ (by omega) (by omega)⟩]
    have e : (((240 + r / 262144) % 8 * 64 + (128 + r / 4096 % 64) % 64) * 64 + (128 + r / 64 % 64) % 64) * 64 + (128 + r % 64) % 64 = r := by omega
    rw [e]
    unfold fin
    rw [if_pos h]
theorem enc_lenw {r : Int} (h : wid r ≠ 0) : ((enc r).length : Int) = wid r := by
  rcases wid_cases r with g | g | g | g | g
  · exact absurd g h
  · rw [enc1 g, g]; rfl
  · rw [enc2 g, g]; rfl
  · rw [enc3 g, g]; rfl
  · rw [enc4 g, g]; rfl
theorem char_w {r : Int} (h : isChar r = true) : wid r ≠ 0 := by
  intro h0
  have := (wid_rg r).1 h0
  unfold isChar at h
  simp at h
  omega
/-- A letter is one byte below 128, or its bytes are all above. -/
theorem enc_hi {r : Int} (h : isChar r = true) : (enc r = [r] ∧ 0 ≤ r ∧ r < 128) ∨ (128 ≤ r ∧ enc r ≠ [] ∧ ∀ c ∈ enc r, 128 ≤ c) := by
  have hr := wid_rg r
  have h0 := char_w h
  rcases wid_cases r with g | g | g | g | g
  · exact absurd g h0
  · exact .inl ⟨enc1 g, hr.2.1 g⟩
  · have := hr.2.2.1 g
    refine .inr ⟨by omega, by rw [enc2 g]; simp, fun c hc => ?_⟩
    rw [enc2 g] at hc
    simp at hc
    omega
  · have := hr.2.2.2.1 g
    refine .inr ⟨by omega, by rw [enc3 g]; simp, fun c hc => ?_⟩
    rw [enc3 g] at hc
    simp at hc
    omega
  · have := hr.2.2.2.2 g
    refine .inr ⟨by omega, by rw [enc4 g]; simp, fun c hc => ?_⟩
    rw [enc4 g] at hc
    simp at hc
    omega
/-- A letter stands at a place. -/
structure Lt (b : Bs) (k : Nat) (r : Int) (t : Bs) : Prop where
  d : b.drop k = enc r ++ t
  ch : isChar r = true
section
variable {b t : Bs} {k : Nat} {r : Int}
theorem Lt.lt (h : Lt b k r t) : lt b k = r := by unfold YtjcgnbmpnaapdaaDoor.lt; rw [h.d, dec_enc r t (char_w h.ch)]
theorem Lt.ln (h : Lt b k r t) : ln b k = (enc r).length := by
  unfold YtjcgnbmpnaapdaaDoor.ln; rw [h.d, dec_enc r t (char_w h.ch)]
  have := enc_lenw (char_w h.ch)
  show (wid r).toNat = _
  omega
theorem Lt.ok (h : Lt b k r t) : okl b k = true := by unfold okl; rw [h.lt]; exact h.ch
theorem Lt.peek (h : Lt b k r t) : peekS b k = .ok r k := by unfold peekS; rw [if_pos h.ok, h.lt]
theorem Lt.take (h : Lt b k r t) : takeS b k = .ok r (k + (enc r).length) := by unfold takeS; rw [if_pos h.ok, h.lt, h.ln]
theorem Lt.line (h : Lt b k r t) (hc : r ≠ 13) : lineS b k = .ok r (k + (enc r).length) := by
  unfold lineS
  rw [h.take, R.bind]
  simp [hc]
end
/-! References. -/
theorem ref_amp {b t : Bs} {k : Nat} (h : b.drop k = 38 :: 97 :: 109 :: 112 :: 59 :: t) : refS b k = .ok 38 (k + 5) := by
  have l1 : Lk b k 38 _ := .mk' h (by decide)
  have l2 : Lk b (k + 1) 97 _ := .mk' l1.tl (by decide)
  have l3 : Lk b (k + 1 + 1) 109 _ := .mk' l2.tl (by decide)
  unfold refS
  simp only [l1.take, l2.take, R.bind]
  rw [if_neg (by decide), if_neg (by decide), if_neg (by decide), if_neg (by decide), if_pos (by decide)]
  unfold ampS
  simp only [l3.peek, R.bind]
  rw [if_pos (by decide), word_d (w := [109, 112, 59]) l3.d (by decide)]
  rfl
theorem ref_lt {b t : Bs} {k : Nat} (h : b.drop k = 38 :: 108 :: 116 :: 59 :: t) : refS b k = .ok 60 (k + 4) := by
  have l1 : Lk b k 38 _ := .mk' h (by decide)
  have l2 : Lk b (k + 1) 108 _ := .mk' l1.tl (by decide)
  unfold refS
  simp only [l1.take, l2.take, R.bind]
  rw [if_neg (by decide), if_pos (by decide), word_d (w := [116, 59]) l2.tl (by decide)]
  rfl
theorem ref_gt {b t : Bs} {k : Nat} (h : b.drop k = 38 :: 103 :: 116 :: 59 :: t) : refS b k = .ok 62 (k + 4) := by
  have l1 : Lk b k 38 _ := .mk' h (by decide)
  have l2 : Lk b (k + 1) 103 _ := .mk' l1.tl (by decide)
  unfold refS
  simp only [l1.take, l2.take, R.bind]
  rw [if_neg (by decide), if_neg (by decide), if_pos (by decide), word_d (w := [116, 59]) l2.tl (by decide)]
  rfl
theorem ref_quot {b t : Bs} {k : Nat} (h : b.drop k = 38 :: 113 :: 117 :: 111 :: 116 :: 59 :: t) : refS b k = .ok 34 (k + 6) := by
  have l1 : Lk b k 38 _ := .mk' h (by decide)
  have l2 : Lk b (k + 1) 113 _ := .mk' l1.tl (by decide)
  unfold refS
  simp only [l1.take, l2.take, R.bind]
  rw [if_neg (by decide), if_neg (by decide), if_neg (by decide), if_pos (by decide), word_d (w := [117, 111, 116, 59]) l2.tl (by decide)]
  rfl
theorem ref_num {b t : Bs} {k : Nat} {g v : Int} (h : b.drop k = 38 :: 35 :: 120 :: g :: 59 :: t) (hg : isChar g = true ∧ g < 128) (hv : digV 16 g = some v) (hc : isChar v = true) : refS b k = .ok v (k + 5) := by
  have l1 : Lk b k 38 _ := .mk' h (by decide)
  have l2 : Lk b (k + 1) 35 _ := .mk' l1.tl (by decide)
  have l3 : Lk b (k + 1 + 1) 120 _ := .mk' l2.tl (by decide)
  have l4 : Lk b (k + 1 + 1 + 1) g _ := .mk' l3.tl hg
  have l5 : Lk b (k + 1 + 1 + 1 + 1) 59 _ := .mk' l4.tl (by decide)
  unfold refS
  simp only [l1.take, l2.take, R.bind]
  rw [if_pos (by decide)]
  unfold numberS
  simp only [l3.peek, R.bind]
  rw [if_pos (by decide), l3.ln]
  unfold numB digitS
  simp only [l4.take, R.bind, hv]
  rw [numL, l5.peek]
  simp only [R.bind]
  rw [if_pos (by decide)]
  simp only [l5.take]
  rw [if_pos hc]
end Go.Proofs.YtjcgnbmpnaapdaaDoor.M
namespace Go.Proofs.YtjcgnbmpnaapdaaDoor.M
open Go.Proofs.YtjcgnbmpnaapdaaDoor
set_option linter.unusedVariables false

/-- A text of right letters. -/
inductive Rt : Bs → Prop
  | nil : Rt []
  | cons (r : Int) (t : Bs) : isChar r = true → Rt t → Rt (enc r ++ t)
theorem esc_app (a : Bool) : ∀ (u v : Bs), escS a (u ++ v) = escS a u ++ escS a v
  | [], v => rfl
  | c :: u, v => by rw [List.cons_append, escS, escS, esc_app a u v, List.append_assoc]
theorem esc_hi (a : Bool) : ∀ (u : Bs), (∀ c ∈ u, 128 ≤ c) → escS a u = u
  | [], h => rfl
  | c :: u, h => by
    have := h c (by simp)
    rw [escS, esc_hi a u (fun x hx => h x (by simp [hx]))]
    rw [if_neg (by omega), if_neg (by omega), if_neg (by omega), if_neg (by omega), if_neg (by omega), if_neg (by omega), if_neg (by omega)]
    rfl
theorem esc_len (a : Bool) : ∀ u : Bs, u.length ≤ (escS a u).length
  | [] => Nat.le_refl _
  | c :: u => by
    have := esc_len a u
    unfold escS
    repeat' split
    all_goals
      simp
      try omega
/-- What a letter becomes, by cases. -/
theorem esc_one (a : Bool) {r : Int} (h : isChar r = true) :
    (r = 38 ∧ escS a (enc r) = [38, 97, 109, 112, 59]) ∨ (r = 60 ∧ escS a (enc r) = [38, 108, 116, 59]) ∨ (r = 62 ∧ escS a (enc r) = [38, 103, 116, 59]) ∨ (r = 13 ∧ escS a (enc r) = [38, 35, 120, 68, 59]) ∨
    (a = true ∧ r = 34 ∧ escS a (enc r) = [38, 113, 117, 111, 116, 59]) ∨ (a = true ∧ r = 9 ∧ escS a (enc r) = [38, 35, 120, 57, 59]) ∨ (a = true ∧ r = 10 ∧ escS a (enc r) = [38, 35, 120, 65, 59]) ∨
    (r ≠ 38 ∧ r ≠ 60 ∧ r ≠ 62 ∧ r ≠ 13 ∧ (a = true → r ≠ 34 ∧ r ≠ 9 ∧ r ≠ 10) ∧ escS a (enc r) = enc r) := by
  rcases enc_hi h with ⟨e, h0, h1⟩ | ⟨h1, hn, hh⟩
  · rw [e]
    by_cases c1 : r = 38
    · subst c1; exact .inl ⟨rfl, by cases a <;> rfl⟩
    by_cases c2 : r = 60
    · subst c2; exact .inr (.inl ⟨rfl, by cases a <;> rfl⟩)
    by_cases c3 : r = 62
    · subst c3; exact .inr (.inr (.inl ⟨rfl, by cases a <;> rfl⟩))
    by_cases c4 : r = 13
    · subst c4; exact .inr (.inr (.inr (.inl ⟨rfl, by cases a <;> rfl⟩)))
    by_cases c5 : a = true ∧ r = 34
    · obtain ⟨rfl, rfl⟩ := c5; exact .inr (.inr (.inr (.inr (.inl ⟨rfl, rfl, rfl⟩))))
    by_cases c6 : a = true ∧ r = 9
    · obtain ⟨rfl, rfl⟩ := c6; exact .inr (.inr (.inr (.inr (.inr (.inl ⟨rfl, rfl, rfl⟩)))))
    by_cases c7 : a = true ∧ r = 10
    · obtain ⟨rfl, rfl⟩ := c7; exact .inr (.inr (.inr (.inr (.inr (.inr (.inl ⟨rfl, rfl, rfl⟩))))))
    · refine .inr (.inr (.inr (.inr (.inr (.inr (.inr ⟨c1, c2, c3, c4, fun ha => ⟨fun q => c5 ⟨ha, q⟩, fun q => c6 ⟨ha, q⟩, fun q => c7 ⟨ha, q⟩⟩, ?_⟩))))))
      rw [escS, escS, if_neg c1, if_neg c2, if_neg c3, if_neg c4, if_neg c5, if_neg c6, if_neg c7]
      rfl
  · exact .inr (.inr (.inr (.inr (.inr (.inr (.inr ⟨by omega, by omega, by omega, by omega, fun _ => ⟨by omega, by omega, by omega⟩, esc_hi a _ hh⟩))))))
theorem put_ok {T at0 : Int} {out : Bs} {r : Int} {k : Nat} (h : ((out.length + (enc r).length : Nat) : Int) ≤ T) : putS T at0 out r k = .ok (out ++ enc r) k := by
  unfold putS
  rw [List.length_append, if_neg (by omega)]
/-- A letter of a value. -/
theorem val_step {b rest : Bs} {T at0 : Int} {f : Nat} {out : Bs} {r : Int} {k : Nat} (hr : isChar r = true) (h : b.drop k = escS true (enc r) ++ rest) (hT : ((out.length + (enc r).length : Nat) : Int) ≤ T) :
    valL (f + 1) b T at0 34 out k = valL f b T at0 34 (out ++ enc r) (k + (escS true (enc r)).length) := by
  rw [valL]
  rcases esc_one true hr with ⟨c, e⟩ | ⟨c, e⟩ | ⟨c, e⟩ | ⟨c, e⟩ | ⟨_, c, e⟩ | ⟨_, c, e⟩ | ⟨_, c, e⟩ | ⟨c1, c2, c3, c4, c5, e⟩
  · rw [e] at h ⊢
    have l : Lk b k 38 _ := .mk' h (by decide)
    subst c
    rw [l.peek, ref_amp h]
    simp only [R.bind]
    rw [if_neg (by decide), if_neg (by decide), if_pos (by decide), put_ok hT]
    rfl
  · rw [e] at h ⊢
    have l : Lk b k 38 _ := .mk' h (by decide)
    subst c
    rw [l.peek, ref_lt h]
    simp only [R.bind]
    rw [if_neg (by decide), if_neg (by decide), if_pos (by decide), put_ok hT]
    rfl
  · rw [e] at h ⊢
    have l : Lk b k 38 _ := .mk' h (by decide)
    subst c
    rw [l.peek, ref_gt h]
    simp only [R.bind]
    rw [if_neg (by decide), if_neg (by decide), if_pos (by decide), put_ok hT]
    rfl
  · rw [e] at h ⊢
    have l : Lk b k 38 _ := .mk' h (by decide)
    subst c
    rw [l.peek, ref_num h (by decide) (by decide) hr]
    simp only [R.bind]
    rw [if_neg (by decide), if_neg (by decide), if_pos (by decide), put_ok hT]
    rfl
  · rw [e] at h ⊢
    have l : Lk b k 38 _ := .mk' h (by decide)
    subst c
    rw [l.peek, ref_quot h]
    simp only [R.bind]
    rw [if_neg (by decide), if_neg (by decide), if_pos (by decide), put_ok hT]
    rfl
  · rw [e] at h ⊢
    have l : Lk b k 38 _ := .mk' h (by decide)
    subst c
    rw [l.peek, ref_num h (by decide) (by decide) hr]
    simp only [R.bind]
    rw [if_neg (by decide), if_neg (by decide), if_pos (by decide), put_ok hT]
    rfl
  · rw [e] at h ⊢
    have l : Lk b k 38 _ := .mk' h (by decide)
    subst c
    rw [l.peek, ref_num h (by decide) (by decide) hr]
    simp only [R.bind]
    rw [if_neg (by decide), if_neg (by decide), if_pos (by decide), put_ok hT]
    rfl
  · rw [e] at h ⊢
    have c6 := c5 rfl
    have l : Lt b k r _ := ⟨h, hr⟩
    rw [l.peek]
    simp only [R.bind]
    rw [if_neg c6.1, if_neg c2, if_neg c1]
    by_cases hw : isWhite r = true
    · have hr32 : r = 32 := by
        unfold isWhite at hw
        simp at hw
        omega
      subst hr32
      rw [if_pos hw, l.line (by decide)]
      simp only
      rw [put_ok hT]
    · rw [if_neg hw, l.take]
      simp only
      rw [put_ok hT]
theorem val_run {b : Bs} {T at0 : Int} {u : Bs} (hu : Rt u) : ∀ {rest out : Bs} {k : Nat}, b.drop k = escS true u ++ rest → ((out.length + u.length : Nat) : Int) ≤ T →
    ∃ j, j ≤ u.length ∧ ∀ f, valL (f + j) b T at0 34 out k = valL f b T at0 34 (out ++ u) (k + (escS true u).length) := by
  induction hu with
  | nil => intro rest out k h hT; exact ⟨0, Nat.le_refl _, fun f => by simp [escS]⟩
  | cons r t hr ht ih =>
    intro rest out k h hT
    rw [esc_app, List.append_assoc] at h
    rw [List.length_append] at hT
    obtain ⟨j, hj, hf⟩ := ih (out := out ++ enc r) (d_app h) (by rw [List.length_append]; omega)
    have hl : 0 < (enc r).length := by
      rcases enc_hi hr with ⟨e, _⟩ | ⟨_, hn, _⟩
      · rw [e]; simp
      · exact List.length_pos_iff.2 hn
    refine ⟨j + 1, by rw [List.length_append]; omega, fun f => ?_⟩
    rw [← Nat.add_assoc, val_step hr h (by omega), hf, esc_app, List.length_append, List.append_assoc, Nat.add_assoc]
theorem val_d {b rest : Bs} {T : Int} {u : Bs} {k : Nat} (hu : Rt u) (h : b.drop k = 34 :: (escS true u ++ 34 :: rest)) (hT : (u.length : Int) ≤ T) : valueS b T k = .ok u (k + (escS true u).length + 2) := by
  have l : Lk b k 34 _ := .mk' h (by decide)
  unfold valueS
  rw [l.quote rfl]
  simp only [R.bind]
  obtain ⟨j, hj, hf⟩ := val_run (T := T) (at0 := k) (out := []) hu l.tl (by simpa using hT)
  have hlen := d_len h (by simp)
  have hle := esc_len true u
  rw [List.length_cons, List.length_append, List.length_cons] at hlen
  obtain ⟨f, hf2⟩ : ∃ f, b.length + 1 = (f + 1) + j := ⟨b.length - j, by omega⟩
  rw [hf2, hf, valL]
  have l2 : Lk b (k + 1 + (escS true u).length) 34 rest := .mk' (d_app l.tl) (by decide)
  rw [l2.peek]
  simp only [R.bind]
  rw [if_pos (by decide), l2.ln]
  simp
  omega
/-! A text. -/
/-- A letter of a text. -/
theorem cont_step {b rest : Bs} {L : Lm} {s : S} {r : Int} (ho : 0 < s.op.length) (hr : isChar r = true) (h : b.drop s.k = escS false (enc r) ++ rest) (hT : (((beginS s s.k).tout.length + (enc r).length : Nat) : Int) ≤ L.T) :
    readS b L s = .go { beginS s s.k with tout := (beginS s s.k).tout ++ enc r, k := s.k + (escS false (enc r)).length } := by
  unfold readS
  rw [if_pos ho]
  unfold contS
  rcases esc_one false hr with ⟨c, e⟩ | ⟨c, e⟩ | ⟨c, e⟩ | ⟨c, e⟩ | ⟨c, _⟩ | ⟨c, _⟩ | ⟨c, _⟩ | ⟨c1, c2, c3, c4, c5, e⟩
  · rw [e] at h ⊢
    have l : Lk b s.k 38 _ := .mk' h (by decide)
    subst c
    rw [l.peek, ref_amp h]
    simp only [R.q]
    rw [if_neg (by decide), if_pos (by decide)]
    unfold putQ
    rw [put_ok hT]
    rfl
  · rw [e] at h ⊢
    have l : Lk b s.k 38 _ := .mk' h (by decide)
    subst c
    rw [l.peek, ref_lt h]
    simp only [R.q]
    rw [if_neg (by decide), if_pos (by decide)]
    unfold putQ
    rw [put_ok hT]
    rfl
  · rw [e] at h ⊢
    have l : Lk b s.k 38 _ := .mk' h (by decide)
    subst c
    rw [l.peek, ref_gt h]
    simp only [R.q]
    rw [if_neg (by decide), if_pos (by decide)]
    unfold putQ
    rw [put_ok hT]
    rfl
  · rw [e] at h ⊢
    have l : Lk b s.k 38 _ := .mk' h (by decide)
    subst c
    rw [l.peek, ref_num h (by decide) (by decide) hr]
    simp only [R.q]
    rw [if_neg (by decide), if_pos (by decide)]
    unfold putQ
    rw [put_ok hT]
    rfl
  · cases c
  · cases c
  · cases c
  · rw [e] at h ⊢
    have l : Lt b s.k r _ := ⟨h, hr⟩
    rw [l.peek, l.line c4]
    simp only [R.q]
    rw [if_neg c2, if_neg c1, if_neg (fun q => c3 q.1)]
    unfold putQ
    rw [put_ok hT]
    rfl
theorem text_more {b : Bs} {L : Lm} {x : Bs} (hx : Rt x) : ∀ {rest : Bs} {s : S}, 0 < s.op.length → s.over = false → s.ready = [] → s.begun = true → b.drop s.k = escS false x ++ rest → ((s.tout.length + x.length : Nat) : Int) ≤ L.T →
    Run b L s [] { s with tout := s.tout ++ x, k := s.k + (escS false x).length } := by
  induction hx with
  | nil =>
    intro rest s ho hv hr hb h hT
    have : ({ s with tout := s.tout ++ [], k := s.k + (escS false []).length } : S) = s := by simp [escS]
    rw [this]
    exact .refl
  | cons r t hr ht ih =>
    intro rest s ho hv hrd hb h hT
    rw [esc_app, List.append_assoc] at h
    rw [List.length_append] at hT
    have hbg : beginS s s.k = s := by unfold beginS; rw [if_pos hb]
    have st := cont_step (L := L) ho hr h (by rw [hbg]; omega)
    rw [hbg] at st
    have h1 := Run.step hv st
    have h2 := ih (s := { s with tout := s.tout ++ enc r, k := s.k + (escS false (enc r)).length }) ho hv hrd hb (d_app h) (by show (((s.tout ++ enc r).length + t.length : Nat) : Int) ≤ L.T; rw [List.length_append]; omega)
    have e1 : ({ ({ s with tout := s.tout ++ enc r, k := s.k + (escS false (enc r)).length } : S) with ready := [] } : S) = { s with tout := s.tout ++ enc r, k := s.k + (escS false (enc r)).length } := by rw [hrd]
    rw [e1] at h1
    have h3 := h1.trans h2
    rw [show ({ s with tout := s.tout ++ enc r, k := s.k + (escS false (enc r)).length } : S).ready = [] from hrd] at h3
    rw [esc_app, List.length_append, ← List.append_assoc, ← Nat.add_assoc, hrd]
    exact h3
theorem text_d {b : Bs} {L : Lm} {x : Bs} (hx : Rt x) (h0 : x ≠ []) {rest : Bs} {k : Nat} {op : List Bs} {nodes : Int} (ho : op ≠ []) (h : b.drop k = escS false x ++ rest) (hT : (x.length : Int) ≤ L.T) :
    Run b L ⟨k, op, nodes, false, 0, [], [], false⟩ [] ⟨k + (escS false x).length, op, nodes, true, k, x, [], false⟩ := by
  cases hx with
  | nil => exact absurd rfl h0
  | cons r t hr ht =>
    rw [esc_app, List.append_assoc] at h
    rw [List.length_append] at hT
    have hp : 0 < op.length := List.length_pos_iff.2 ho
    have st := cont_step (L := L) (s := ⟨k, op, nodes, false, 0, [], [], false⟩) hp hr h (by show ((0 + (enc r).length : Nat) : Int) ≤ L.T; omega)
    have h1 := Run.step rfl st
    have h2 := text_more ht (b := b) (L := L) (s := ⟨k + (escS false (enc r)).length, op, nodes, true, k, enc r, [], false⟩) hp rfl rfl rfl (d_app h) (by show (((enc r).length + t.length : Nat) : Int) ≤ L.T; omega)
    have h3 := h1.trans h2
    rw [esc_app, List.length_append, ← Nat.add_assoc]
    exact h3
end Go.Proofs.YtjcgnbmpnaapdaaDoor.M
namespace Go.Proofs.YtjcgnbmpnaapdaaDoor.M
open Go.Proofs.YtjcgnbmpnaapdaaDoor
set_option linter.unusedVariables false

/-- A name of plain letters. -/
structure Nm (w : Bs) : Prop where
  ne : w ≠ []
  st : isStart (w.headD 0) = true
  pt : ∀ x ∈ w, isPart x = true ∧ isChar x = true ∧ x < 128
theorem start_char {c : Int} (h : isStart c = true) : isChar c = true := by
  unfold isStart at h
  simp at h
  rcases h with h | h | h | h | h
  · unfold isChar; simp; omega
  · unfold isChar; simp; omega
  · unfold isChar; simp; omega
  · unfold isChar; simp; omega
  · exact h.2.2.2
theorem start_nw {c : Int} (h : isStart c = true) : isWhite c = false := by
  unfold isStart at h
  unfold isWhite
  simp at h ⊢
  omega
theorem Nm.hd {w : Bs} (h : Nm w) : ∃ c u, w = c :: u ∧ isStart c = true ∧ isChar c = true ∧ c < 128 := by
  obtain ⟨c, u, rfl⟩ := List.exists_cons_of_ne_nil h.ne
  exact ⟨c, u, rfl, h.st, h.pt c (by simp) |>.2⟩
theorem Nm.lk {b t w : Bs} {k : Nat} (h : Nm w) (hb : b.drop k = w ++ t) : ∃ c u, Lk b k c u ∧ isStart c = true := by
  obtain ⟨c, u, rfl, h1, h2⟩ := h.hd
  exact ⟨c, u ++ t, .mk' hb h2, h1⟩
theorem attrs_0 {b t : Bs} {A T : Int} {k n : Nat} {l : List At} (h : b.drop k = 62 :: t) : attrsL (n + 1) b A T l k = .ok (l, none) (k + 1) := by
  have q : Lk b k 62 t := .mk' h (by decide)
  rw [attrsL, q.blanks0 (by decide)]
  simp only [R.bind]
  rw [q.peek]
  simp only
  rw [if_pos (by decide), q.ln]
theorem attr_d {b t u : Bs} {T : Int} {k : Nat} (hu : Rt u) (hT : (u.length : Int) ≤ T) (hT1 : 1 ≤ T) (h : b.drop k = 118 :: 61 :: 34 :: (escS true u ++ 34 :: t)) : attrS b T [] k = .ok ⟨[118], u, k⟩ (k + (escS true u).length + 4) := by
  have l1 : Lk b k 118 _ := .mk' h (by decide)
  have l2 : Lk b (k + 1) 61 _ := .mk' l1.tl (by decide)
  have l3 : Lk b (k + 1 + 1) 34 _ := .mk' l2.tl (by decide)
  unfold attrS
  rw [name_d (w := [118]) h (by simp) (by decide) (by decide) (by decide) (by decide) (by simpa using hT1)]
  simp only [R.bind, List.length_cons, List.length_nil]
  rw [l2.peek]
  simp only
  rw [if_neg (by simp)]
  unfold eqS
  rw [l2.blanks0 (by decide)]
  simp only [R.bind]
  rw [l2.sign]
  simp only
  rw [l3.blanks0 (by decide)]
  simp only
  rw [val_d hu l3.d hT]
  simp only
  congr 1
  omega
theorem attrs_1 {b t u : Bs} {A T : Int} {k n : Nat} (hu : Rt u) (hT : (u.length : Int) ≤ T) (hT1 : 1 ≤ T) (hA : 0 < A) (h : b.drop k = 32 :: 118 :: 61 :: 34 :: (escS true u ++ 34 :: 62 :: t)) : attrsL (n + 2) b A T [] k = .ok ([⟨[118], u, (k + 1 : Nat)⟩], none) (k + (escS true u).length + 6) := by
  have l0 : Lk b k 32 _ := .mk' h (by decide)
  have l1 : Lk b (k + 1) 118 _ := .mk' l0.tl (by decide)
  rw [attrsL, l0.blanks1 l1 (by decide)]
  simp only [R.bind]
  rw [l1.peek]
  simp only
  rw [if_neg (by decide), if_neg (by decide), if_neg (by decide), if_neg (by simp; omega), attr_d hu hT hT1 l1.d]
  simp only [List.nil_append]
  have e : b.drop (k + 1 + (escS true u).length + 4) = 62 :: t := by
    have q := d_app (l := [118, 61, 34] ++ (escS true u ++ [34])) (t := 62 :: t) (b := b) (k := k + 1) (by rw [l1.d]; simp)
    rw [← q]
    congr 1
    simp
    omega
  rw [attrs_0 e]
  congr 1
  omega
theorem tag_0 {b t w : Bs} {L : Lm} {s : S} {lt0 k : Nat} (hw : Nm w) (hT : (w.length : Int) ≤ L.T) (hD : (s.op.length : Int) ≠ L.D) (hN : s.nodes ≠ L.N) (h : b.drop k = w ++ 62 :: t) :
    tagS b L s lt0 k = .go (tellS { s with nodes := s.nodes + 1, k := k + w.length + 1, op := s.op ++ [w] } [⟨1, lt0, w, [], []⟩]) := by
  obtain ⟨c, u, l, hs⟩ := hw.lk h
  unfold tagS
  rw [l.peek]
  simp only [R.q]
  rw [if_neg (by rw [hs]; simp), if_neg (by rintro (q | q); exact hD q; exact hN q), name_d h hw.ne hw.st hw.pt (by decide) (by decide) hT]
  simp only
  rw [attrs_0 (d_app h)]
theorem tag_m {b t w : Bs} {L : Lm} {s : S} {lt0 k : Nat} (hw : Nm w) (hD : (s.op.length : Int) = L.D) (h : b.drop k = w ++ t) : tagS b L s lt0 k = .bad lt0 3 := by
  obtain ⟨c, u, l, hs⟩ := hw.lk h
  unfold tagS
  rw [l.peek]
  simp only [R.q]
  rw [if_neg (by rw [hs]; simp), if_pos (.inl hD)]
theorem tag_1 {b t w v : Bs} {L : Lm} {s : S} {lt0 k : Nat} (hw : Nm w) (hv : Rt v) (hTv : (v.length : Int) ≤ L.T) (hA : 0 < L.A) (hT1 : 1 ≤ L.T) (hT : (w.length : Int) ≤ L.T) (hD : (s.op.length : Int) ≠ L.D) (hN : s.nodes ≠ L.N) (h : b.drop k = w ++ 32 :: 118 :: 61 :: 34 :: (escS true v ++ 34 :: 62 :: t)) :
    tagS b L s lt0 k = .go (tellS { s with nodes := s.nodes + 1, k := k + w.length + (escS true v).length + 6, op := s.op ++ [w] } [⟨1, lt0, w, [], [⟨[118], v, (k + w.length + 1 : Nat)⟩]⟩]) := by
  obtain ⟨c, u, l, hs⟩ := hw.lk h
  have hl := d_len h (by simp; omega)
  unfold tagS
  rw [l.peek]
  simp only [R.q]
  rw [if_neg (by rw [hs]; simp), if_neg (by rintro (q | q); exact hD q; exact hN q), name_d h hw.ne hw.st hw.pt (by decide) (by decide) hT]
  simp only
  obtain ⟨n, hn⟩ : ∃ n, b.length + 1 = n + 2 := ⟨b.length - 1, by simp at hl; omega⟩
  rw [hn, attrs_1 hv hTv hT1 hA (d_app h)]
theorem end_0 {b t w : Bs} {L : Lm} {s : S} {lt0 k : Nat} (hw : Nm w) (hT : (w.length : Int) ≤ L.T) (hO : s.op.getLastD [] = w) (h : b.drop k = w ++ 62 :: t) :
    endS b L s lt0 k = .go (tellS { s with k := k + w.length + 1, op := s.op.dropLast } [⟨2, lt0, w, [], []⟩]) := by
  have l : Lk b (k + w.length) 62 t := .mk' (d_app h) (by decide)
  unfold endS
  rw [name_d h hw.ne hw.st hw.pt (by decide) (by decide) hT]
  simp only [R.q]
  rw [if_neg (fun q => q.1 hO.symm), l.blanks0 (by decide)]
  simp only
  rw [l.sign]
theorem end_1 {b t w : Bs} {L : Lm} {s : S} {lt0 k : Nat} (hw : Nm w) (hT : (w.length : Int) ≤ L.T) (hO : s.op.getLastD [] = w) (h : b.drop k = w ++ 32 :: 62 :: t) :
    endS b L s lt0 k = .go (tellS { s with k := k + w.length + 2, op := s.op.dropLast } [⟨2, lt0, w, [], []⟩]) := by
  have l : Lk b (k + w.length) 32 _ := .mk' (d_app h) (by decide)
  have l2 : Lk b (k + w.length + 1) 62 t := .mk' l.tl (by decide)
  unfold endS
  rw [name_d h hw.ne hw.st hw.pt (by decide) (by decide) hT]
  simp only [R.q]
  rw [if_neg (fun q => q.1 hO.symm), l.blanks1 l2 (by decide)]
  simp only
  rw [l2.sign]
theorem end_x {b t w : Bs} {L : Lm} {s : S} {lt0 k : Nat} (hw : Nm w) (hT : (w.length : Int) ≤ L.T) (hO : w ≠ s.op.getLastD []) (h : b.drop k = w ++ 62 :: t) : endS b L s lt0 k = .bad lt0 2 := by
  have l : Lk b (k + w.length) 62 t := .mk' (d_app h) (by decide)
  have := l.le
  unfold endS
  rw [name_d h hw.ne hw.st hw.pt (by decide) (by decide) hT]
  simp only [R.q]
  rw [if_pos ⟨hO, fun q => by omega⟩]
/-! Where tags stand. -/
theorem cont_tag {b t w : Bs} {L : Lm} {s : S} (hw : Nm w) (ho : s.op ≠ []) (h : b.drop s.k = 60 :: (w ++ t)) : readS b L s = tagS b L s s.k (s.k + 1) := by
  have l : Lk b s.k 60 _ := .mk' h (by decide)
  obtain ⟨c, u, l2, hs⟩ := hw.lk l.tl
  unfold readS
  rw [if_pos (List.length_pos_iff.2 ho)]
  unfold contS
  rw [l.peek]
  simp only [R.q]
  rw [if_pos (by decide), l.ln]
  unfold markS
  rw [l2.peek]
  simp only [R.q]
  have n1 : c ≠ 63 := by rintro rfl; exact absurd hs (by decide)
  have n2 : c ≠ 33 := by rintro rfl; exact absurd hs (by decide)
  have n3 : c ≠ 47 := by rintro rfl; exact absurd hs (by decide)
  rw [if_neg n1, if_neg n2, if_neg n3]
theorem cont_end {b t : Bs} {L : Lm} {s : S} (ho : s.op ≠ []) (h : b.drop s.k = 60 :: 47 :: t) : readS b L s = endS b L s s.k (s.k + 2) := by
  have l : Lk b s.k 60 _ := .mk' h (by decide)
  have l2 : Lk b (s.k + 1) 47 _ := .mk' l.tl (by decide)
  unfold readS
  rw [if_pos (List.length_pos_iff.2 ho)]
  unfold contS
  rw [l.peek]
  simp only [R.q]
  rw [if_pos (by decide), l.ln]
  unfold markS
  rw [l2.peek]
  simp only [R.q]
  rw [if_neg (by decide), if_neg (by decide), if_pos (by decide), l2.ln]
theorem out_tag {b t w : Bs} {L : Lm} {s : S} (hw : Nm w) (ho : s.op = []) (hk : s.k = 0) (hn : s.nodes = 0) (h : b = 60 :: (w ++ t)) : readS b L s = tagS b L s 0 1 := by
  have l : Lk b 0 60 (w ++ t) := .mk' (by rw [h]; rfl) (by decide)
  obtain ⟨c, u, l2, hs⟩ := hw.lk l.tl
  have n1 : c ≠ 63 := by rintro rfl; exact absurd hs (by decide)
  have n2 : c ≠ 33 := by rintro rfl; exact absurd hs (by decide)
  have n3 : c ≠ 47 := by rintro rfl; exact absurd hs (by decide)
  have hd : isDecl b = false := by
    unfold isDecl
    rw [decide_eq_false_iff_not]
    rintro ⟨q, _⟩
    have e : b = 60 :: c :: u := by
      have e1 := l.d
      have e2 := l2.d
      have e3 := l.tl
      rw [e2] at e3
      rw [← e3] at e1
      exact e1
    rw [e] at q
    simp at q
    exact n1 q.1
  unfold readS
  rw [if_neg (by rw [ho]; simp), hd, if_neg (by simp)]
  unfold outS
  rw [hk, l.blanks0 (by decide)]
  simp only [R.q]
  rw [if_neg (by rw [hn]; omega), l.sign]
  simp only
  rw [l2.peek]
  simp only
  rw [if_neg n1, if_neg n2, if_neg n3, if_neg (by rw [hn]; omega)]
theorem out_end {b : Bs} {L : Lm} {s : S} (ho : s.op = []) (hk : s.k = b.length) (hn : 0 < s.nodes) (hk0 : s.k ≠ 0) : readS b L s = .go { s with over := true } := by
  unfold readS
  rw [if_neg (by rw [ho]; simp), if_neg (fun q => hk0 q.1)]
  unfold outS blanksS
  rw [hk, Nat.sub_self, blkS]
  simp only [R.bind, R.q]
  rw [if_pos ⟨trivial, hn⟩]
end Go.Proofs.YtjcgnbmpnaapdaaDoor.M
namespace Go.Proofs.YtjcgnbmpnaapdaaDoor.M
open Go.Proofs.YtjcgnbmpnaapdaaDoor
set_option linter.unusedVariables false

/-- The state between tags: nothing begun, nothing ready. -/
def st (k : Nat) (op : List Bs) (nodes : Int) : S := ⟨k, op, nodes, false, 0, [], [], false⟩
theorem s0_st : s0 = st 0 [] 0 := rfl
theorem run_tell {b : Bs} {L : Lm} {s : S} {k : Nat} {op : List Bs} {nodes : Int} {tag : List Ev} (hv : s.over = false) (hr : s.ready = [])
    (h : readS b L s = .go (tellS { s with nodes := nodes, k := k, op := op } tag)) : Run b L s ((if 0 < s.tout.length then [⟨3, s.tat, [], s.tout, []⟩] else []) ++ tag) (st k op nodes) := by
  have q := Run.step hv h
  have e : ((tellS { s with nodes := nodes, k := k, op := op } tag).ready) = (if 0 < s.tout.length then [⟨3, s.tat, [], s.tout, []⟩] else []) ++ tag := by
    unfold tellS
    simp [hr]
  rw [e] at q
  have e2 : ({ (tellS { s with nodes := nodes, k := k, op := op } tag) with ready := [] } : S) = st k op nodes := by
    unfold tellS st
    simp [hv]
  rw [e2] at q
  exact q
theorem run_st {b : Bs} {L : Lm} {k k' : Nat} {op op' : List Bs} {nodes nodes' : Int} {tag : List Ev}
    (h : readS b L (st k op nodes) = .go (tellS { st k op nodes with nodes := nodes', k := k', op := op' } tag)) : Run b L (st k op nodes) tag (st k' op' nodes') := run_tell rfl rfl h
theorem end_st {b : Bs} {L : Lm} {k : Nat} {nodes : Int} (hk : k = b.length) (hn : 0 < nodes) (hk0 : k ≠ 0) : End b L (st k [] nodes) [] 0 0 := by
  have h : readS b L (st k [] nodes) = .go { st k [] nodes with over := true } := out_end rfl hk hn hk0
  exact (Run.step rfl h).fin (End.over rfl)
/-- From a text on: the text's letters, then a tag's end. -/
theorem run_text {b : Bs} {L : Lm} {x rest : Bs} {k k' : Nat} {op op' : List Bs} {nodes nodes' : Int} {tag : List Ev} (hx : Rt x) (ho : op ≠ []) (h : b.drop k = escS false x ++ rest) (hT : (x.length : Int) ≤ L.T)
    (hr : ∀ s : S, s.op = op → s.k = k + (escS false x).length → s.nodes = nodes → readS b L s = .go (tellS { s with nodes := nodes', k := k', op := op' } tag)) :
    Run b L (st k op nodes) ((if x = [] then [] else [⟨3, k, [], x, []⟩]) ++ tag) (st k' op' nodes') := by
  by_cases h0 : x = []
  · subst h0
    exact run_st (hr _ rfl (by simp [st, escS]) rfl)
  · have h1 := text_d (L := L) (nodes := nodes) hx h0 ho h hT
    have h2 := run_tell rfl rfl (hr ⟨k + (escS false x).length, op, nodes, true, k, x, [], false⟩ rfl rfl rfl)
    have h3 := h1.trans h2
    rw [if_neg h0]
    have hp : 0 < x.length := List.length_pos_iff.2 h0
    dsimp only at h3
    rw [if_pos hp] at h3
    exact h3
/-- An escaped value and an escaped text in a document. -/
def escDoc (v x : Bs) : Bs := [60, 97, 32, 118, 61, 34] ++ (escS true v ++ ([34, 62] ++ (escS false x ++ [60, 47, 97, 62])))
theorem nm_a : Nm [97] := ⟨by simp, by decide, by decide⟩
theorem esc_doc {v x : Bs} {L : Lm} (hv : Rt v) (hx : Rt x) (hTv : (v.length : Int) ≤ L.T) (hTx : (x.length : Int) ≤ L.T) (hT : 1 ≤ L.T) (hA : 0 < L.A) (hD : L.D ≠ 0) (hN : L.N ≠ 0) (hl : (escDoc v x).length ≤ 65536) :
    ∃ k k' : Int, allB (escDoc v x) L = (⟨1, 0, [97], [], [⟨[118], v, 3⟩]⟩ :: ((if x = [] then [] else [⟨3, k, [], x, []⟩]) ++ [⟨2, k', [97], [], []⟩]), 0, 0) := by
  generalize hb : escDoc v x = b at hl ⊢
  have hd0 : b.drop 1 = [97] ++ 32 :: 118 :: 61 :: 34 :: (escS true v ++ 34 :: 62 :: (escS false x ++ [60, 47, 97, 62])) := by rw [← hb]; simp [escDoc]
  have h0 : b = 60 :: ([97] ++ 32 :: 118 :: 61 :: 34 :: (escS true v ++ 34 :: 62 :: (escS false x ++ [60, 47, 97, 62]))) := by rw [← hb]; simp [escDoc]
  have r1 : Run b L s0 [⟨1, 0, [97], [], [⟨[118], v, 3⟩]⟩] (st (1 + 1 + (escS true v).length + 6) [[97]] 1) := by
    refine run_st (k := 0) (op := []) (nodes := 0) ?_
    rw [out_tag nm_a rfl rfl rfl h0]
    exact tag_1 nm_a hv hTv hA hT hT (by simpa [st] using hD.symm) (by simpa [st] using hN.symm) hd0
  have hd1 : b.drop (1 + 1 + (escS true v).length + 6) = escS false x ++ [60, 47, 97, 62] := by
    have q := d_app (b := b) (k := 0) (l := [60, 97, 32, 118, 61, 34] ++ (escS true v ++ [34, 62])) (t := escS false x ++ [60, 47, 97, 62]) (by rw [← hb]; simp [escDoc])
    rw [← q]
    congr 1
    simp
    omega
  have hd2 := d_app hd1
  have r2 := run_text (L := L) (nodes := 1) (nodes' := 1) (op' := []) (k' := 1 + 1 + (escS true v).length + 6 + (escS false x).length + 4) (tag := [⟨2, (1 + 1 + (escS true v).length + 6 + (escS false x).length : Nat), [97], [], []⟩]) hx (op := [[97]]) (by simp) hd1 hTx (fun s ho hk hn => by
    rw [← hk] at hd2
    rw [cont_end (by rw [ho]; simp) hd2, end_0 (w := [97]) (t := []) nm_a hT (by rw [ho]; rfl) (d_tail (d_tail hd2)), ho, hk, ← hn]
    rfl)
  have hlen := d_len hd2 (by simp)
  simp only [List.length_cons, List.length_nil] at hlen
  have h := (r1.trans r2).fin (end_st (by omega) (by decide) (by omega))
  refine ⟨(1 + 1 + (escS true v).length + 6 : Nat), (1 + 1 + (escS true v).length + 6 + (escS false x).length : Nat), ?_⟩
  rw [h.all hl, List.append_nil]
  rfl
/-! Tags within one another. -/
def opens : List Bs → Bs
  | [] => []
  | w :: ws => 60 :: (w ++ 62 :: opens ws)
def closes : List Bs → Bs
  | [] => []
  | w :: ws => 60 :: 47 :: (w ++ 62 :: closes ws)
def starts (k : Nat) : List Bs → List Ev
  | [] => []
  | w :: ws => ⟨1, k, w, [], []⟩ :: starts (k + w.length + 2) ws
def ends (k : Nat) : List Bs → List Ev
  | [] => []
  | w :: ws => ⟨2, k, w, [], []⟩ :: ends (k + w.length + 3) ws
theorem opens_run {b : Bs} {L : Lm} : ∀ {ws : List Bs} {t : Bs} {k : Nat} {op : List Bs} {nodes : Int}, (∀ w ∈ ws, Nm w ∧ (w.length : Int) ≤ L.T) → op ≠ [] → ((op.length + ws.length : Nat) : Int) ≤ L.D → nodes + ws.length ≤ L.N → b.drop k = opens ws ++ t →
    Run b L (st k op nodes) (starts k ws) (st (k + (opens ws).length) (op ++ ws) (nodes + ws.length))
  | [], t, k, op, nodes, hw, ho, hD, hN, h => by simp [opens, starts]; exact .refl
  | w :: ws, t, k, op, nodes, hw, ho, hD, hN, h => by
    have hw1 := hw w (by simp)
    simp only [List.length_cons] at hD hN
    have h' : b.drop k = 60 :: (w ++ 62 :: (opens ws ++ t)) := by rw [h]; simp [opens]
    have r1 : Run b L (st k op nodes) [⟨1, k, w, [], []⟩] (st (k + 1 + w.length + 1) (op ++ [w]) (nodes + 1)) := by
      refine run_st ?_
      rw [cont_tag hw1.1 ho h']
      exact tag_0 hw1.1 hw1.2 (by simp only [st]; omega) (by simp only [st]; omega) (d_tail h')
    have hd := d_tail (d_app (d_tail h'))
    have r2 := opens_run (ws := ws) (t := t) (k := k + 1 + w.length + 1) (op := op ++ [w]) (nodes := nodes + 1) (fun x hx => hw x (by simp [hx])) (by simp) (by rw [List.length_append]; simp; omega) (by omega) hd
    have r3 := r1.trans r2
    have e1 : k + 1 + w.length + 1 + (opens ws).length = k + (opens (w :: ws)).length := by simp [opens]; omega
    have e2 : nodes + 1 + (ws.length : Int) = nodes + ((w :: ws).length : Int) := by simp; omega
    have e3 : k + 1 + w.length + 1 = k + w.length + 2 := by omega
    rw [e1, e2, e3, List.append_assoc] at r3
    exact r3
theorem closes_run {b : Bs} {L : Lm} : ∀ {ws : List Bs} {t : Bs} {k : Nat} {op : List Bs} {nodes : Int}, (∀ w ∈ ws, Nm w ∧ (w.length : Int) ≤ L.T) → b.drop k = closes ws ++ t →
    Run b L (st k (op ++ ws.reverse) nodes) (ends k ws) (st (k + (closes ws).length) op nodes)
  | [], t, k, op, nodes, hw, h => by simp [closes, ends]; exact .refl
  | w :: ws, t, k, op, nodes, hw, h => by
    have hw1 := hw w (by simp)
    have h' : b.drop k = 60 :: 47 :: (w ++ 62 :: (closes ws ++ t)) := by rw [h]; simp [closes]
    have r1 : Run b L (st k (op ++ (w :: ws).reverse) nodes) [⟨2, k, w, [], []⟩] (st (k + 2 + w.length + 1) (op ++ ws.reverse) nodes) := by
      refine run_st ?_
      rw [cont_end (by simp [st]) h']
      have q := end_0 (b := b) (L := L) (s := st k (op ++ (w :: ws).reverse) nodes) (lt0 := k) (k := k + 2) hw1.1 hw1.2 (by simp [st]) (d_tail (d_tail h'))
      have e : (st k (op ++ (w :: ws).reverse) nodes).op.dropLast = op ++ ws.reverse := by simp [st, ← List.append_assoc]
      rw [e] at q
      exact q
    have hd := d_tail (d_app (d_tail (d_tail h')))
    have r2 := closes_run (L := L) (ws := ws) (t := t) (k := k + 2 + w.length + 1) (op := op) (nodes := nodes) (fun x hx => hw x (by simp [hx])) hd
    have r3 := r1.trans r2
    have e1 : k + 2 + w.length + 1 + (closes ws).length = k + (closes (w :: ws)).length := by simp [closes]; omega
    have e3 : k + 2 + w.length + 1 = k + w.length + 3 := by omega
    rw [e1, e3] at r3
    exact r3
theorem first_open {b t w : Bs} {L : Lm} (hw : Nm w) (hT : (w.length : Int) ≤ L.T) (hD : L.D ≠ 0) (hN : L.N ≠ 0) (h : b = 60 :: (w ++ 62 :: t)) : Run b L s0 [⟨1, 0, w, [], []⟩] (st (w.length + 2) [w] 1) := by
  have q : Run b L s0 [⟨1, 0, w, [], []⟩] (st (1 + w.length + 1) [w] 1) := by
    refine run_st (k := 0) (op := []) (nodes := 0) ?_
    rw [out_tag hw rfl rfl rfl h]
    exact tag_0 hw hT (by simpa [st] using hD.symm) (by simpa [st] using hN.symm) (by rw [h]; rfl)
  rw [show w.length + 2 = 1 + w.length + 1 by omega]
  exact q
end Go.Proofs.YtjcgnbmpnaapdaaDoor.M
namespace Go.Proofs.YtjcgnbmpnaapdaaDoor.M
open Go.Proofs.YtjcgnbmpnaapdaaDoor
set_option linter.unusedVariables false

theorem no_char : isChar (-1) = false := by decide
theorem tl_lo {d : Int} (h : d < 128) : isTl d = false := by unfold isTl; rw [decide_eq_false_iff_not]; omega
theorem dec_lo1 {c d : Int} {y : Bs} (hc : 128 ≤ c) (hd : d < 128) : isChar (dec (c :: d :: y)).1 = false := by
  have ht := tl_lo hd
  unfold dec
  rw [if_neg (by simp), if_neg (by simp; omega)]
  show isChar (if c < 192 then _ else if c < 224 then _ else if c < 240 then _ else if c < 248 then _ else _ : Int × Int).1 = false
  repeat' split
  all_goals simp [dec2, dec3, dec4, ht, no_char]
theorem dec_lo2 {c d e : Int} {y : Bs} (hc : 224 ≤ c) (hd : e < 128) : isChar (dec (c :: d :: e :: y)).1 = false := by
  have ht := tl_lo hd
  unfold dec
  rw [if_neg (by simp), if_neg (by simp; omega), if_neg (by simp; omega), if_neg (by simp; omega)]
  repeat' split
  all_goals simp [dec3, dec4, ht, no_char]
theorem dec_lo3 {c d e f : Int} {y : Bs} (hc : 240 ≤ c) (hd : f < 128) : isChar (dec (c :: d :: e :: f :: y)).1 = false := by
  have ht := tl_lo hd
  unfold dec
  rw [if_neg (by simp), if_neg (by simp; omega), if_neg (by simp; omega), if_neg (by simp; omega), if_neg (by simp; omega)]
  repeat' split
  all_goals simp [dec4, ht, no_char]
theorem dec_2 {c d : Int} {y : Bs} (hc : 192 ≤ c) (hc2 : c < 224) : dec (c :: d :: y) = dec2 c d := by
  unfold dec
  rw [if_neg (by simp), if_neg (by simp; omega), if_neg (by simp; omega), if_pos (by simpa using hc2), if_pos (by simp)]
  rfl
theorem dec_3 {c d e : Int} {y : Bs} (hc : 224 ≤ c) (hc2 : c < 240) : dec (c :: d :: e :: y) = dec3 c d e := by
  unfold dec
  rw [if_neg (by simp), if_neg (by simp; omega), if_neg (by simp; omega), if_neg (by simp; omega), if_pos (by simpa using hc2), if_pos (by simp)]
  rfl
theorem dec_4 {c d e f : Int} {y : Bs} (hc : 240 ≤ c) (hc2 : c < 248) : dec (c :: d :: e :: f :: y) = dec4 c d e f := by
  unfold dec
  rw [if_neg (by simp), if_neg (by simp; omega), if_neg (by simp; omega), if_neg (by simp; omega), if_neg (by simp; omega), if_pos (by simpa using hc2), if_pos (by simp)]
  rfl
theorem dec_no {c : Int} {y : Bs} (h : (128 ≤ c ∧ c < 192) ∨ 248 ≤ c) : isChar (dec (c :: y)).1 = false := by
  unfold dec
  rw [if_neg (by simp), if_neg (by simp; omega)]
  rcases h with h | h
  · rw [if_pos (by simp; omega)]; exact no_char
  · rw [if_neg (by simp; omega), if_neg (by simp; omega), if_neg (by simp; omega), if_neg (by simp; omega)]; exact no_char
theorem esc_hd (a : Bool) (x : Bs) (e : Int) (t : Bs) (he : e < 128) :
    (∃ d y, escS a x ++ e :: t = d :: y ∧ d < 128) ∨ (∃ d x', x = d :: x' ∧ 128 ≤ d ∧ escS a x ++ e :: t = d :: (escS a x' ++ e :: t)) := by
  cases x with
  | nil => exact .inl ⟨e, t, rfl, he⟩
  | cons d x' =>
    by_cases hd : 128 ≤ d
    · refine .inr ⟨d, x', rfl, hd, ?_⟩
      rw [escS, if_neg (by omega), if_neg (by omega), if_neg (by omega), if_neg (by omega), if_neg (by omega), if_neg (by omega), if_neg (by omega)]
      rfl
    · refine .inl ?_
      rw [escS]
      repeat' split
      all_goals exact ⟨_, _, rfl, by omega⟩
/-- At these bytes, escaped, no letter is read. -/
def Stuck (z : Bs) : Prop := ∀ (a : Bool) (e : Int) (t : Bs), e < 128 → isChar (dec (escS a z ++ e :: t)).1 = false
theorem stuck_of {v : Bs} (h0 : v ≠ []) (h : isChar (dec v).1 = false) : Stuck v := by
  intro a e t he
  obtain ⟨c, v', rfl⟩ := List.exists_cons_of_ne_nil h0
  by_cases hc : c < 128
  · rw [dec_ascii hc] at h
    have n1 : c ≠ 38 := by rintro rfl; exact absurd h (by decide)
    have n2 : c ≠ 60 := by rintro rfl; exact absurd h (by decide)
    have n3 : c ≠ 62 := by rintro rfl; exact absurd h (by decide)
    have n4 : c ≠ 13 := by rintro rfl; exact absurd h (by decide)
    have n5 : c ≠ 34 := by rintro rfl; exact absurd h (by decide)
    have n6 : c ≠ 9 := by rintro rfl; exact absurd h (by decide)
    have n7 : c ≠ 10 := by rintro rfl; exact absurd h (by decide)
    rw [escS, if_neg n1, if_neg n2, if_neg n3, if_neg n4, if_neg (fun q => n5 q.2), if_neg (fun q => n6 q.2), if_neg (fun q => n7 q.2)]
    rw [List.append_assoc, List.singleton_append, dec_ascii hc]
    exact h
  · rcases esc_hd a (c :: v') e t he with ⟨d, y, hy, hd⟩ | ⟨d, x', hx, hd, hy⟩
    · rw [hy, dec_ascii hd]
      exfalso
      rw [escS, if_neg (by omega), if_neg (by omega), if_neg (by omega), if_neg (by omega), if_neg (by omega), if_neg (by omega), if_neg (by omega)] at hy
      simp at hy
      omega
    · cases hx
      rw [hy]
      clear hy
      by_cases k1 : c < 192
      · exact dec_no (.inl ⟨by omega, k1⟩)
      by_cases k4 : 248 ≤ c
      · exact dec_no (.inr k4)
      rcases esc_hd a v' e t he with ⟨d, y, hy, hd⟩ | ⟨d, x', rfl, hd1, hy⟩
      · rw [hy]; exact dec_lo1 (by omega) hd
      rw [hy]
      clear hy
      by_cases k2 : c < 224
      · rw [dec_2 (by omega) k2] at h ⊢; exact h
      rcases esc_hd a x' e t he with ⟨d2, y, hy, hd⟩ | ⟨d2, x2, rfl, hd2, hy⟩
      · rw [hy]; exact dec_lo2 (by omega) hd
      rw [hy]
      clear hy
      by_cases k3 : c < 240
      · rw [dec_3 (by omega) k3] at h ⊢; exact h
      rcases esc_hd a x2 e t he with ⟨d3, y, hy, hd⟩ | ⟨d3, x3, rfl, hd3, hy⟩
      · rw [hy]; exact dec_lo3 (by omega) hd
      rw [hy]
      rw [dec_4 (by omega) (by omega)] at h ⊢; exact h
theorem fin_char {r n : Int} (h : isChar (fin r n).1 = true) : wid r = n ∧ fin r n = (r, n) := by
  unfold fin at h ⊢
  by_cases hw : wid r = n
  · rw [if_pos hw]; exact ⟨hw, rfl⟩
  · rw [if_neg hw] at h; exact absurd h (by decide)
/-- The letter at a row's front, put again, is that front. -/
theorem enc_dec {v : Bs} (hb : ∀ c ∈ v, 0 ≤ c ∧ c < 256) (h : isChar (dec v).1 = true) : ∃ r v', isChar r = true ∧ v = enc r ++ v' := by
  cases v with
  | nil => exact absurd h (by decide)
  | cons c y =>
    have hc0 := hb c (by simp)
    by_cases hc : c < 128
    · rw [dec_ascii hc] at h
      refine ⟨c, y, h, ?_⟩
      have hw : wid c = 1 := by unfold wid; rw [if_neg (by omega), if_pos hc]
      rw [enc1 hw]; rfl
    by_cases k1 : c < 192
    · rw [dec_no (.inl ⟨by omega, k1⟩)] at h; cases h
    by_cases k4 : 248 ≤ c
    · rw [dec_no (.inr k4)] at h; cases h
    cases y with
    | nil =>
      exfalso
      unfold dec at h
      rw [if_neg (by simp), if_neg (by simp; omega), if_neg (by simp; omega)] at h
      simp [no_char] at h
    | cons d y =>
      by_cases k2 : c < 224
      · rw [dec_2 (by omega) k2] at h
        unfold dec2 at h
        by_cases t1 : isTl d = true
        · rw [if_pos t1] at h
          obtain ⟨hw, hf⟩ := fin_char h
          rw [hf] at h
          refine ⟨_, y, h, ?_⟩
          rw [enc2 hw]
          unfold isTl at t1
          simp at t1
          have e1 : 192 + (c % 32 * 64 + d % 64) / 64 = c := by omega
          have e2 : 128 + (c % 32 * 64 + d % 64) % 64 = d := by omega
          rw [e1, e2]; rfl
        · rw [if_neg t1] at h; exact absurd h (by decide)
      cases y with
      | nil =>
        exfalso
        unfold dec at h
        rw [if_neg (by simp), if_neg (by simp; omega), if_neg (by simp; omega), if_neg (by simp; omega)] at h
        simp [no_char] at h
      | cons e y =>
        by_cases k3 : c < 240
        · rw [dec_3 (by omega) k3] at h
          unfold dec3 at h
          by_cases t1 : isTl d = true ∧ isTl e = true
          · rw [if_pos t1] at h
            obtain ⟨hw, hf⟩ := fin_char h
            rw [hf] at h
            refine ⟨_, y, h, ?_⟩
            rw [enc3 hw]
            unfold isTl at t1
            simp at t1
            have e1 : 224 + ((c % 16 * 64 + d % 64) * 64 + e % 64) / 4096 = c := by omega
            have e2 : 128 + ((c % 16 * 64 + d % 64) * 64 + e % 64) / 64 % 64 = d := by omega
            have e3 : 128 + ((c % 16 * 64 + d % 64) * 64 + e % 64) % 64 = e := by omega
            rw [e1, e2, e3]; rfl
          · rw [if_neg t1] at h; exact absurd h (by decide)
        cases y with
        | nil =>
          exfalso
          unfold dec at h
          rw [if_neg (by simp), if_neg (by simp; omega), if_neg (by simp; omega), if_neg (by simp; omega), if_neg (by simp; omega)] at h
          simp [no_char] at h
        | cons f y =>
          rw [dec_4 (by omega) (by omega)] at h
          unfold dec4 at h
          by_cases t1 : isTl d = true ∧ isTl e = true ∧ isTl f = true
          · rw [if_pos t1] at h
            obtain ⟨hw, hf⟩ := fin_char h
            rw [hf] at h
            refine ⟨_, y, h, ?_⟩
            rw [enc4 hw]
            unfold isTl at t1
            simp at t1
            have e1 : 240 + (((c % 8 * 64 + d % 64) * 64 + e % 64) * 64 + f % 64) / 262144 = c := by omega
            have e2 : 128 + (((c % 8 * 64 + d % 64) * 64 + e % 64) * 64 + f % 64) / 4096 % 64 = d := by omega
            have e3 : 128 + (((c % 8 * 64 + d % 64) * 64 + e % 64) * 64 + f % 64) / 64 % 64 = e := by omega
            have e4 : 128 + (((c % 8 * 64 + d % 64) * 64 + e % 64) * 64 + f % 64) % 64 = f := by omega
            rw [e1, e2, e3, e4]; rfl
          · rw [if_neg t1] at h; exact absurd h (by decide)
theorem enc_pos {r : Int} (h : isChar r = true) : 0 < (enc r).length := by
  rcases enc_hi h with ⟨e, _⟩ | ⟨_, hn, _⟩
  · rw [e]; simp
  · exact List.length_pos_iff.2 hn
theorem rt_or : ∀ (n : Nat) (v : Bs), v.length ≤ n → (∀ c ∈ v, 0 ≤ c ∧ c < 256) → Rt v ∨ ∃ u z, v = u ++ z ∧ Rt u ∧ Stuck z
  | 0, v, hn, hb => by
    have : v = [] := List.eq_nil_of_length_eq_zero (by omega)
    subst this
    exact .inl .nil
  | n + 1, v, hn, hb => by
    by_cases h0 : v = []
    · subst h0; exact .inl .nil
    cases hc : isChar (dec v).1 with
    | false => exact .inr ⟨[], v, rfl, .nil, stuck_of h0 hc⟩
    | true =>
      obtain ⟨r, v', hr, rfl⟩ := enc_dec hb hc
      have := enc_pos hr
      rw [List.length_append] at hn
      rcases rt_or n v' (by omega) (fun c hc => hb c (by simp [hc])) with h | ⟨u, z, rfl, hu, hz⟩
      · exact .inl (.cons r v' hr h)
      · exact .inr ⟨enc r ++ u, z, by simp, .cons r u hr hu, hz⟩
/-! The parser at such bytes. -/
theorem stuck_ok {b z t : Bs} {a : Bool} {k : Nat} {e : Int} (hz : Stuck z) (he : e < 128) (h : b.drop k = escS a z ++ e :: t) : okl b k = false := by
  unfold okl YtjcgnbmpnaapdaaDoor.lt
  rw [h]
  exact hz a e t he
theorem val_bad {b rest : Bs} {T : Int} {u z : Bs} {k : Nat} (hu : Rt u) (hz : Stuck z) (h : b.drop k = 34 :: (escS true (u ++ z) ++ 34 :: rest)) (hT : (u.length : Int) ≤ T) : ∃ p, valueS b T k = .bad p 2 := by
  have l : Lk b k 34 _ := .mk' h (by decide)
  have l' := l.tl
  rw [esc_app, List.append_assoc] at l'
  unfold valueS
  rw [l.quote rfl]
  simp only [R.bind]
  obtain ⟨j, hj, hf⟩ := val_run (T := T) (at0 := k) (out := []) hu l' (by simpa using hT)
  have hlen := d_len h (by simp)
  have hle := esc_len true u
  rw [esc_app, List.length_cons, List.length_append, List.length_append, List.length_cons] at hlen
  obtain ⟨f, hf2⟩ : ∃ f, b.length + 1 = (f + 1) + j := ⟨b.length - j, by omega⟩
  rw [hf2, hf, valL]
  have ho := stuck_ok hz (by decide) (d_app l')
  unfold peekS
  rw [ho]
  exact ⟨_, rfl⟩
theorem text_bad {b : Bs} {L : Lm} {u z : Bs} (hu : Rt u) (hz : Stuck z) {rest : Bs} {k : Nat} {op : List Bs} {nodes : Int} (ho : op ≠ []) (h : b.drop k = escS false (u ++ z) ++ 60 :: rest) (hT : (u.length : Int) ≤ L.T) :
    ∃ p, End b L (st k op nodes) [] p 2 := by
  rw [esc_app, List.append_assoc] at h
  have hk := stuck_ok hz (by decide) (d_app h)
  have key : ∀ s : S, s.op = op → s.k = k + (escS false u).length → readS b L s = .bad (s.k : Int) 2 := by
    intro s h1 h2
    unfold readS
    rw [h1, if_pos (List.length_pos_iff.2 ho)]
    unfold contS peekS
    rw [h2, hk]
    rfl
  by_cases h0 : u = []
  · subst h0
    exact ⟨_, End.bad rfl (key (st k op nodes) rfl rfl)⟩
  · have h1 := text_d (L := L) (nodes := nodes) hu h0 ho h hT
    exact ⟨_, h1.fin (End.bad rfl (key _ rfl rfl))⟩
end Go.Proofs.YtjcgnbmpnaapdaaDoor.M
namespace Go.Proofs.YtjcgnbmpnaapdaaDoor.M
open Go.Proofs.YtjcgnbmpnaapdaaDoor
set_option linter.unusedVariables false

theorem closes_len (ws : List Bs) : (closes ws).length = (opens ws).length + ws.length := by
  induction ws with
  | nil => rfl
  | cons w ws ih => simp [closes, opens, ih]; omega
theorem opens_app (u v : List Bs) : opens (u ++ v) = opens u ++ opens v := by
  induction u with
  | nil => rfl
  | cons w ws ih => simp [opens, ih]
theorem closes_app (u v : List Bs) : closes (u ++ v) = closes u ++ closes v := by
  induction u with
  | nil => rfl
  | cons w ws ih => simp [closes, ih]
/-- All of a row of names is opened. -/
theorem opens_all {b t : Bs} {L : Lm} {ws : List Bs} (h0 : ws ≠ []) (hw : ∀ w ∈ ws, Nm w ∧ (w.length : Int) ≤ L.T) (hD : (ws.length : Int) ≤ L.D) (hN : (ws.length : Int) ≤ L.N) (h : b = opens ws ++ t) : Run b L s0 (starts 0 ws) (st (opens ws).length ws ws.length) := by
  obtain ⟨w, ws, rfl⟩ := List.exists_cons_of_ne_nil h0
  have hw1 := hw w (by simp)
  simp only [List.length_cons] at hD hN
  have h' : b = 60 :: (w ++ 62 :: (opens ws ++ t)) := by rw [h]; simp [opens]
  have r1 := first_open (L := L) hw1.1 hw1.2 (by omega) (by omega) h'
  have hd : b.drop (w.length + 2) = opens ws ++ t := by
    have q := d_app (b := b) (k := 0) (l := 60 :: (w ++ [62])) (t := opens ws ++ t) (by rw [h']; simp)
    rw [← q]
    congr 1
    simp
  have r2 := opens_run (L := L) (ws := ws) (op := [w]) (nodes := 1) (fun x hx => hw x (by simp [hx])) (by simp) (by simp; omega) (by omega) hd
  have r3 := r1.trans r2
  have e1 : w.length + 2 + (opens ws).length = (opens (w :: ws)).length := by simp [opens]; omega
  have e2 : (1 : Int) + (ws.length : Int) = ((w :: ws).length : Int) := by simp; omega
  rw [e1, e2] at r3
  have e3 : starts 0 (w :: ws) = [⟨1, 0, w, [], []⟩] ++ starts (w.length + 2) ws := by simp [starts]
  rw [e3]
  exact r3
theorem nest_all {L : Lm} {ws : List Bs} (h0 : ws ≠ []) (hw : ∀ w ∈ ws, Nm w ∧ (w.length : Int) ≤ L.T) (hD : (ws.length : Int) ≤ L.D) (hN : (ws.length : Int) ≤ L.N) (hl : (opens ws ++ closes ws.reverse).length ≤ 65536) :
    allB (opens ws ++ closes ws.reverse) L = (starts 0 ws ++ ends (opens ws).length ws.reverse, 0, 0) := by
  have r1 := opens_all (L := L) h0 hw hD hN rfl (t := closes ws.reverse)
  have hd : (opens ws ++ closes ws.reverse).drop (opens ws).length = closes ws.reverse ++ [] := by simp
  have r2 := closes_run (L := L) (ws := ws.reverse) (op := []) (nodes := ws.length) (fun w hx => hw w (by simpa using hx)) hd
  rw [List.nil_append, List.reverse_reverse] at r2
  have hp : 0 < ws.length := List.length_pos_iff.2 h0
  have hcl := closes_len ws.reverse
  rw [List.length_reverse] at hcl
  have r3 := (r1.trans r2).fin (end_st (by rw [List.length_append]) (by omega) (by omega))
  rw [r3.all hl]
  simp
theorem deep_many {t : Bs} {L : Lm} {ws : List Bs} {w : Bs} (h0 : ws ≠ []) (hw : ∀ w ∈ ws, Nm w ∧ (w.length : Int) ≤ L.T) (hw1 : Nm w) (hD : (ws.length : Int) = L.D) (hN : (ws.length : Int) ≤ L.N) (hl : (opens ws ++ 60 :: (w ++ t)).length ≤ 65536) :
    allB (opens ws ++ 60 :: (w ++ t)) L = (starts 0 ws, ((opens ws).length : Int), 3) := by
  have r1 := opens_all (L := L) h0 hw (by omega) hN rfl (t := 60 :: (w ++ t))
  have hd : (opens ws ++ 60 :: (w ++ t)).drop (opens ws).length = 60 :: (w ++ t) := by simp
  have hb : readS (opens ws ++ 60 :: (w ++ t)) L (st (opens ws).length ws ws.length) = .bad (opens ws).length 3 := by
    rw [cont_tag hw1 h0 hd]
    exact tag_m hw1 hD (d_tail hd)
  have r3 := r1.fin (End.bad rfl hb)
  rw [r3.all hl]
  simp
/-- An end that has another name. -/
theorem mis_all {t : Bs} {L : Lm} {pre us : List Bs} {y x : Bs} (hw : ∀ w ∈ pre ++ y :: us, Nm w ∧ (w.length : Int) ≤ L.T) (hx : Nm x) (hxT : (x.length : Int) ≤ L.T) (hxy : x ≠ y) (hD : ((pre ++ y :: us).length : Int) ≤ L.D) (hN : ((pre ++ y :: us).length : Int) ≤ L.N)
    (hl : (opens (pre ++ y :: us) ++ (closes us.reverse ++ 60 :: 47 :: (x ++ 62 :: t))).length ≤ 65536) :
    ∃ es, allB (opens (pre ++ y :: us) ++ (closes us.reverse ++ 60 :: 47 :: (x ++ 62 :: t))) L = (es, (((opens (pre ++ y :: us)).length + (closes us.reverse).length : Nat) : Int), 2) := by
  have r1 := opens_all (L := L) (by simp) hw hD hN rfl (t := closes us.reverse ++ 60 :: 47 :: (x ++ 62 :: t))
  generalize hb : opens (pre ++ y :: us) ++ (closes us.reverse ++ 60 :: 47 :: (x ++ 62 :: t)) = b at *
  have hd : b.drop (opens (pre ++ y :: us)).length = closes us.reverse ++ 60 :: 47 :: (x ++ 62 :: t) := by rw [← hb]; simp
  have r2 := closes_run (L := L) (ws := us.reverse) (op := pre ++ [y]) (nodes := (pre ++ y :: us).length) (fun w hx => hw w (by simp at hx; simp [hx])) hd
  rw [List.reverse_reverse, List.append_assoc, List.singleton_append] at r2
  have hd2 := d_app hd
  have hbd : readS b L (st ((opens (pre ++ y :: us)).length + (closes us.reverse).length) (pre ++ [y]) (pre ++ y :: us).length) = .bad ((opens (pre ++ y :: us)).length + (closes us.reverse).length : Nat) 2 := by
    rw [cont_end (by simp [st]) hd2]
    exact end_x hx hxT (by simpa [st] using hxy) (d_tail (d_tail hd2))
  have r3 := (r1.trans r2).fin (End.bad rfl hbd)
  exact ⟨_, r3.all hl⟩
/-! Elements side by side. -/
theorem attr_bad {b t u z : Bs} {T : Int} {k : Nat} (hu : Rt u) (hz : Stuck z) (hT : (u.length : Int) ≤ T) (hT1 : 1 ≤ T) (h : b.drop k = 118 :: 61 :: 34 :: (escS true (u ++ z) ++ 34 :: t)) : ∃ p, attrS b T [] k = .bad p 2 := by
  have l1 : Lk b k 118 _ := .mk' h (by decide)
  have l2 : Lk b (k + 1) 61 _ := .mk' l1.tl (by decide)
  have l3 : Lk b (k + 1 + 1) 34 _ := .mk' l2.tl (by decide)
  obtain ⟨p, hp⟩ := val_bad hu hz l3.d hT
  refine ⟨p, ?_⟩
  unfold attrS
  rw [name_d (w := [118]) h (by simp) (by decide) (by decide) (by decide) (by decide) (by simpa using hT1)]
  simp only [R.bind, List.length_cons, List.length_nil]
  rw [l2.peek]
  simp only
  rw [if_neg (by simp)]
  unfold eqS
  rw [l2.blanks0 (by decide)]
  simp only [R.bind]
  rw [l2.sign]
  simp only
  rw [l3.blanks0 (by decide)]
  simp only
  rw [hp]
theorem tag_bad {b t w v z : Bs} {L : Lm} {s : S} {lt0 k : Nat} (hw : Nm w) (hv : Rt v) (hz : Stuck z) (hTv : (v.length : Int) ≤ L.T) (hA : 0 < L.A) (hT1 : 1 ≤ L.T) (hT : (w.length : Int) ≤ L.T) (hD : (s.op.length : Int) ≠ L.D) (hN : s.nodes ≠ L.N) (h : b.drop k = w ++ 32 :: 118 :: 61 :: 34 :: (escS true (v ++ z) ++ 34 :: t)) :
    ∃ p, tagS b L s lt0 k = .bad p 2 := by
  obtain ⟨c, u, l, hs⟩ := hw.lk h
  have h2 := d_app h
  have l0 : Lk b (k + w.length) 32 _ := .mk' h2 (by decide)
  have l1 : Lk b (k + w.length + 1) 118 _ := .mk' l0.tl (by decide)
  obtain ⟨p, hp⟩ := attr_bad hv hz hTv hT1 l1.d
  refine ⟨p, ?_⟩
  unfold tagS
  rw [l.peek]
  simp only [R.q]
  rw [if_neg (by rw [hs]; simp), if_neg (by rintro (q | q); exact hD q; exact hN q), name_d h hw.ne hw.st hw.pt (by decide) (by decide) hT]
  simp only
  rw [attrsL, l0.blanks1 l1 (by decide)]
  simp only [R.bind]
  rw [l1.peek]
  simp only
  rw [if_neg (by decide), if_neg (by decide), if_neg (by decide), if_neg (by simp; omega), hp]
def item (w v x : Bs) (t : Bs) : Bs := 60 :: (w ++ 32 :: 118 :: 61 :: 34 :: (escS true v ++ 34 :: 62 :: (escS false x ++ 60 :: 47 :: (w ++ 32 :: 62 :: t))))
def items : List (Bs × Bs × Bs) → Bs → Bs
  | [], t => t
  | p :: l, t => item p.1 p.2.1 p.2.2 (items l t)
def MadeEv : List (Bs × Bs × Bs) → List Ev → Prop
  | [], es => es = []
  | p :: l, es => ∃ k1 k2 k3 k4 es', es = ⟨1, k1, p.1, [], [⟨[118], p.2.1, k2⟩]⟩ :: ⟨3, k3, [], p.2.2, []⟩ :: ⟨2, k4, p.1, [], []⟩ :: es' ∧ MadeEv l es'
/-- What an item's parts must be. -/
structure ItOk (T : Int) (p : Bs × Bs × Bs) : Prop where
  nm : Nm p.1
  nl : (p.1.length : Int) ≤ T
  vl : (p.2.1.length : Int) ≤ T
  xl : (p.2.2.length : Int) ≤ T
  vb : ∀ c ∈ p.2.1, 0 ≤ c ∧ c < 256
  xb : ∀ c ∈ p.2.2, 0 ≤ c ∧ c < 256
  x0 : p.2.2 ≠ []
theorem items_run {b : Bs} {L : Lm} (hA : 0 < L.A) (hT1 : 1 ≤ L.T) (hD1 : L.D ≠ 1) : ∀ {l : List (Bs × Bs × Bs)} {t : Bs} {k : Nat} {nodes : Int}, (∀ p ∈ l, ItOk L.T p) → nodes + l.length ≤ L.N → b.drop k = items l t →
    (∃ es k', MadeEv l es ∧ Run b L (st k [[114]] nodes) es (st k' [[114]] (nodes + l.length)) ∧ b.drop k' = t) ∨ (∃ es p, End b L (st k [[114]] nodes) es p 2)
  | [], t, k, nodes, hp, hN, h => .inl ⟨[], k, rfl, by simpa using Run.refl, h⟩
  | p :: l, t, k, nodes, hp, hN, h => by
    have q := hp p (by simp)
    obtain ⟨w, v, x⟩ := p
    simp only [List.length_cons] at hN
    have h' : b.drop k = 60 :: (w ++ 32 :: 118 :: 61 :: 34 :: (escS true v ++ 34 :: 62 :: (escS false x ++ 60 :: 47 :: (w ++ 32 :: 62 :: items l t)))) := h
    have ct := cont_tag (L := L) (s := st k [[114]] nodes) q.nm (by simp [st]) h'
    rcases rt_or _ v (Nat.le_refl _) q.vb with hv | ⟨u, z, rfl, hu, hz⟩
    · have r1 : Run b L (st k [[114]] nodes) [⟨1, k, w, [], [⟨[118], v, (k + 1 + w.length + 1 : Nat)⟩]⟩] (st (k + 1 + w.length + (escS true v).length + 6) ([[114]] ++ [w]) (nodes + 1)) := by
        refine run_st ?_
        rw [ct]
        exact tag_1 q.nm hv q.vl hA hT1 q.nl (by simp only [st, List.length_cons, List.length_nil]; omega) (by simp only [st]; omega) (d_tail h')
      have hd : b.drop (k + 1 + w.length + (escS true v).length + 6) = escS false x ++ 60 :: 47 :: (w ++ 32 :: 62 :: items l t) := by
        have q := d_app (b := b) (k := k) (l := 60 :: (w ++ 32 :: 118 :: 61 :: 34 :: (escS true v ++ [34, 62]))) (t := escS false x ++ 60 :: 47 :: (w ++ 32 :: 62 :: items l t)) (by rw [h']; simp)
        rw [← q]
        congr 1
        simp
        omega
      rcases rt_or _ x (Nat.le_refl _) q.xb with hx | ⟨u, z, rfl, hu, hz⟩
      · have hd2 := d_app hd
        have r2 := run_text (L := L) (nodes := nodes + 1) (nodes' := nodes + 1) (op' := [[114]]) (k' := k + 1 + w.length + (escS true v).length + 6 + (escS false x).length + 2 + w.length + 2) (tag := [⟨2, (k + 1 + w.length + (escS true v).length + 6 + (escS false x).length : Nat), w, [], []⟩]) hx (op := [[114]] ++ [w]) (by simp) hd q.xl (fun s ho hk hn => by
          rw [← hk] at hd2
          rw [cont_end (by rw [ho]; simp) hd2, end_1 q.nm q.nl (by rw [ho]; rfl) (d_tail (d_tail hd2)), ho, hk, ← hn]
          rfl)
        rw [if_neg q.x0] at r2
        have hd3 := d_tail (d_tail (d_app (d_tail (d_tail hd2))))
        have r3 := r1.trans r2
        rcases items_run (L := L) hA hT1 hD1 (l := l) (t := t) (nodes := nodes + 1) (fun p h => hp p (by simp [h])) (by omega) hd3 with ⟨es, k', hm, hr, hk⟩ | ⟨es, p, he⟩
        · have r4 := r3.trans hr
          have e2 : nodes + 1 + (l.length : Int) = nodes + (((w, v, x) :: l).length : Int) := by simp; omega
          rw [e2] at r4
          exact .inl ⟨_, k', ⟨_, _, _, _, es, rfl, hm⟩, r4, hk⟩
        · exact .inr ⟨_, p, r3.fin he⟩
      · have hlen := q.xl
        simp only [List.length_append] at hlen
        obtain ⟨p, he⟩ := text_bad (L := L) (nodes := nodes + 1) hu hz (op := [[114]] ++ [w]) (by simp) hd (by omega)
        exact .inr ⟨_, p, r1.fin he⟩
    · have hlen := q.vl
      simp only [List.length_append] at hlen
      obtain ⟨p, he⟩ := tag_bad (L := L) (s := st k [[114]] nodes) (lt0 := k) q.nm hu hz (by omega) hA hT1 q.nl (by simp only [st, List.length_cons, List.length_nil]; omega) (by simp only [st]; omega) (d_tail h')
      refine .inr ⟨[], p, End.bad rfl ?_⟩
      rw [ct]
      exact he
def madeDoc (l : List (Bs × Bs × Bs)) : Bs := 60 :: 114 :: 62 :: items l [60, 47, 114, 62]
theorem nm_r : Nm [114] := ⟨by simp, by decide, by decide⟩
theorem made_doc {L : Lm} {l : List (Bs × Bs × Bs)} (hA : 0 < L.A) (hT1 : 1 ≤ L.T) (hD0 : L.D ≠ 0) (hD1 : L.D ≠ 1) (hN : (l.length : Int) + 1 ≤ L.N) (hp : ∀ p ∈ l, ItOk L.T p) (hl : (madeDoc l).length ≤ 65536) :
    (allB (madeDoc l) L).2.2 = 2 ∨ ∃ k k' es, MadeEv l es ∧ allB (madeDoc l) L = (⟨1, k, [114], [], []⟩ :: (es ++ [⟨2, k', [114], [], []⟩]), 0, 0) := by
  have h : madeDoc l = 60 :: ([114] ++ 62 :: items l [60, 47, 114, 62]) := rfl
  have r1 := first_open (L := L) nm_r hT1 hD0 (by omega) h
  have hd : (madeDoc l).drop ([114].length + 2) = items l [60, 47, 114, 62] := rfl
  rcases items_run (nodes := 1) hA hT1 hD1 hp (by omega) hd with ⟨es, k', hm, hr, hk⟩ | ⟨es, p, he⟩
  · refine .inr ⟨0, k', es, hm, ?_⟩
    have r2 : Run (madeDoc l) L (st k' [[114]] (1 + l.length)) [⟨2, k', [114], [], []⟩] (st (k' + 4) [] (1 + l.length)) := by
      refine run_st ?_
      rw [cont_end (by simp [st]) hk]
      exact end_0 (w := [114]) (t := []) nm_r hT1 rfl (d_tail (d_tail hk))
    have hlen := d_len hk (by simp)
    simp only [List.length_cons, List.length_nil] at hlen
    have r3 := ((r1.trans hr).trans r2).fin (end_st (by omega) (by omega) (by omega))
    rw [r3.all hl]
    simp
  · left
    rw [(r1.fin he).all hl]
end Go.Proofs.YtjcgnbmpnaapdaaDoor.M
namespace Go.Proofs.YtjcgnbmpnaapdaaDoor.M
open Go.Proofs.YtjcgnbmpnaapdaaDoor
set_option linter.unusedVariables false

theorem starts_len : ∀ (k : Nat) (ws : List Bs), (starts k ws).length = ws.length
  | k, [] => rfl
  | k, w :: ws => by rw [starts, List.length_cons, starts_len, List.length_cons]
theorem ends_len : ∀ (k : Nat) (ws : List Bs), (ends k ws).length = ws.length
  | k, [] => rfl
  | k, w :: ws => by rw [ends, List.length_cons, ends_len, List.length_cons]
abbrev rp (n : Nat) : List Bs := List.replicate n [97]
theorem rp_succ (n : Nat) : rp (n + 1) = rp n ++ [[97]] := List.replicate_succ'
theorem opens_rp (n : Nat) : opens (rp (n + 1)) = opens (rp n) ++ [60, 97, 62] := by rw [rp_succ, opens_app]; rfl
theorem closes_rp (n : Nat) : closes (rp (n + 1)) = closes (rp n) ++ [60, 47, 97, 62] := by rw [rp_succ, closes_app]; rfl
theorem opens_rp_len (n : Nat) : (opens (rp n)).length = 3 * n := by
  induction n with
  | zero => rfl
  | succ n ih => rw [opens_rp, List.length_append, ih]; simp; omega
theorem closes_rp_len (n : Nat) : (closes (rp n)).length = 4 * n := by
  induction n with
  | zero => rfl
  | succ n ih => rw [closes_rp, List.length_append, ih]; simp; omega
theorem starts_at : ∀ (n k i : Nat), i < n → ∃ e, (starts k (rp n))[i]? = some e ∧ e.kind = 1 ∧ e.place = ((k + 3 * i : Nat) : Int)
  | 0, k, i, h => by omega
  | n + 1, k, 0, h => ⟨_, by rw [rp, List.replicate_succ, starts]; rfl, rfl, rfl⟩
  | n + 1, k, i + 1, h => by
    obtain ⟨e, h1, h2, h3⟩ := starts_at n (k + 3) i (by omega)
    refine ⟨e, ?_, h2, ?_⟩
    · rw [rp, List.replicate_succ, starts, List.getElem?_cons_succ]; exact h1
    · rw [h3]; congr 1; omega
theorem ends_at : ∀ (n k i : Nat), i < n → ∃ e, (ends k (rp n))[i]? = some e ∧ e.kind = 2 ∧ e.place = ((k + 4 * i : Nat) : Int)
  | 0, k, i, h => by omega
  | n + 1, k, 0, h => ⟨_, by rw [rp, List.replicate_succ, ends]; rfl, rfl, rfl⟩
  | n + 1, k, i + 1, h => by
    obtain ⟨e, h1, h2, h3⟩ := ends_at n (k + 4) i (by omega)
    refine ⟨e, ?_, h2, ?_⟩
    · rw [rp, List.replicate_succ, ends, List.getElem?_cons_succ]; exact h1
    · rw [h3]; congr 1; omega
theorem rp_nm {n : Nat} {L : Lm} (hT : 1 ≤ L.T) : ∀ w ∈ rp n, Nm w ∧ (w.length : Int) ≤ L.T := by
  intro w hw
  have := List.eq_of_mem_replicate hw
  subst this
  exact ⟨nm_a, hT⟩
theorem rp_rev (n : Nat) : (rp n).reverse = rp n := List.reverse_replicate
/-- So many tags, no more than may be. -/
theorem deep_in {L : Lm} {n : Nat} (hn : 1 ≤ n) (hT : 1 ≤ L.T) (hD : (n : Int) ≤ L.D) (hN : (n : Int) ≤ L.N) (h1 : n ≤ 100) :
    ∃ es, allB (opens (rp n) ++ closes (rp n)) L = (es, 0, 0) ∧ es.length = 2 * n ∧ ∀ i, i < n → ∃ e1 e2, es[i]? = some e1 ∧ e1.place = ((3 * i : Nat) : Int) ∧ es[n + i]? = some e2 ∧ e2.place = ((3 * n + 4 * i : Nat) : Int) ∧ e2.kind = 2 := by
  have h := nest_all (L := L) (ws := rp n) (by intro h; have := congrArg List.length h; simp at this; omega) (rp_nm hT) (by simpa using hD) (by simpa using hN) (by rw [rp_rev, List.length_append, opens_rp_len, closes_rp_len]; omega)
  rw [rp_rev, opens_rp_len] at h
  refine ⟨_, h, by rw [List.length_append, starts_len, ends_len]; simp; omega, fun i hi => ?_⟩
  obtain ⟨e1, a1, a2, a3⟩ := starts_at n 0 i hi
  obtain ⟨e2, b1, b2, b3⟩ := ends_at n (3 * n) i hi
  have l1 : (starts 0 (rp n)).length = n := by rw [starts_len]; simp
  refine ⟨e1, e2, ?_, by rw [a3]; congr 1; omega, ?_, b3, b2⟩
  · rw [List.getElem?_append_left (by omega)]; exact a1
  · rw [List.getElem?_append_right (by omega), l1, Nat.add_sub_cancel_left]; exact b1
theorem rp_split {d n : Nat} (h : d < n) : rp n = rp d ++ ([97] :: rp (n - d - 1)) := by
  have e : n = d + (1 + (n - d - 1)) := by omega
  conv => lhs; rw [e]
  rw [rp, ← List.replicate_append_replicate, ← List.replicate_append_replicate]
  rfl
/-- One more than may be. -/
theorem deep_out {L : Lm} {d n : Nat} (hd : 1 ≤ d) (hT : 1 ≤ L.T) (hD : (d : Int) = L.D) (hN : (d : Int) ≤ L.N) (h : d < n) (h1 : n ≤ 100) :
    ∃ es, allB (opens (rp n) ++ closes (rp n)) L = (es, ((3 * d : Nat) : Int), 3) ∧ es.length = d := by
  have e : opens (rp n) ++ closes (rp n) = opens (rp d) ++ 60 :: ([97] ++ (62 :: (opens (rp (n - d - 1)) ++ closes (rp n)))) := by
    conv => lhs; rw [show opens (rp n) = opens (rp d) ++ opens ([97] :: rp (n - d - 1)) by rw [← opens_app, ← rp_split h]]
    simp [opens]
  have hl : (opens (rp n) ++ closes (rp n)).length ≤ 65536 := by rw [List.length_append, opens_rp_len, closes_rp_len]; omega
  rw [e] at hl ⊢
  have q := deep_many (L := L) (ws := rp d) (w := [97]) (by intro h; have := congrArg List.length h; simp at this; omega) (rp_nm hT) nm_a (by simpa using hD) (by simpa using hN) hl
  rw [opens_rp_len] at q
  exact ⟨_, q, by rw [starts_len]; simp⟩
end Go.Proofs.YtjcgnbmpnaapdaaDoor.M
namespace Go.Proofs.YtjcgnbmpnaapdaaDoor.M
open Go.Proofs.YtjcgnbmpnaapdaaDoor
set_option linter.unusedVariables false

/-- The name of a number. -/
def nmOf (c : Int) : Bs := [110, 97 + c % 26]
theorem nm_of (c : Int) : Nm (nmOf c) := by
  have h1 : 0 ≤ c % 26 := Int.emod_nonneg c (by omega)
  have h2 : c % 26 < 26 := Int.emod_lt_of_pos c (by omega)
  have hs : isStart (97 + c % 26) = true := by unfold isStart; simp; omega
  refine ⟨by simp [nmOf], (by decide : isStart 110 = true), fun x hx => ?_⟩
  simp [nmOf] at hx
  rcases hx with rfl | rfl
  · decide
  · refine ⟨by unfold isPart; simp [hs], start_char hs, by omega⟩
theorem nmOf_inj {c d : Int} : nmOf c = nmOf d ↔ c % 26 = d % 26 := by
  unfold nmOf
  simp
theorem set_rev {α : Type} (ws : List α) (k : Nat) (x : α) (h : k < ws.length) : (ws.set k x).reverse = (ws.drop (k + 1)).reverse ++ x :: (ws.take k).reverse := by
  have e : ws.set k x = ws.take k ++ x :: ws.drop (k + 1) := by
    rw [List.set_eq_take_append_cons_drop, if_pos h]
  rw [e]
  simp
def misD (ws : List Bs) (k : Nat) (x : Bs) : Bs := opens ws ++ closes (ws.set k x).reverse
theorem opens_len2 (ws : List Bs) (h : ∀ w ∈ ws, w.length = 2) : (opens ws).length = 4 * ws.length := by
  induction ws with
  | nil => rfl
  | cons w ws ih =>
    have := h w (by simp)
    simp [opens, this, ih (fun x hx => h x (by simp [hx]))]
    omega
theorem mis_len {ws : List Bs} {k : Nat} {x : Bs} (h : ∀ w ∈ ws, w.length = 2) (hx : x.length = 2) : (misD ws k x).length = 9 * ws.length := by
  unfold misD
  rw [List.length_append, closes_len, opens_len2 ws h, opens_len2, List.length_reverse, List.length_set]
  · omega
  · intro w hw
    rw [List.mem_reverse] at hw
    rcases List.mem_or_eq_of_mem_set hw with q | q
    · exact h w q
    · rw [q]; exact hx
theorem mis_same {L : Lm} {ws : List Bs} {k : Nat} {x : Bs} (h0 : ws ≠ []) (hx : ws[k]? = some x) (hw : ∀ w ∈ ws, Nm w ∧ (w.length : Int) ≤ L.T) (hD : (ws.length : Int) ≤ L.D) (hN : (ws.length : Int) ≤ L.N) (hl : (misD ws k x).length ≤ 65536) :
    (allB (misD ws k x) L).2.2 = 0 := by
  have e : ws.set k x = ws := by
    apply List.ext_getElem?
    intro i
    rw [List.getElem?_set]
    split
    · rename_i hi
      subst hi
      have hlt := (List.getElem?_eq_some_iff.1 hx).1
      rw [if_pos hlt, hx]
    · rfl
  unfold misD at hl ⊢
  rw [e] at hl ⊢
  rw [nest_all h0 hw hD hN hl]
theorem mis_diff {L : Lm} {ws : List Bs} {k : Nat} {x y : Bs} (hy : ws[k]? = some y) (hx : Nm x) (hxT : (x.length : Int) ≤ L.T) (hxy : x ≠ y) (hw : ∀ w ∈ ws, Nm w ∧ (w.length : Int) ≤ L.T) (hD : (ws.length : Int) ≤ L.D) (hN : (ws.length : Int) ≤ L.N) (hl : (misD ws k x).length ≤ 65536) :
    (allB (misD ws k x) L).2 = ((((opens ws).length + (closes (ws.drop (k + 1)).reverse).length : Nat) : Int), 2) := by
  obtain ⟨hk, hyk⟩ := List.getElem?_eq_some_iff.1 hy
  have e : ws = ws.take k ++ y :: ws.drop (k + 1) := by
    rw [← hyk, List.getElem_cons_drop, List.take_append_drop]
  have e2 : misD ws k x = opens ws ++ (closes (ws.drop (k + 1)).reverse ++ 60 :: 47 :: (x ++ 62 :: closes (ws.take k).reverse)) := by
    unfold misD
    rw [set_rev ws k x hk, closes_app]
    rfl
  rw [e2] at hl ⊢
  have q := mis_all (L := L) (t := closes (ws.take k).reverse) (pre := ws.take k) (us := ws.drop (k + 1)) (y := y) (x := x) (by rw [← e]; exact hw) hx hxT hxy (by rw [← e]; exact hD) (by rw [← e]; exact hN) (by rw [← e]; exact hl)
  rw [← e] at q
  obtain ⟨es, hq⟩ := q
  rw [hq]
end Go.Proofs.YtjcgnbmpnaapdaaDoor.M
