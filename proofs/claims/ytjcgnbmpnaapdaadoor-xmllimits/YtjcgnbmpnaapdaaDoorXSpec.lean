/- The plain functions of package xml's scanner and parser, on lists of bytes and places. -/
import Derived.Test.YtjcgnbmpnaapdaaDoorSpec
namespace Go.Proofs.YtjcgnbmpnaapdaaDoor

abbrev Bs := List Int
def lt (b : Bs) (k : Nat) : Int := (dec (b.drop k)).1
def ln (b : Bs) (k : Nat) : Nat := (dec (b.drop k)).2.toNat
def okl (b : Bs) (k : Nat) : Bool := isChar (lt b k)

/-- A result and the new place; or a fault. -/
inductive R (α : Type) where
  | ok (a : α) (k : Nat)
  | bad (place : Int) (err : Int)
  deriving Repr, DecidableEq
def R.bind {α β : Type} (x : R α) (f : α → Nat → R β) : R β := match x with | .ok a k => f a k | .bad p e => .bad p e

def peekS (b : Bs) (k : Nat) : R Int := if okl b k = true then .ok (lt b k) k else .bad k 2
def takeS (b : Bs) (k : Nat) : R Int := if okl b k = true then .ok (lt b k) (k + ln b k) else .bad k 2
def lineS (b : Bs) (k : Nat) : R Int :=
  (takeS b k).bind fun r k' => if r = 13 then (if k' < b.length ∧ b.getD k' 0 = 10 then .ok 10 (k' + 1) else .ok 10 k') else .ok r k'
def blkS : Nat → Bs → Nat → R Unit
  | 0, _, k => .ok () k
  | n + 1, b, k => if k = b.length then .ok () k else if okl b k = true then if isWhite (lt b k) = true then blkS n b (k + ln b k) else .ok () k else .bad k 2
def blanksS (b : Bs) (k : Nat) : R Bool := (blkS (b.length - k) b k).bind fun _ k' => .ok (decide (k < k')) k'
def wordS (b : Bs) (blame : Int) : List Int → Nat → R Unit
  | [], k => .ok () k
  | c :: cs, k => (takeS b k).bind fun r k' => if r = c then wordS b blame cs k' else .bad blame 2
def signS (b : Bs) (r : Int) (k : Nat) : R Unit := if okl b k = true ∧ lt b k = r then .ok () (k + ln b k) else .bad k 2
def nmS : Nat → Bs → Int → Nat → Nat → R Unit
  | 0, _, _, _, j => .ok () j
  | n + 1, b, T, k, j => if j = b.length then .ok () j else if okl b j = true then
      if isPart (lt b j) = true then if T < ((j + ln b j : Nat) : Int) - k then .bad k 3 else nmS n b T k (j + ln b j) else .ok () j
    else .bad j 2
def sub (b : Bs) (k j : Nat) : Bs := (b.drop k).take (j - k)
def nameS (b : Bs) (T : Int) (k : Nat) : R Bs :=
  if okl b k = true ∧ isStart (lt b k) = true then (nmS (b.length - k) b T k k).bind fun _ j => .ok (sub b k j) j else .bad k 2
def quoteS (b : Bs) (k : Nat) : R Int := if okl b k = true ∧ (lt b k = 34 ∨ lt b k = 39) then .ok (lt b k) (k + ln b k) else .bad k 2
def digV (base r : Int) : Option Int :=
  if 48 ≤ r ∧ r ≤ 57 then some (r - 48) else if base = 16 ∧ 97 ≤ r ∧ r ≤ 102 then some (r - 97 + 10) else if base = 16 ∧ 65 ≤ r ∧ r ≤ 70 then some (r - 65 + 10) else none
def digitS (b : Bs) (base amp : Int) (k : Nat) : R Int :=
  (takeS b k).bind fun r k' => match digV base r with | some d => .ok d k' | none => .bad amp 2
def numL : Nat → Bs → Int → Int → Int → Nat → R Int
  | 0, _, _, _, _, _ => .bad (-1) 9
  | n + 1, b, base, amp, v, k => (peekS b k).bind fun r _ => if r = 59 then .ok v k else
      (digitS b base amp k).bind fun d k' => if 1114111 < v * base + d then .bad amp 2 else numL n b base amp (v * base + d) k'
def numB (b : Bs) (base amp : Int) (k : Nat) : R Int :=
  (digitS b base amp k).bind fun d k' => (numL (b.length + 1) b base amp d k').bind fun v k2 => (takeS b k2).bind fun _ k3 => if isChar v = true then .ok v k3 else .bad amp 2
def numberS (b : Bs) (amp : Int) (k : Nat) : R Int :=
  (peekS b k).bind fun r _ => if r = 120 then numB b 16 amp (k + ln b k) else numB b 10 amp k
def ampS (b : Bs) (amp : Int) (k : Nat) : R Int :=
  (peekS b k).bind fun r _ => if r = 109 then (wordS b amp [109, 112, 59] k).bind fun _ k' => .ok 38 k' else (wordS b amp [112, 111, 115, 59] k).bind fun _ k' => .ok 39 k'
def refS (b : Bs) (k : Nat) : R Int :=
  (takeS b k).bind fun _ k1 => (takeS b k1).bind fun r k2 =>
    if r = 35 then numberS b k k2
    else if r = 108 then (wordS b k [116, 59] k2).bind fun _ k' => .ok 60 k'
    else if r = 103 then (wordS b k [116, 59] k2).bind fun _ k' => .ok 62 k'
    else if r = 113 then (wordS b k [117, 111, 116, 59] k2).bind fun _ k' => .ok 34 k'
    else if r = 97 then ampS b k k2
    else .bad k 2

/-- What is put: the bytes so far, or the limit's fault. -/
def putS (T at0 : Int) (out : Bs) (r : Int) (k : Nat) : R Bs := if T < ((out ++ enc r).length : Int) then .bad at0 3 else .ok (out ++ enc r) k
def valL : Nat → Bs → Int → Int → Int → Bs → Nat → R Bs
  | 0, _, _, _, _, _, _ => .bad (-1) 9
  | n + 1, b, T, at0, q, out, k => (peekS b k).bind fun r _ =>
      if r = q then .ok out (k + ln b k)
      else if r = 60 then .bad k 2
      else if r = 38 then (refS b k).bind fun c k' => (putS T at0 out c k').bind fun o k2 => valL n b T at0 q o k2
      else if isWhite r = true then (lineS b k).bind fun _ k' => (putS T at0 out 32 k').bind fun o k2 => valL n b T at0 q o k2
      else (takeS b k).bind fun c k' => (putS T at0 out c k').bind fun o k2 => valL n b T at0 q o k2
def valueS (b : Bs) (T : Int) (k : Nat) : R Bs := (quoteS b k).bind fun q k' => valL (b.length + 1) b T k q [] k'
def eqS (b : Bs) (k : Nat) : R Unit := (blanksS b k).bind fun _ k1 => (signS b 61 k1).bind fun _ k2 => (blanksS b k2).bind fun _ k3 => .ok () k3

structure At where
  name : Bs
  value : Bs
  place : Int
  deriving Repr, DecidableEq
structure Ev where
  kind : Int
  place : Int
  name : Bs
  text : Bs
  attrs : List At
  deriving Repr, DecidableEq

def attrS (b : Bs) (T : Int) (ahead : List At) (k : Nat) : R At :=
  (nameS b T k).bind fun nm k1 => (peekS b k1).bind fun _ _ => if (ahead.any fun a => a.name == nm) = true then .bad k 2 else
    (eqS b k1).bind fun _ k2 => (valueS b T k2).bind fun v k3 => .ok ⟨nm, v, k⟩ k3

/-- A tag's attributes; whether it is empty; the place of its end. -/
def attrsL : Nat → Bs → Int → Int → List At → Nat → R (List At × Option Int)
  | 0, _, _, _, _, _ => .bad (-1) 9
  | n + 1, b, A, T, l, k => (blanksS b k).bind fun gap k1 => (peekS b k1).bind fun r _ =>
      if r = 62 then .ok (l, none) (k1 + ln b k1)
      else if r = 47 then (signS b 62 (k1 + ln b k1)).bind fun _ k2 => .ok (l, some k1) k2
      else if gap = false ∨ isStart r = false then .bad k1 2
      else if (l.length : Int) = A then .bad k1 3
      else (attrS b T l k1).bind fun a k2 => attrsL n b A T (l ++ [a]) k2

structure Lm where
  D : Int
  N : Int
  A : Int
  T : Int
/-- The parser's state. -/
structure S where
  k : Nat
  op : List Bs
  nodes : Int
  begun : Bool
  tat : Int
  tout : Bs
  ready : List Ev
  over : Bool
  deriving Repr, DecidableEq

inductive Q where
  | go (s : S)
  | bad (place err : Int)
  deriving Repr, DecidableEq
def R.q {α : Type} (x : R α) (f : α → Nat → Q) : Q := match x with | .ok a k => f a k | .bad p e => .bad p e

def tellS (s : S) (tag : List Ev) : S :=
  { s with ready := s.ready ++ (if 0 < s.tout.length then [⟨3, s.tat, [], s.tout, []⟩] else []) ++ tag, begun := false, tat := 0, tout := [] }
def tagS (b : Bs) (L : Lm) (s : S) (lt0 : Nat) (k : Nat) : Q :=
  (peekS b k).q fun r _ => if isStart r = false then .bad k 2 else if (s.op.length : Int) = L.D ∨ s.nodes = L.N then .bad lt0 3 else
    (nameS b L.T k).q fun nm k1 => (attrsL (b.length + 1) b L.A L.T [] k1).q fun p k2 => match p with
      | (l, none) => .go (tellS { s with nodes := s.nodes + 1, k := k2, op := s.op ++ [nm] } [⟨1, lt0, nm, [], l⟩])
      | (l, some sl) => .go (tellS { s with nodes := s.nodes + 1, k := k2 } [⟨1, lt0, nm, [], l⟩, ⟨2, sl, nm, [], []⟩])
def endS (b : Bs) (L : Lm) (s : S) (lt0 : Nat) (k : Nat) : Q :=
  (nameS b L.T k).q fun nm k1 =>
    if nm ≠ s.op.getLastD [] ∧ ¬ (k1 = b.length ∧ (s.op.getLastD []).take nm.length = nm) then .bad lt0 2 else
    (blanksS b k1).q fun _ k2 => (signS b 62 k2).q fun _ k3 => .go (tellS { s with k := k3, op := s.op.dropLast } [⟨2, lt0, nm, [], []⟩])
def beginS (s : S) (at0 : Int) : S := if s.begun = true then s else { s with begun := true, tat := at0, tout := [] }
def putQ (L : Lm) (s : S) (r : Int) (k : Nat) : Q := (putS L.T s.tat s.tout r k).q fun o k' => .go { s with tout := o, k := k' }

/-- A note, from behind its mark on. -/
def noteL : Nat → Bs → Nat → Nat → R Unit
  | 0, _, _, _ => .bad (-1) 9
  | n + 1, b, d, k => (takeS b k).bind fun r k' => if d = 2 then (if r = 62 then .ok () k' else .bad ((k : Int) - 2) 2) else if r = 45 then noteL n b (d + 1) k' else noteL n b 0 k'
def noteS (b : Bs) (lt0 : Int) (k : Nat) : R Unit := (wordS b lt0 [45, 45] k).bind fun _ k' => noteL (b.length + 1) b 0 k'
/-- Is a name xml, in any letters? -/
def foldX (nm : Bs) : Bool := decide (nm.length = 3 ∧ (nm.getD 0 0 = 120 ∨ nm.getD 0 0 = 88) ∧ (nm.getD 1 0 = 109 ∨ nm.getD 1 0 = 77) ∧ (nm.getD 2 0 = 108 ∨ nm.getD 2 0 = 76))
def instL : Nat → Bs → Bool → Nat → R Unit
  | 0, _, _, _ => .bad (-1) 9
  | n + 1, b, asked, k => (takeS b k).bind fun r k' => if asked = true ∧ r = 62 then .ok () k' else instL n b (r == 63) k'
def instS (b : Bs) (T : Int) (k : Nat) : R Unit :=
  (takeS b k).bind fun _ k1 => (nameS b T k1).bind fun nm k2 => (peekS b k2).bind fun _ _ => if foldX nm = true then .bad k1 2 else
    (blanksS b k2).bind fun gap k3 => if gap = true then instL (b.length + 1) b false k3 else (signS b 63 k3).bind fun _ k4 => signS b 62 k4
/-- So many brackets that were held come out. -/
def putR (T at0 : Int) : Nat → Bs → Nat → R Bs
  | 0, out, k => .ok out k
  | h + 1, out, k => (putS T at0 out 93 k).bind fun o _ => putR T at0 h o k
def cdL : Nat → Bs → Int → Int → Nat → Bs → Nat → R Bs
  | 0, _, _, _, _, _, _ => .bad (-1) 9
  | n + 1, b, T, at0, h, out, k => (lineS b k).bind fun r k' =>
      if r = 93 then (if h < 2 then cdL n b T at0 (h + 1) out k' else (putS T at0 out 93 k').bind fun o _ => cdL n b T at0 h o k')
      else if r = 62 ∧ h = 2 then .ok out k'
      else (putR T at0 h out k').bind fun o _ => (putS T at0 o r k').bind fun o2 _ => cdL n b T at0 0 o2 k'
def cdS (b : Bs) (L : Lm) (s : S) (lt0 : Nat) (k : Nat) : Q :=
  (wordS b lt0 [91, 67, 68, 65, 84, 65, 91] k).q fun _ k' => (cdL (b.length + 1) b L.T (beginS s lt0).tat 0 (beginS s lt0).tout k').q fun o k2 => .go { beginS s lt0 with tout := o, k := k2 }

def setS (b : Bs) (w : List Int) (val : Nat → R Unit) (k : Nat) : R Unit :=
  (wordS b k w k).bind fun _ k1 => (eqS b k1).bind fun _ k2 => (quoteS b k2).bind fun q k3 => (val k3).bind fun _ k4 => signS b q k4
def verS (b : Bs) (k : Nat) : R Unit := wordS b k [49, 46, 48] k
def encL (b : Bs) (blame : Int) : List (Int × Int) → Nat → R Unit
  | [], k => .ok () k
  | c :: cs, k => (takeS b k).bind fun r k' => if r = c.1 ∨ r = c.2 then encL b blame cs k' else .bad blame 2
def encS (b : Bs) (k : Nat) : R Unit := encL b k [(85, 117), (84, 116), (70, 102), (45, 45), (56, 56)] k
def staS (b : Bs) (k : Nat) : R Unit := (peekS b k).bind fun r _ => if r = 110 then wordS b k [110, 111] k else wordS b k [121, 101, 115] k
def dec1S (b : Bs) (gap : Bool) (k : Nat) : R Bool :=
  if gap = true then (peekS b k).bind fun r _ => if r = 101 then (setS b [101, 110, 99, 111, 100, 105, 110, 103] (encS b) k).bind fun _ k1 => blanksS b k1 else .ok true k else .ok false k
def dec2S (b : Bs) (gap : Bool) (k : Nat) : R Unit :=
  if gap = true then (peekS b k).bind fun r _ => if r = 115 then (setS b [115, 116, 97, 110, 100, 97, 108, 111, 110, 101] (staS b) k).bind fun _ k1 => (blanksS b k1).bind fun _ k2 => .ok () k2 else .ok () k else .ok () k
def declS (b : Bs) : R Unit :=
  (blanksS b 5).bind fun _ k1 => (setS b [118, 101, 114, 115, 105, 111, 110] (verS b) k1).bind fun _ k2 => (blanksS b k2).bind fun gap k3 =>
    (dec1S b gap k3).bind fun gap2 k4 => (dec2S b gap2 k4).bind fun _ k5 => (signS b 63 k5).bind fun _ k6 => signS b 62 k6
def isDecl (b : Bs) : Bool := decide (b.take 5 = [60, 63, 120, 109, 108] ∧ 5 < b.length ∧ isWhite (b.getD 5 0) = true)

def bangS (b : Bs) (L : Lm) (s : S) (lt0 : Nat) (k : Nat) : Q := (peekS b k).q fun r _ => if r = 91 then cdS b L s lt0 k else (noteS b lt0 k).q fun _ k' => .go { s with k := k' }
def markS (b : Bs) (L : Lm) (s : S) (lt0 : Nat) (k : Nat) : Q :=
  (peekS b k).q fun r _ => if r = 63 then (instS b L.T k).q fun _ k' => .go { s with k := k' } else if r = 33 then bangS b L s lt0 (k + ln b k) else if r = 47 then endS b L s lt0 (k + ln b k) else tagS b L s lt0 k
def contS (b : Bs) (L : Lm) (s : S) : Q :=
  (peekS b s.k).q fun r _ =>
    if r = 60 then markS b L s s.k (s.k + ln b s.k)
    else if r = 38 then (refS b s.k).q fun c k' => putQ L (beginS s s.k) c k'
    else if r = 62 ∧ 2 ≤ s.k ∧ b.getD (s.k - 1) 0 = 93 ∧ b.getD (s.k - 2) 0 = 93 then .bad ((s.k : Int) - 2) 2
    else (lineS b s.k).q fun c k' => putQ L (beginS s s.k) c k'
def outS (b : Bs) (L : Lm) (s : S) : Q :=
  (blanksS b s.k).q fun _ k1 => if k1 = b.length ∧ 0 < s.nodes then .go { s with k := k1, over := true } else
    (signS b 60 k1).q fun _ k2 => (peekS b k2).q fun r _ => if r = 63 then (instS b L.T k2).q fun _ k' => .go { s with k := k' } else if r = 33 then (noteS b k1 (k2 + ln b k2)).q fun _ k' => .go { s with k := k' } else if r = 47 then .bad k1 2 else
      if 0 < s.nodes then .bad k1 2 else tagS b L s k1 k2
def readS (b : Bs) (L : Lm) (s : S) : Q :=
  if 0 < s.op.length then contS b L s else if s.k = 0 ∧ isDecl b = true then (declS b).q fun _ k => outS b L { s with k := k } else outS b L s

/-- What Next answers: an event, or the end (0, 0) or a fault. -/
inductive Nx where
  | ev (e : Ev) (s : S)
  | fin (place err : Int)
  deriving Repr, DecidableEq
def nextS : Nat → Bs → Lm → S → Nx
  | 0, _, _, _ => .fin (-1) 9
  | n + 1, b, L, s => match s.ready with
    | e :: es => .ev e { s with ready := es }
    | [] => if s.over = true then .fin 0 0 else match readS b L s with
      | .go s' => nextS n b L s'
      | .bad p e => .fin p e
def allS : Nat → Bs → Lm → S → List Ev → List Ev × Int × Int
  | 0, _, _, _, acc => (acc, -1, 9)
  | n + 1, b, L, s, acc => match nextS (b.length + 2) b L s with
    | .fin p e => (acc, p, e)
    | .ev e s' => allS n b L s' (acc ++ [e])
def s0 : S := ⟨0, [], 0, false, 0, [], [], false⟩
def narS (own most : Int) : Int := if own ≤ 0 then most else min own most
def limS (d n a t : Int) : Lm := ⟨narS d 64, narS n 4096, narS a 64, narS t 4096⟩
def allB (b : Bs) (L : Lm) : List Ev × Int × Int := if 65536 < b.length then ([], 0, 3) else allS (4 * b.length + 3) b L s0 []
def escS (attr : Bool) : Bs → Bs
  | [] => []
  | c :: cs => (if c = 38 then [38, 97, 109, 112, 59] else if c = 60 then [38, 108, 116, 59] else if c = 62 then [38, 103, 116, 59] else if c = 13 then [38, 35, 120, 68, 59]
      else if attr = true ∧ c = 34 then [38, 113, 117, 111, 116, 59] else if attr = true ∧ c = 9 then [38, 35, 120, 57, 59] else if attr = true ∧ c = 10 then [38, 35, 120, 65, 59] else [c]) ++ escS attr cs
end Go.Proofs.YtjcgnbmpnaapdaaDoor
