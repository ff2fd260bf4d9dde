/- Texts of moments and spans: plain. A text is a row of bytes; none: it is no such text. -/
import Derived.Test.YtijcbgjlofcdfaaCal2
namespace Go.Proofs.Ytijcbgjlofcdfaa
set_option linter.unusedVariables false

def isD (c : Int) : Bool := decide (48 ≤ c) && decide (c ≤ 57)
/-- How many digits stand ahead. -/
def dgs (l : List Int) : Nat := (l.takeWhile isD).length
/-- A row of digits as a number. -/
def dvl (l : List Int) : Int := l.foldl (fun v c => 10 * v + (c - 48)) 0
def tkB (c : Int) (l : List Int) : Option (List Int) := if l.head? = some c then some l.tail else none
def nmB (n : Nat) (l : List Int) : Option (Int × List Int) := if dgs l < n then none else some (dvl (l.take n), l.drop n)
def inB (lo hi : Int) (l : List Int) : Option (Int × List Int) := (nmB 2 l).bind fun x => if x.1 < lo ∨ hi < x.1 then none else some x
def yrB (l : List Int) : Option (Int × List Int) :=
  let neg := l.head? = some 45
  let t := if neg then l.tail else l
  if dgs t < 4 ∨ 9 < dgs t ∨ (4 < dgs t ∧ t.head? = some 48) then none
  else (nmB (dgs t) t).bind fun x => if x.1 = 0 then none else some (if neg then - x.1 else x.1, x.2)
def frB (l : List Int) : Option (Int × List Int) :=
  if l.head? = some 46 then
    if dgs l.tail < 1 ∨ 9 < dgs l.tail then none
    else (nmB (dgs l.tail) l.tail).map fun x => (x.1 * 10 ^ (9 - dgs l.tail), x.2)
  else some (0, l)
def clB (l : List Int) : Option ((Int × Int) × List Int) :=
  (inB 0 24 l).bind fun h => (tkB 58 h.2).bind fun l1 => (inB 0 59 l1).bind fun m => (tkB 58 m.2).bind fun l2 => (inB 0 59 l2).bind fun s => (frB s.2).bind fun f =>
    if h.1 = 24 ∧ (0 < m.1 ∨ 0 < s.1 ∨ 0 < f.1) then none else some ((3600 * h.1 + 60 * m.1 + s.1, f.1), f.2)
/-- The zone, or none; then the end. -/
def znB (l : List Int) : Option (Bool × Int) :=
  if l = [] then some (false, 0)
  else if l.head? = some 90 then (if l.tail = [] then some (true, 0) else none)
  else if l.head? = some 45 ∨ l.head? = some 43 then
    (inB 0 14 l.tail).bind fun h => (tkB 58 h.2).bind fun l1 => (inB 0 59 l1).bind fun n =>
      if (h.1 = 14 ∧ 0 < n.1) ∨ n.2 ≠ [] then none else some (true, if l.head? = some 45 then -(60 * h.1 + n.1) else 60 * h.1 + n.1)
  else none
/-- The front: a year, or dashes, or nothing. -/
def ftB (k : Int) (l : List Int) : Option (Int × List Int) :=
  if k = 1 ∨ k = 2 ∨ k = 4 ∨ k = 5 then yrB l
  else if k = 6 ∨ k = 8 then (tkB 45 l).map fun t => (2000, t)
  else if k = 7 then ((tkB 45 l).bind (tkB 45)).map fun t => (2000, t)
  else some (2000, l)
def mnB (k : Int) (l : List Int) : Option (Int × List Int) :=
  if k = 1 ∨ k = 2 ∨ k = 4 ∨ k = 6 ∨ k = 8 then (tkB 45 l).bind (inB 1 12) else some (1, l)
def dyB (k y m : Int) (l : List Int) : Option (Int × List Int) :=
  if k = 1 ∨ k = 2 ∨ k = 6 ∨ k = 7 then (tkB 45 l).bind (inB 1 (if k = 7 then 31 else lenL (lnY y) m)) else some (1, l)
def ckB (k : Int) (l : List Int) : Option ((Int × Int) × List Int) :=
  if k = 1 then (tkB 84 l).bind clB else if k = 3 then clB l else some ((0, 0), l)
/-- 24:00:00 is the next day's begin. -/
def nxM (a : Mo) : Mo :=
  if a.s = 86400 then
    (if a.k = 1 then ⟨a.k, bkY (civL (daysS a.y a.m a.d + 1)), (civM (daysS a.y a.m a.d + 1) : Nat), civD (daysS a.y a.m a.d + 1), 0, a.n, a.hz, a.z⟩ else { a with s := 0 })
  else a
/-- P602 of a kind from 1 to 8. -/
def prM (k : Int) (l : List Int) : Option Mo :=
  (ftB k l).bind fun y => (mnB k y.2).bind fun m => (dyB k y.1 m.1 m.2).bind fun d => (ckB k d.2).bind fun c => (znB c.2).map fun z => nxM ⟨k, y.1, m.1, d.1, c.1.1, c.1.2, z.1, z.2⟩
/-- Digits and a letter: where they don't stand, nothing is taken. none: ten digits or more. -/
def ptB (c : Int) (l : List Int) : Option ((Int × Bool) × List Int) :=
  if dgs l = 0 ∨ (l.drop (dgs l)).head? ≠ some c then some ((0, false), l)
  else if 9 < dgs l then none
  else some ((dvl (l.take (dgs l)), true), l.drop (dgs l + 1))
/-- Seconds: what stands behind T beyond hours and minutes; then the end. -/
def scB (l : List Int) : Option (Int × Int) :=
  if dgs l < 1 ∨ 9 < dgs l then none
  else (nmB (dgs l) l).bind fun s => (frB s.2).bind fun f => (tkB 83 f.2).bind fun r => if r = [] then some (s.1, f.1) else none
def tmB (l : List Int) : Option (Int × Int) :=
  (ptB 72 l).bind fun h => (ptB 77 h.2).bind fun m =>
    if m.2 = [] then (if h.1.2 || m.1.2 then some (3600 * h.1.1 + 60 * m.1.1, 0) else none)
    else (scB m.2).map fun s => (3600 * h.1.1 + 60 * m.1.1 + s.1, s.2)
/-- P604. -/
def prP (l : List Int) : Option Sp :=
  let neg := l.head? = some 45
  (tkB 80 (if neg then l.tail else l)).bind fun l0 => (ptB 89 l0).bind fun y => (ptB 77 y.2).bind fun o => (ptB 68 o.2).bind fun d =>
    ((if d.2.head? = some 84 then (tmB d.2.tail) else if d.2 = [] ∧ (y.1.2 || o.1.2 || d.1.2) then some (0, 0) else none)).map fun t =>
      if neg then ⟨-(12 * y.1.1 + o.1.1), -(86400 * d.1.1 + t.1), -t.2⟩ else ⟨12 * y.1.1 + o.1.1, 86400 * d.1.1 + t.1, t.2⟩

/-! Bounds. -/
theorem dvl_in (l : List Int) (h : ∀ c ∈ l, isD c = true) : 0 ≤ dvl l ∧ dvl l < 10 ^ l.length := by
  have key : ∀ (l : List Int) (v : Int) (n : Nat), (∀ c ∈ l, isD c = true) → 0 ≤ v → v < 10 ^ n → 0 ≤ l.foldl (fun v c => 10 * v + (c - 48)) v ∧ l.foldl (fun v c => 10 * v + (c - 48)) v < 10 ^ (n + l.length) := by
    intro l
    induction l with
    | nil => intro v n _ h0 h1; exact ⟨h0, h1⟩
    | cons c l ih =>
      intro v n hd h0 h1
      have hc := hd c (by simp)
      simp [isD] at hc
      have := ih (10 * v + (c - 48)) (n + 1) (fun x hx => hd x (by simp [hx])) (by omega) (by rw [Int.pow_succ]; omega)
      rw [List.foldl_cons, List.length_cons, show n + (l.length + 1) = n + 1 + l.length by omega]
      exact this
  have := key l 0 0 h (by omega) (by simp)
  simpa [dvl] using this
theorem dgs_take {l : List Int} {n : Nat} (h : n ≤ dgs l) : (∀ c ∈ l.take n, isD c = true) ∧ (l.take n).length = n := by
  have hl : dgs l ≤ l.length := by
    unfold dgs
    exact (List.takeWhile_sublist _).length_le
  refine ⟨fun c hc => ?_, by simp; omega⟩
  have e : l.take n = (l.takeWhile isD).take n := by
    have : l.takeWhile isD <+: l := List.takeWhile_prefix _
    obtain ⟨t, ht⟩ := this
    conv => lhs; rw [← ht]
    rw [List.take_append_of_le_length (by unfold dgs at h; exact h)]
  rw [e] at hc
  have := List.mem_of_mem_take hc
  exact List.all_eq_true.1 (List.all_takeWhile) c this
theorem nm_in {n : Nat} {l : List Int} {x : Int × List Int} (h : nmB n l = some x) : 0 ≤ x.1 ∧ x.1 < 10 ^ n := by
  unfold nmB at h
  split at h
  · simp at h
  · rename_i hn
    obtain rfl := Option.some.inj h
    obtain ⟨a, b⟩ := dgs_take (l := l) (n := n) (by omega)
    have := dvl_in _ a
    rwa [b] at this
theorem in_in {lo hi : Int} {l : List Int} {x : Int × List Int} (h : inB lo hi l = some x) : lo ≤ x.1 ∧ x.1 ≤ hi := by
  unfold inB at h
  obtain ⟨y, h1, h2⟩ := Option.bind_eq_some_iff.1 h
  split at h2
  · simp at h2
  · obtain rfl := Option.some.inj h2
    omega
theorem yr_in {l : List Int} {x : Int × List Int} (h : yrB l = some x) : x.1 ≠ 0 ∧ -1000000000 < x.1 ∧ x.1 < 1000000000 := by
  unfold yrB at h
  simp only [] at h
  generalize (if l.head? = some 45 then l.tail else l) = t at h
  split at h
  · simp at h
  · rename_i hd
    obtain ⟨y, h1, h2⟩ := Option.bind_eq_some_iff.1 h
    have hb := nm_in h1
    have hp : (10 : Int) ^ dgs t ≤ 10 ^ 9 := by
      have : (10 : Nat) ^ dgs t ≤ 10 ^ 9 := Nat.pow_le_pow_right (by omega) (by omega)
      exact_mod_cast this
    split at h2
    · simp at h2
    · obtain rfl := Option.some.inj h2
      simp only []
      split <;> omega
end Go.Proofs.Ytijcbgjlofcdfaa
