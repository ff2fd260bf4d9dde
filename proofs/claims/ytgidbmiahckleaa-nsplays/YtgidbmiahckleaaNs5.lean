/- What an element hides, and what a step of bind does: plain, and as maps hold it. -/
import Derived.Test.YtgidbmiahckleaaNs4
namespace Go.Proofs.Ytgidbmiahckleaa
open Go.RowKit
set_option linter.unusedVariables false

/-- What changes lies in blocks of its own. -/
structure Fro (O : Nat → Prop) (w w' : World) : Prop where
  os : w'.os = w.os
  tape : w'.tape = w.tape
  output : w'.output = w.output
  size : w.heap.size ≤ w'.heap.size
  block : ∀ k, k < w.heap.size → ¬ O k → w'.heap[k]? = w.heap[k]?
theorem Fro.refl (O : Nat → Prop) (w : World) : Fro O w w := ⟨rfl, rfl, rfl, Nat.le_refl _, fun _ _ _ => rfl⟩
theorem Fro.trans {O : Nat → Prop} {a b c : World} (h : Fro O a b) (k : Fro O b c) : Fro O a c :=
  ⟨k.os.trans h.os, k.tape.trans h.tape, k.output.trans h.output, Nat.le_trans h.size k.size, fun i hi hn => (k.block i (Nat.lt_of_lt_of_le hi h.size) hn).trans (h.block i hi hn)⟩
/-- What is new since may change too. -/
theorem Fro.trans' {O O' : Nat → Prop} {a b c : World} (h : Fro O a b) (k : Fro O' b c) (ho : ∀ i, i < a.heap.size → O' i → O i) : Fro O a c :=
  ⟨k.os.trans h.os, k.tape.trans h.tape, k.output.trans h.output, Nat.le_trans h.size k.size, fun i hi hn => (k.block i (Nat.lt_of_lt_of_le hi h.size) (fun q => hn (ho i hi q))).trans (h.block i hi hn)⟩
theorem Fro.mono {O O' : Nat → Prop} {a b : World} (h : Fro O a b) (ho : ∀ i, i < a.heap.size → O i → O' i) : Fro O' a b :=
  ⟨h.os, h.tape, h.output, h.size, fun i hi hn => h.block i hi (fun q => hn (ho i hi q))⟩
theorem Fro.below {O : Nat → Prop} {a b : World} (h : Below a.heap.size a b) : Fro O a b := ⟨h.os, h.tape, h.output, h.size, fun i hi _ => h.block i hi⟩
theorem Fro.grown {O : Nat → Prop} {a b : World} {o : Option Nat} (h : a.grownBy b o) (ho : ∀ k, o = some k → O k) : Fro O a b := by
  obtain ⟨h1, h2, h3, h4, h5⟩ := h
  exact ⟨h1, h2, h3, h4, fun i hi hn => h5 i hi (fun q => hn (ho i q.symm))⟩
theorem MapAt.fro {O : Nat → Prop} {w w' : World} {b : Nat} {es : List (ByteArray × Value)} (h : MapAt w b es) (hf : Fro O w w') (hb : ¬ O b) : MapAt w' b es := by
  obtain ⟨arr, clk, h1, h2⟩ := h
  exact ⟨arr, clk, (hf.block b (Array.getElem?_eq_some_iff.1 h1).1 hb).trans h1, h2⟩
theorem MapAt.lt {w : World} {b : Nat} {es : List (ByteArray × Value)} (h : MapAt w b es) : b < w.heap.size := by
  obtain ⟨arr, clk, h1, h2⟩ := h
  exact (Array.getElem?_eq_some_iff.1 h1).1
/-- A map is no scope's block. -/
theorem MapAt.ne {w : World} {b P : Nat} {es : List (ByteArray × Value)} {cs : Array Value} {t : TypeId} {f : Nat × Nat} (h : MapAt w b es) (hP : w.heap[P]? = some (.cells cs t f)) : b ≠ P := by
  rintro rfl
  obtain ⟨arr, clk, h1, h2⟩ := h
  rw [hP] at h1
  cases h1

/-- What an element hid, as the map has it. -/
def hbv (h : List (ByteArray × Option ByteArray)) : List (ByteArray × Value) := h.map fun p => (p.1, match p.2 with | some sp => .agg #[.string sp, .bool true] | none => zB)
def has (h : List (ByteArray × Option ByteArray)) (s : ByteArray) : Bool := h.any fun q => s == q.1
theorem lk_hbv (h : List (ByteArray × Option ByteArray)) (s : ByteArray) : (lk (hbv h) s).isSome = has h s := by
  induction h with
  | nil => rfl
  | cons p h ih =>
    unfold lk hbv has at *
    rw [List.map_cons, List.find?_cons, List.any_cons]
    cases hq : (s == p.1) with
    | true => simp
    | false => simpa using ih
theorem ixk_hbv (h : List (ByteArray × Option ByteArray)) (s : ByteArray) (hn : has h s = false) : ixk (hbv h) s = none := by
  have h1 := ixk_lk (hbv h) s
  rw [lk_hbv, hn] at h1
  simpa using h1
theorem lk_form (h : List (ByteArray × Option ByteArray)) (s : ByteArray) : ∃ x y, (lk (hbv h) s).getD zB = .agg #[.string x, .bool y] := by
  induction h with
  | nil => exact ⟨⟨#[]⟩, false, rfl⟩
  | cons p h ih =>
    unfold lk hbv at *
    rw [List.map_cons, List.find?_cons]
    cases hq : (s == p.1) with
    | true =>
      obtain ⟨a, o⟩ := p
      cases o with
      | none => exact ⟨⟨#[]⟩, false, rfl⟩
      | some sp => exact ⟨sp, true, rfl⟩
    | false => simpa using ih
def HidAt (w : World) (v : Value) (h : List (ByteArray × Option ByteArray)) : Prop := (v = .map none ∧ h = []) ∨ ∃ b, v = .map (some b) ∧ MapAt w b (hbv h)
theorem hid_look {w : World} {v : Value} {h : List (ByteArray × Option ByteArray)} (hh : HidAt w v h) (s : ByteArray) : ∃ x y, (Instr.lookup 78 v (.string s) true).run Try.prog w = .ok (.tuple #[.agg #[.string x, .bool y], .bool (has h s)]) w := by
  rcases hh with ⟨rfl, rfl⟩ | ⟨b, rfl, hm⟩
  · exact ⟨⟨#[]⟩, false, look_nil w s true⟩
  · obtain ⟨x, y, e⟩ := lk_form h s
    refine ⟨x, y, ?_⟩
    rw [look_map hm s true, if_pos rfl, e, lk_hbv]
/-- What is bound, when one more is. -/
def setB : List (ByteArray × ByteArray) → ByteArray → ByteArray → List (ByteArray × ByteArray)
  | [], s, v => [(s, v)]
  | p :: l, s, v => if (s == p.1) = true then (s, v) :: l else p :: setB l s v
theorem upd_bnd (s v : ByteArray) : ∀ l, upd (bnd l) s (.agg #[.string v, .bool true]) = bnd (setB l s v)
  | [] => rfl
  | p :: l => by
    have ih := upd_bnd s v l
    unfold bnd at *
    rw [List.map_cons, upd, setB]
    dsimp only
    split
    · rfl
    · rw [ih]; rfl
theorem upd_hbv (s : ByteArray) (o : Option ByteArray) (h : List (ByteArray × Option ByteArray)) (hn : has h s = false) : upd (hbv h) s (match o with | some sp => .agg #[.string sp, .bool true] | none => zB) = hbv (h ++ [(s, o)]) := by
  rw [upd_none _ _ _ (ixk_hbv h s hn)]
  simp [hbv]
/-- A step of bind. -/
def bstep (st : List (ByteArray × ByteArray) × List (ByteArray × Option ByteArray)) (a : ByteArray × ByteArray) : List (ByteArray × ByteArray) × List (ByteArray × Option ByteArray) :=
  if (bindS a.1).2 = false then st else if has st.2 (bindS a.1).1 = true then st else if (bindS a.1).1 = xmlB then st
  else (setB st.1 (bindS a.1).1 a.2, st.2 ++ [((bindS a.1).1, spc st.1 (bindS a.1).1)])
def binds (l : List (ByteArray × ByteArray)) (ats : List (ByteArray × ByteArray)) : List (ByteArray × ByteArray) × List (ByteArray × Option ByteArray) := ats.foldl bstep (l, [])
/-- What is bound again, when an element ends. -/
def unB : List (ByteArray × ByteArray) → ByteArray → List (ByteArray × ByteArray)
  | [], s => []
  | p :: l, s => if (s == p.1) = true then l else p :: unB l s
theorem del_bnd (s : ByteArray) : ∀ l, del (bnd l) s = bnd (unB l s)
  | [] => rfl
  | p :: l => by
    have ih := del_bnd s l
    unfold bnd at *
    rw [List.map_cons, del, unB]
    dsimp only
    split
    · rfl
    · rw [ih]; rfl
def backB (l : List (ByteArray × ByteArray)) (h : ByteArray × Option ByteArray) : List (ByteArray × ByteArray) := match h.2 with | some sp => setB l h.1 sp | none => unB l h.1
def back (l : List (ByteArray × ByteArray)) (h : List (ByteArray × Option ByteArray)) : List (ByteArray × ByteArray) := h.foldl backB l
end Go.Proofs.Ytgidbmiahckleaa
