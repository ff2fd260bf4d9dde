/- Small laws on memory. -/
import Derived.Test.YtijcbgjlofcdfaaProg
import Derived.Test.YtijcbgjlofcdfaaCal0
import Derived.WalkKit
import Derived.WalkSpells
import Derived.WalkLawsBesides
import Derived.Below
import Derived.MapKept
import Derived.Carry
import Derived.BigQuiet
import Derived.Deep.QuietTactic
import Derived.Deep.LoopGhost
import Derived.Deep.DeepCutAuto
import Derived.Deep.RegionHeld3
import Derived.Laws.IdiomStrings
import Derived.Laws.StructEq
import Derived.Lib.Bytealg
namespace Go.Proofs.Ytijcbgjlofcdfaa
open Go.RowKit
set_option linter.unusedVariables false

theorem nw_heap (w : World) (o : Obj) : (w.alloc o).heap[w.heap.size]? = some o := (Go.MapKept.heap_alloc w o).1
theorem bset {w : World} {X i : Nat} {t : TypeId} {cs : Array Value} (h : w.heap[X]? = some (.cells cs t (0, 0))) (u : Value) : (w.setCell ⟨X, i, none⟩ u).heap[X]? = some (.cells (cs.setIfInBounds i u) t (0, 0)) := by
  simp only [World.setCell, Array.getElem?_modify]
  rw [if_pos trivial, h]
  simp
theorem sza (w : World) (o : Obj) : (w.alloc o).heap.size = w.heap.size + 1 := by simp
theorem lt_of {w : World} {X : Nat} {o : Obj} (h : w.heap[X]? = some o) : X < w.heap.size := (Array.getElem?_eq_some_iff.1 h).1
theorem below_drewN {w : World} (k : Nat) : Below w.heap.size w (w.drewN k) := ⟨rfl, rfl, rfl, Nat.le_refl _, fun _ _ => rfl⟩
theorem bdrewN {N : Nat} {a w : World} (h : Below N a w) (q : Nat) : Below N a (w.drewN q) := ⟨h.os, h.tape, h.output, h.size, h.block⟩
theorem bcell {W w1 : World} (hb : Below W.heap.size W w1) : (∀ b o, b < W.heap.size → w1.cell? ⟨b, o, none⟩ = W.cell? ⟨b, o, none⟩) ∧ (∀ b o, b < W.heap.size → w1.frozen? ⟨b, o, none⟩ = W.frozen? ⟨b, o, none⟩) :=
  ⟨fun b o h => hb.cell (p := ⟨b, o, none⟩) h, fun b o h => hb.frozen (p := ⟨b, o, none⟩) h⟩
theorem ret_int {k : IntKind} {a b : Int} (h : a = b) : Ending.returned (.int k a) = .returned (.int k b) := by rw [h]
theorem ret_bool {a b : Bool} (h : a = b) : Ending.returned (.bool a) = .returned (.bool b) := by rw [h]
/-- What changes lies in blocks of its own. -/
structure Fro (O : Nat → Prop) (w w' : World) : Prop where
  os : w'.os = w.os
  tape : w'.tape = w.tape
  output : w'.output = w.output
  size : w.heap.size ≤ w'.heap.size
  block : ∀ k, k < w.heap.size → ¬ O k → w'.heap[k]? = w.heap[k]?
theorem Fro.refl (O : Nat → Prop) (w : World) : Fro O w w := ⟨rfl, rfl, rfl, Nat.le_refl _, fun _ _ _ => rfl⟩
theorem Fro.trans {O : Nat → Prop} {a b c : World} (h : Fro O a b) (k : Fro O b c) : Fro O a c :=
  ⟨k.os.trans h.os, k.tape.trans h.tape, k.output.trans h.output, Nat.le_trans h.size k.size, fun i hi hn => (k.block i (Nat.lt_of_lt_of_le hi h.size) hn).trans (h.block i hi hn)⟩
/-- What is new since may change too. -/
theorem Fro.trans' {O O' : Nat → Prop} {a b c : World} (h : Fro O a b) (k : Fro O' b c) (ho : ∀ i, i < a.heap.size → O' i → O i) : Fro O a c :=
  ⟨k.os.trans h.os, k.tape.trans h.tape, k.output.trans h.output, Nat.le_trans h.size k.size, fun i hi hn => (k.block i (Nat.lt_of_lt_of_le hi h.size) (fun q => hn (ho i hi q))).trans (h.block i hi hn)⟩
theorem Fro.mono {O O' : Nat → Prop} {a b : World} (h : Fro O a b) (ho : ∀ i, i < a.heap.size → O i → O' i) : Fro O' a b :=
  ⟨h.os, h.tape, h.output, h.size, fun i hi hn => h.block i hi (fun q => hn (ho i hi q))⟩
theorem Fro.below {O : Nat → Prop} {a b : World} (h : Below a.heap.size a b) : Fro O a b := ⟨h.os, h.tape, h.output, h.size, fun i hi _ => h.block i hi⟩
theorem Fro.toBelow {O : Nat → Prop} {a b : World} {N : Nat} (h : Fro O a b) (hN : N ≤ a.heap.size) (ho : ∀ i, i < N → ¬ O i) : Below N a b := ⟨h.os, h.tape, h.output, h.size, fun i hi => h.block i (Nat.lt_of_lt_of_le hi hN) (ho i hi)⟩
theorem Fro.drewN {O : Nat → Prop} {a b : World} (h : Fro O a b) (q : Nat) : Fro O a (b.drewN q) := ⟨h.os, h.tape, h.output, h.size, h.block⟩
theorem Fro.alloc {O : Nat → Prop} {a b : World} (h : Fro O a b) (o : Obj) : Fro O a (b.alloc o) := h.trans' (Fro.below (O := fun _ => False) ((Below.refl _ _).alloc (Nat.le_refl _) o)) (fun _ _ q => q.elim)
theorem Fro.set {O : Nat → Prop} {a b : World} (h : Fro O a b) {X i : Nat} (hX : O X ∨ a.heap.size ≤ X) (u : Value) : Fro O a (b.setCell ⟨X, i, none⟩ u) :=
  h.trans' (O' := fun k => k = X) ⟨rfl, rfl, rfl, by simp [World.setCell], fun k _ hk => Below.heap_setCell _ _ _ _ hk⟩ (fun k hk e => by
    rcases hX with q | q
    · rw [e]; exact q
    · omega)
theorem Fro.at {O : Nat → Prop} {a b : World} (h : Fro O a b) {X : Nat} {o : Obj} (hX : a.heap[X]? = some o) (hO : ¬ O X) : b.heap[X]? = some o := (h.block X (lt_of hX) hO).trans hX
end Go.Proofs.Ytijcbgjlofcdfaa
