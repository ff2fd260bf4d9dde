/- The parser's cells in memory, and what stays as it was while it goes on. -/
import Derived.Test.YtjcgnbmpnaapdaaDoorEnc
import Derived.Test.YtjcgnbmpnaapdaaDoorXSpec
import Derived.Deep.QuietTactic
import Derived.BigQuiet
import Derived.OwnWalk
namespace Go.Proofs.YtjcgnbmpnaapdaaDoor
open Go.RowKit
set_option linter.unusedVariables false

/-- The parser's twenty cells. -/
structure PV where
  b : Value
  k : Int
  long : Bool
  d : Int
  n : Int
  a : Int
  t : Int
  ps : Int
  rw : Int
  op : Value
  nodes : Int
  begun : Bool
  tat : Int
  tout : Value
  ready : Value
  depth : Int
  most : Int
  over : Bool
  fat : Int
  ferr : Int
def PV.cells (v : PV) : Array Value := #[v.b, .int .i64 v.k, .bool v.long, .int .i64 v.d, .int .i64 v.n, .int .i64 v.a, .int .i64 v.t, .int .i64 v.ps, .int .i64 v.rw, v.op, .int .i64 v.nodes,
  .bool v.begun, .int .i64 v.tat, v.tout, v.ready, .int .i64 v.depth, .int .i64 v.most, .bool v.over, .int .i64 v.fat, .int .i64 v.ferr]
def PS (w : World) (P : Nat) (v : PV) : Prop := w.heap[P]? = some (.cells v.cells 81 (0, 0))

theorem PS.cell {w : World} {P : Nat} {v : PV} (h : PS w P v) (i : Nat) : w.cell? ⟨P, i, none⟩ = v.cells[i]? := by
  unfold PS at h; simp [World.cell?, h]
theorem PS.froz {w : World} {P : Nat} {v : PV} (h : PS w P v) (i : Nat) : w.frozen? ⟨P, i, none⟩ = false := by
  unfold PS at h; simp [World.frozen?, h]
theorem PS.lt {w : World} {P : Nat} {v : PV} (h : PS w P v) : P < w.heap.size := (Array.getElem?_eq_some_iff.1 h).1
theorem PS.kept {w w' : World} {P : Nat} {v : PV} {row : Option Nat} (h : PS w P v) (hg : w.grownBy w' row) (hne : some P ≠ row) : PS w' P v := (hg.block P h.lt hne).trans h
theorem PS.drewN {w : World} {P : Nat} {v : PV} (h : PS w P v) (n : Nat) : PS (w.drewN n) P v := h
theorem PS.set {w : World} {P : Nat} {v v' : PV} (h : PS w P v) (i : Nat) (x : Value) (hx : v.cells.setIfInBounds i x = v'.cells) : PS (w.setCell ⟨P, i, none⟩ x) P v' := by
  unfold PS at *
  simp only [World.setCell, Array.getElem?_modify]
  rw [if_pos trivial, h]
  simp [hx]
theorem PS.set_k {w : World} {P : Nat} {v : PV} (h : PS w P v) (x : Int) : PS (w.setCell ⟨P, 1, none⟩ (.int .i64 x)) P { v with k := x } := h.set 1 _ rfl
/-- The bytes, the place: what a scanner reads. -/
theorem PS.rd {w : World} {P : Nat} {v : PV} (h : PS w P v) : w.cell? ⟨P, 0, none⟩ = some v.b ∧ w.cell? ⟨P, 1, none⟩ = some (.int .i64 v.k) ∧ w.frozen? ⟨P, 1, none⟩ = false :=
  ⟨h.cell 0, h.cell 1, h.froz 1⟩

theorem grownBy_trans {a b c : World} {row : Option Nat} (h : a.grownBy b row) (k : b.grownBy c row) : a.grownBy c row :=
  ⟨k.os.trans h.os, k.tape.trans h.tape, k.output.trans h.output, Nat.le_trans h.size k.size, fun i hi hne => (k.block i (Nat.lt_of_lt_of_le hi h.size) hne).trans (h.block i hi hne)⟩
theorem grownBy_drewN (w : World) (n : Nat) (row : Option Nat) : w.grownBy (w.drewN n) row := ⟨rfl, rfl, rfl, Nat.le_refl _, fun _ _ _ => rfl⟩
theorem grownBy_set (w : World) (b i : Nat) (x : Value) : w.grownBy (w.setCell ⟨b, i, none⟩ x) (some b) :=
  ⟨rfl, rfl, rfl, by simp [World.setCell], fun k _ hne => Below.heap_setCell _ _ _ _ (by intro e; apply hne; rw [e])⟩
theorem grownBy_of_below {w w' : World} (h : Below w.heap.size w w') (row : Option Nat) : w.grownBy w' row := ⟨h.os, h.tape, h.output, h.size, fun k hk _ => h.block k hk⟩

/-- The parser's bytes: a row of its own. -/
def BR (w : World) (vb : Value) (l : Bs) : Prop := w.ownsRow 0 5 1 vb l.length (l.map (Value.int .u8)) ∧ ∀ i, 0 ≤ l.getD i 0 ∧ l.getD i 0 < 256

theorem own_ne81 {w : World} {P n size base : Nat} {e : TypeId} {v : PV} {vb : Value} {xs : List Value} (h : PS w P v) (hb : w.ownsRow base e size vb n xs) (he : e ≠ 81) : vb.ownBlock = none ∨ vb.ownBlock ≠ some P := by
  rcases hb.2 with ⟨rfl, _⟩ | ⟨g, cap, cur, rfl, _, hg, _⟩
  · exact .inl rfl
  · refine .inr fun hx => ?_
    simp [Value.ownBlock] at hx
    subst hx
    unfold PS at h
    rw [h] at hg
    simp at hg
    exact he hg.2.symm
theorem BR.kept {w w' : World} {P : Nat} {v : PV} {vb : Value} {l : Bs} (hb : BR w vb l) (h : PS w P v) (hg : w.grownBy w' (some P)) : BR w' vb l :=
  ⟨hb.1.kept hg (own_ne81 h hb.1 (by decide)), hb.2⟩
theorem BR.form {w : World} {vb : Value} {l : Bs} (h : BR w vb l) :
    (vb = .slice none 0 0 ∧ l = []) ∨ ∃ g cap, vb = .slice (some ⟨g, 0, none⟩) l.length cap ∧ l.length ≤ cap ∧ cap ≤ maxLen ∧ Bts w (some ⟨g, 0, none⟩) l := by
  rcases h.1.2 with ⟨rfl, h0⟩ | ⟨g, cap, cur, rfl, hbg, hg, hnc, hcm, hcs, htake⟩
  · exact .inl ⟨rfl, List.eq_nil_of_length_eq_zero h0⟩
  · refine .inr ⟨g, cap, rfl, hnc, hcm, h.2, ?_⟩
    by_cases hl : l = []
    · exact .inl hl
    · refine .inr ⟨g, 0, rfl, fun i hi => ?_⟩
      have := h.1.cells (g := g) rfl i (.int .u8 (l.getD i 0)) (by simp [List.getD_eq_getElem?_getD, hi])
      rw [addr_add] at this
      exact this

/-- A scanner's steps: only the place has turned, and what is new. -/
structure Mv (P : Nat) (w w' : World) (v' : PV) : Prop where
  g : w.grownBy w' (some P)
  p : PS w' P v'
theorem Mv.refl {P : Nat} {w : World} {v : PV} (h : PS w P v) : Mv P w w v := ⟨World.grownBy.refl _ _, h⟩
theorem Mv.trans {P : Nat} {w w1 w2 : World} {v1 v2 : PV} (h : Mv P w w1 v1) (k : Mv P w1 w2 v2) : Mv P w w2 v2 := ⟨grownBy_trans h.g k.g, k.p⟩
theorem Mv.drewN {P : Nat} {w w' : World} {v' : PV} (h : Mv P w w' v') (n : Nat) : Mv P w (w'.drewN n) v' := ⟨grownBy_trans h.g (grownBy_drewN _ _ _), h.p⟩
theorem Mv.set_k {P : Nat} {w w' : World} {v' : PV} (h : Mv P w w' v') (x : Int) : Mv P w (w'.setCell ⟨P, 1, none⟩ (.int .i64 x)) { v' with k := x } := ⟨grownBy_trans h.g (grownBy_set _ _ _ _), h.p.set_k x⟩
theorem Mv.alloc {P : Nat} {w w' : World} {v' : PV} (h : Mv P w w' v') (o : Obj) : Mv P w (w'.alloc o) v' := ⟨grownBy_trans h.g (World.grownBy_alloc _ _ _), h.p.kept (World.grownBy_alloc _ _ none) (by simp)⟩

def flt (place err : Int) : List PanicEntry := [{ v := .iface 79 (.agg #[.int .i64 place, .int .i64 err]), recovered := false }]

/-- The parser at a place of its bytes. -/
structure In (P : Nat) (w : World) (v : PV) (l : Bs) (k : Nat) : Prop where
  ps : PS w P v
  br : BR w v.b l
  ke : v.k = (k : Int)
  kl : k ≤ l.length
  ll : l.length ≤ 65536
theorem In.mv {P k k' : Nat} {w w' : World} {v : PV} {l : Bs} (h : In P w v l k) (hm : Mv P w w' { v with k := (k' : Int) }) (hk : k' ≤ l.length) : In P w' { v with k := (k' : Int) } l k' :=
  ⟨hm.p, h.br.kept h.ps hm.g, rfl, hk, h.ll⟩
theorem In.drewN {P k : Nat} {w : World} {v : PV} {l : Bs} (h : In P w v l k) (n : Nat) : In P (w.drewN n) v l k := ⟨h.ps, h.br, h.ke, h.kl, h.ll⟩
theorem In.self {P k : Nat} {w : World} {v : PV} {l : Bs} (h : In P w v l k) : In P w { v with k := (k : Int) } l k := by
  have e : { v with k := (k : Int) } = v := by rw [← h.ke]
  rw [e]; exact h
theorem In.rd {P k : Nat} {w : World} {v : PV} {l : Bs} (h : In P w v l k) : w.cell? ⟨P, 1, none⟩ = some (.int .i64 k) := by rw [← h.ke]; exact h.ps.cell 1
theorem In.alloc {P k : Nat} {w : World} {v : PV} {l : Bs} (h : In P w v l k) (o : Obj) : In P (w.alloc o) v l k :=
  ⟨h.ps.kept (World.grownBy_alloc _ _ none) (by simp), ⟨h.br.1.alloc o, h.br.2⟩, h.ke, h.kl, h.ll⟩

/-- What a scanner answers. -/
def Scan {α : Type} (P : Nat) (w : World) (v : PV) (l : Bs) (ret : α → Value) (r : R α) (e : Ending) (w' : World) : Prop :=
  match r with
  | .ok a k => e = .returned (ret a) ∧ w.grownBy w' (some P) ∧ In P w' { v with k := (k : Int) } l k
  | .bad p er => e = .panicked (flt p er) ∧ w.grownBy w' (some P) ∧ ∃ k : Int, PS w' P { v with k := k }
theorem scan_ok {α : Type} {P N : Nat} {args : Array Value} {w : World} {v : PV} {l : Bs} {ret : α → Value} {r : R α} {a : α} {k : Nat} (h : Calls Tryd.prog N args w (Scan P w v l ret r)) (hr : r = .ok a k) :
    Calls Tryd.prog N args w fun e w' => e = .returned (ret a) ∧ w.grownBy w' (some P) ∧ In P w' { v with k := (k : Int) } l k := by
  subst hr; exact h
theorem scan_bad {α : Type} {P N : Nat} {args : Array Value} {w : World} {v : PV} {l : Bs} {ret : α → Value} {r : R α} {p er : Int} (h : Calls Tryd.prog N args w (Scan P w v l ret r)) (hr : r = .bad p er) :
    Calls Tryd.prog N args w fun e w' => e = .panicked (flt p er) ∧ w.grownBy w' (some P) ∧ ∃ k : Int, PS w' P { v with k := k } := by
  subst hr; exact h
abbrev ret0 : Unit → Value := fun _ => .tuple #[]
end Go.Proofs.YtjcgnbmpnaapdaaDoor
