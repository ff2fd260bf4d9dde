/- A value in memory: its sixteen cells; what a write into its box leaves. -/
import Derived.Test.YtgaegajcejpmdaaGreatDoorHK8
import Derived.Test.YtgaegajcejpmdaaGreatDoorHDtCal2
namespace Go.Proofs.YtgaegajcejpmdaaGreatDoor
open Go.RowKit
set_option linter.unusedVariables false
set_option linter.unusedSimpArgs false

abbrev z0 : Dt.Mo := ⟨0, 0, 0, 0, 0, 0, false, 0⟩
abbrev sp0 : Dt.Sp := ⟨0, 0, 0⟩
abbrev vlL (p : Int) (t : ByteArray) (ng : Bool) (sl : Value) (sc : Int) (m : Dt.Mo) (q : Dt.Sp) : List Value := [.int .i64 p, .string t, .bool ng, sl, .int .i64 sc, .int .i64 m.k, .int .i64 m.y, .int .i64 m.m, .int .i64 m.d, .int .i64 m.s, .int .i64 m.n, .bool m.hz, .int .i64 m.z, .int .i64 q.o, .int .i64 q.s, .int .i64 q.n]
abbrev vlV (p : Int) (t : ByteArray) (ng : Bool) (sl : Value) (sc : Int) (m : Dt.Mo) (q : Dt.Sp) : Value := .agg #[.int .i64 p, .string t, .bool ng, sl, .int .i64 sc, .int .i64 m.k, .int .i64 m.y, .int .i64 m.m, .int .i64 m.d, .int .i64 m.s, .int .i64 m.n, .bool m.hz, .int .i64 m.z, .int .i64 q.o, .int .i64 q.s, .int .i64 q.n]
/-- A box of a value's, written to since W0. -/
structure BX (N : Nat) (w W0 : World) (X : Nat) (t : TypeId) (cs : List Value) (W : World) : Prop where
  blk : W.heap[X]? = some (.cells cs.toArray t (0, 0))
  bel : Below N w W
  le : N ≤ X
  oth : ∀ k, k ≠ X → W.heap[k]? = W0.heap[k]?
  sz : W.heap.size = W0.heap.size
theorem BX.lsz {N : Nat} {w W0 W : World} {X : Nat} {t : TypeId} {cs : List Value} (h : BX N w W0 X t cs W) : N ≤ W.heap.size := by
  have := Dc.lt_of h.blk
  have := h.le
  omega
theorem BX.set {N : Nat} {w W0 W : World} {X : Nat} {t : TypeId} {cs : List Value} (h : BX N w W0 X t cs W) (i : Nat) (u : Value) : BX N w W0 X t (cs.set i u) (W.setCell ⟨X, i, none⟩ u) := by
  obtain ⟨g1, g2⟩ := Dc.setC (i := i) u h.blk
  refine ⟨by simpa using g2, h.bel.grown g1 h.lsz (fun k hk => by cases hk; exact h.le), h.le, fun k hk => ?_, ?_⟩
  · rw [← h.oth k hk]
    rcases Nat.lt_or_ge k W.heap.size with q | q
    · exact g1.block k q (fun e => hk (Option.some.inj e))
    · have hs : (W.setCell ⟨X, i, none⟩ u).heap.size = W.heap.size := by simp [World.setCell]
      rw [Array.getElem?_eq_none q, Array.getElem?_eq_none (by omega)]
  · rw [← h.sz]
    simp [World.setCell]
theorem BX.new (w : World) (t : TypeId) (cs : List Value) : BX w.heap.size w (w.alloc (.cells cs.toArray t)) w.heap.size t cs (w.alloc (.cells cs.toArray t)) :=
  ⟨nw_heap w _, (Below.refl _ _).alloc (Nat.le_refl _) _, Nat.le_refl _, fun _ _ => rfl, rfl⟩
theorem BX.below {N : Nat} {w W0 W W' : World} {X : Nat} {t : TypeId} {cs : List Value} (h : BX N w W0 X t cs W) (hb : Below W.heap.size W W') : BX N w W' X t cs W' :=
  ⟨(hb.block X (Dc.lt_of h.blk)).trans h.blk, h.bel.trans (hb.mono h.lsz), h.le, fun _ _ => rfl, rfl⟩
/-- The box's cells. -/
def C16 (W : World) (X : Nat) (a0 a1 a2 a3 a4 a5 a6 a7 a8 a9 a10 a11 a12 a13 a14 a15 : Value) : Prop :=
  W.cell? ⟨X, 0, none⟩ = some a0 ∧ W.cell? ⟨X, 1, none⟩ = some a1 ∧ W.cell? ⟨X, 2, none⟩ = some a2 ∧ W.cell? ⟨X, 3, none⟩ = some a3 ∧ W.cell? ⟨X, 4, none⟩ = some a4 ∧ W.cell? ⟨X, 5, none⟩ = some a5 ∧ W.cell? ⟨X, 6, none⟩ = some a6 ∧ W.cell? ⟨X, 7, none⟩ = some a7 ∧ W.cell? ⟨X, 8, none⟩ = some a8 ∧ W.cell? ⟨X, 9, none⟩ = some a9 ∧ W.cell? ⟨X, 10, none⟩ = some a10 ∧ W.cell? ⟨X, 11, none⟩ = some a11 ∧ W.cell? ⟨X, 12, none⟩ = some a12 ∧ W.cell? ⟨X, 13, none⟩ = some a13 ∧ W.cell? ⟨X, 14, none⟩ = some a14 ∧ W.cell? ⟨X, 15, none⟩ = some a15
def F16 (W : World) (X : Nat) : Prop :=
  W.frozen? ⟨X, 0, none⟩ = false ∧ W.frozen? ⟨X, 1, none⟩ = false ∧ W.frozen? ⟨X, 2, none⟩ = false ∧ W.frozen? ⟨X, 3, none⟩ = false ∧ W.frozen? ⟨X, 4, none⟩ = false ∧ W.frozen? ⟨X, 5, none⟩ = false ∧ W.frozen? ⟨X, 6, none⟩ = false ∧ W.frozen? ⟨X, 7, none⟩ = false ∧ W.frozen? ⟨X, 8, none⟩ = false ∧ W.frozen? ⟨X, 9, none⟩ = false ∧ W.frozen? ⟨X, 10, none⟩ = false ∧ W.frozen? ⟨X, 11, none⟩ = false ∧ W.frozen? ⟨X, 12, none⟩ = false ∧ W.frozen? ⟨X, 13, none⟩ = false ∧ W.frozen? ⟨X, 14, none⟩ = false ∧ W.frozen? ⟨X, 15, none⟩ = false
theorem c16 {W : World} {X : Nat} {t : TypeId} {a0 a1 a2 a3 a4 a5 a6 a7 a8 a9 a10 a11 a12 a13 a14 a15 : Value} (h : W.heap[X]? = some (.cells #[a0, a1, a2, a3, a4, a5, a6, a7, a8, a9, a10, a11, a12, a13, a14, a15] t (0, 0))) : C16 W X a0 a1 a2 a3 a4 a5 a6 a7 a8 a9 a10 a11 a12 a13 a14 a15 := by
  unfold C16
  simp only [World.cell?, h]
  exact ⟨rfl, rfl, rfl, rfl, rfl, rfl, rfl, rfl, rfl, rfl, rfl, rfl, rfl, rfl, rfl, rfl⟩
theorem f16 {W : World} {X : Nat} {t : TypeId} {a0 a1 a2 a3 a4 a5 a6 a7 a8 a9 a10 a11 a12 a13 a14 a15 : Value} (h : W.heap[X]? = some (.cells #[a0, a1, a2, a3, a4, a5, a6, a7, a8, a9, a10, a11, a12, a13, a14, a15] t (0, 0))) : F16 W X := by
  unfold F16
  simp [World.frozen?, h]
/-- A row of bytes is no box of a value's. -/
theorem btr_apart {w : World} {v : Value} {l : List Int} {X : Nat} {cs : List Value} {t : TypeId} (h : Dc.BtR w v l) (hX : w.heap[X]? = some (.cells cs.toArray t (0, 0))) (hc : ∀ u ∈ cs, ∀ d, u ≠ .int .u8 d) : ∀ j, v.ownBlock = some j → l ≠ [] → j ≠ X := by
  obtain ⟨a, cap, rfl, h1, h2, h3, h4⟩ := h
  intro j hj hn e
  rcases h4 with h4 | ⟨g, o, rfl, h5, h6⟩
  · exact hn h4
  · simp [Value.ownBlock] at hj
    have hg : g = X := by omega
    subst hg
    have hp : 0 < l.length := List.length_pos_iff.2 hn
    have := h6 0 hp
    rw [Nat.add_zero, row_cell hX] at this
    have hm := Array.mem_of_getElem? this
    exact hc _ (by simpa using hm) _ rfl
theorem BX.btr {N : Nat} {w W0 W : World} {X : Nat} {t : TypeId} {cs cs0 : List Value} {v : Value} {l : List Int} (h : BX N w W0 X t cs W) (hb : Dc.BtR W0 v l) (h0 : W0.heap[X]? = some (.cells cs0.toArray t (0, 0))) (hc : ∀ u ∈ cs0, ∀ d, u ≠ .int .u8 d) : Dc.BtR W v l :=
  hb.kept (Nat.le_of_eq h.sz.symm) h.oth (btr_apart hb h0 hc)
theorem BX.of {N : Nat} {w W0 W : World} {X : Nat} {t : TypeId} {cs : List Value} (h : BX N w W0 X t cs W) : BX N w W X t cs W := ⟨h.blk, h.bel, h.le, fun _ _ => rfl, rfl⟩
theorem BX.set16 {N : Nat} {w W0 W : World} {X : Nat} {t : TypeId} {x0 x1 x2 x3 x4 x5 x6 x7 x8 x9 x10 x11 x12 x13 x14 x15 : Value} (h : BX N w W0 X t [x0, x1, x2, x3, x4, x5, x6, x7, x8, x9, x10, x11, x12, x13, x14, x15] W) (a0 a1 a2 a3 a4 a5 a6 a7 a8 a9 a10 a11 a12 a13 a14 a15 : Value) : BX N w W0 X t [a0, a1, a2, a3, a4, a5, a6, a7, a8, a9, a10, a11, a12, a13, a14, a15] ((((((((((((((((W.setCell ⟨X, 0, none⟩ a0).setCell ⟨X, 1, none⟩ a1).setCell ⟨X, 2, none⟩ a2).setCell ⟨X, 3, none⟩ a3).setCell ⟨X, 4, none⟩ a4).setCell ⟨X, 5, none⟩ a5).setCell ⟨X, 6, none⟩ a6).setCell ⟨X, 7, none⟩ a7).setCell ⟨X, 8, none⟩ a8).setCell ⟨X, 9, none⟩ a9).setCell ⟨X, 10, none⟩ a10).setCell ⟨X, 11, none⟩ a11).setCell ⟨X, 12, none⟩ a12).setCell ⟨X, 13, none⟩ a13).setCell ⟨X, 14, none⟩ a14).setCell ⟨X, 15, none⟩ a15) := by
  have h1 : BX N w W0 X t [a0, x1, x2, x3, x4, x5, x6, x7, x8, x9, x10, x11, x12, x13, x14, x15] (W.setCell ⟨X, 0, none⟩ a0) := h.set 0 a0
  have h2 : BX N w W0 X t [a0, a1, x2, x3, x4, x5, x6, x7, x8, x9, x10, x11, x12, x13, x14, x15] ((W.setCell ⟨X, 0, none⟩ a0).setCell ⟨X, 1, none⟩ a1) := h1.set 1 a1
  have h3 : BX N w W0 X t [a0, a1, a2, x3, x4, x5, x6, x7, x8, x9, x10, x11, x12, x13, x14, x15] (((W.setCell ⟨X, 0, none⟩ a0).setCell ⟨X, 1, none⟩ a1).setCell ⟨X, 2, none⟩ a2) := h2.set 2 a2
  have h4 : BX N w W0 X t [a0, a1, a2, a3, x4, x5, x6, x7, x8, x9, x10, x11, x12, x13, x14, x15] ((((W.setCell ⟨X, 0, none⟩ a0).setCell ⟨X, 1, none⟩ a1).setCell ⟨X, 2, none⟩ a2).setCell ⟨X, 3, none⟩ a3) := h3.set 3 a3
  have h5 : BX N w W0 X t [a0, a1, a2, a3, a4, x5, x6, x7, x8, x9, x10, x11, x12, x13, x14, x15] (((((W.setCell ⟨X, 0, none⟩ a0).setCell ⟨X, 1, none⟩ a1).setCell ⟨X, 2, none⟩ a2).setCell ⟨X, 3, none⟩ a3).setCell ⟨X, 4, none⟩ a4) := h4.set 4 a4
  have h6 : BX N w W0 X t [a0, a1, a2, a3, a4, a5, x6, x7, x8, x9, x10, x11, x12, x13, x14, x15] ((((((W.setCell ⟨X, 0, none⟩ a0).setCell ⟨X, 1, none⟩ a1).setCell ⟨X, 2, none⟩ a2).setCell ⟨X, 3, none⟩ a3).setCell ⟨X, 4, none⟩ a4).setCell ⟨X, 5, none⟩ a5) := h5.set 5 a5
  have h7 : BX N w W0 X t [a0, a1, a2, a3, a4, a5, a6, x7, x8, x9, x10, x11, x12, x13, x14, x15] (((((((W.setCell ⟨X, 0, none⟩ a0).setCell ⟨X, 1, none⟩ a1).setCell ⟨X, 2, none⟩ a2).setCell ⟨X, 3, none⟩ a3).setCell ⟨X, 4, none⟩ a4).setCell ⟨X, 5, none⟩ a5).setCell ⟨X, 6, none⟩ a6) := h6.set 6 a6
  have h8 : BX N w W0 X t [a0, a1, a2, a3, a4, a5, a6, a7, x8, x9, x10, x11, x12, x13, x14, x15] ((((((((W.setCell ⟨X, 0, none⟩ a0).setCell ⟨X, 1, none⟩ a1).setCell ⟨X, 2, none⟩ a2).setCell ⟨X, 3, none⟩ a3).setCell ⟨X, 4, none⟩ a4).setCell ⟨X, 5, none⟩ a5).setCell ⟨X, 6, none⟩ a6).setCell ⟨X, 7, none⟩ a7) := h7.set 7 a7
  have h9 : BX N w W0 X t [a0, a1, a2, a3, a4, a5, a6, a7, a8, x9, x10, x11, x12, x13, x14, x15] (((((((((W.setCell ⟨X, 0, none⟩ a0).setCell ⟨X, 1, none⟩ a1).setCell ⟨X, 2, none⟩ a2).setCell ⟨X, 3, none⟩ a3).setCell ⟨X, 4, none⟩ a4).setCell ⟨X, 5, none⟩ a5).setCell ⟨X, 6, none⟩ a6).setCell ⟨X, 7, none⟩ a7).setCell ⟨X, 8, none⟩ a8) := h8.set 8 a8
  have h10 : BX N w W0 X t [a0, a1, a2, a3, a4, a5, a6, a7, a8, a9, x10, x11, x12, x13, x14, x15] ((((((((((W.setCell ⟨X, 0, none⟩ a0).setCell ⟨X, 1, none⟩ a1).setCell ⟨X, 2, none⟩ a2).setCell ⟨X, 3, none⟩ a3).setCell ⟨X, 4, none⟩ a4).setCell ⟨X, 5, none⟩ a5).setCell ⟨X, 6, none⟩ a6).setCell ⟨X, 7, none⟩ a7).setCell ⟨X, 8, none⟩ a8).setCell ⟨X, 9, none⟩ a9) := h9.set 9 a9
  have h11 : BX N w W0 X t [a0, a1, a2, a3, a4, a5, a6, a7, a8, a9, a10, x11, x12, x13, x14, x15] (((((((((((W.setCell ⟨X, 0, none⟩ a0).setCell ⟨X, 1, none⟩ a1).setCell ⟨X, 2, none⟩ a2).setCell ⟨X, 3, none⟩ a3).setCell ⟨X, 4, none⟩ a4).setCell ⟨X, 5, none⟩ a5).setCell ⟨X, 6, none⟩ a6).setCell ⟨X, 7, none⟩ a7).setCell ⟨X, 8, none⟩ a8).setCell ⟨X, 9, none⟩ a9).setCell ⟨X, 10, none⟩ a10) := h10.set 10 a10
  have h12 : BX N w W0 X t [a0, a1, a2, a3, a4, a5, a6, a7, a8, a9, a10, a11, x12, x13, x14, x15] ((((((((((((W.setCell ⟨X, 0, none⟩ a0).setCell ⟨X, 1, none⟩ a1).setCell ⟨X, 2, none⟩ a2).setCell ⟨X, 3, none⟩ a3).setCell ⟨X, 4, none⟩ a4).setCell ⟨X, 5, none⟩ a5).setCell ⟨X, 6, none⟩ a6).setCell ⟨X, 7, none⟩ a7).setCell ⟨X, 8, none⟩ a8).setCell ⟨X, 9, none⟩ a9).setCell ⟨X, 10, none⟩ a10).setCell ⟨X, 11, none⟩ a11) := h11.set 11 a11
  have h13 : BX N w W0 X t [a0, a1, a2, a3, a4, a5, a6, a7, a8, a9, a10, a11, a12, x13, x14, x15] (((((((((((((W.setCell ⟨X, 0, none⟩ a0).setCell ⟨X, 1, none⟩ a1).setCell ⟨X, 2, none⟩ a2).setCell ⟨X, 3, none⟩ a3).setCell ⟨X, 4, none⟩ a4).setCell ⟨X, 5, none⟩ a5).setCell ⟨X, 6, none⟩ a6).setCell ⟨X, 7, none⟩ a7).setCell ⟨X, 8, none⟩ a8).setCell ⟨X, 9, none⟩ a9).setCell ⟨X, 10, none⟩ a10).setCell ⟨X, 11, none⟩ a11).setCell ⟨X, 12, none⟩ a12) := h12.set 12 a12
  have h14 : BX N w W0 X t [a0, a1, a2, a3, a4, a5, a6, a7, a8, a9, a10, a11, a12, a13, x14, x15] ((((((((((((((W.setCell ⟨X, 0, none⟩ a0).setCell ⟨X, 1, none⟩ a1).setCell ⟨X, 2, none⟩ a2).setCell ⟨X, 3, none⟩ a3).setCell ⟨X, 4, none⟩ a4).setCell ⟨X, 5, none⟩ a5).setCell ⟨X, 6, none⟩ a6).setCell ⟨X, 7, none⟩ a7).setCell ⟨X, 8, none⟩ a8).setCell ⟨X, 9, none⟩ a9).setCell ⟨X, 10, none⟩ a10).setCell ⟨X, 11, none⟩ a11).setCell ⟨X, 12, none⟩ a12).setCell ⟨X, 13, none⟩ a13) := h13.set 13 a13
  have h15 : BX N w W0 X t [a0, a1, a2, a3, a4, a5, a6, a7, a8, a9, a10, a11, a12, a13, a14, x15] (((((((((((((((W.setCell ⟨X, 0, none⟩ a0).setCell ⟨X, 1, none⟩ a1).setCell ⟨X, 2, none⟩ a2).setCell ⟨X, 3, none⟩ a3).setCell ⟨X, 4, none⟩ a4).setCell ⟨X, 5, none⟩ a5).setCell ⟨X, 6, none⟩ a6).setCell ⟨X, 7, none⟩ a7).setCell ⟨X, 8, none⟩ a8).setCell ⟨X, 9, none⟩ a9).setCell ⟨X, 10, none⟩ a10).setCell ⟨X, 11, none⟩ a11).setCell ⟨X, 12, none⟩ a12).setCell ⟨X, 13, none⟩ a13).setCell ⟨X, 14, none⟩ a14) := h14.set 14 a14
  have h16 : BX N w W0 X t [a0, a1, a2, a3, a4, a5, a6, a7, a8, a9, a10, a11, a12, a13, a14, a15] ((((((((((((((((W.setCell ⟨X, 0, none⟩ a0).setCell ⟨X, 1, none⟩ a1).setCell ⟨X, 2, none⟩ a2).setCell ⟨X, 3, none⟩ a3).setCell ⟨X, 4, none⟩ a4).setCell ⟨X, 5, none⟩ a5).setCell ⟨X, 6, none⟩ a6).setCell ⟨X, 7, none⟩ a7).setCell ⟨X, 8, none⟩ a8).setCell ⟨X, 9, none⟩ a9).setCell ⟨X, 10, none⟩ a10).setCell ⟨X, 11, none⟩ a11).setCell ⟨X, 12, none⟩ a12).setCell ⟨X, 13, none⟩ a13).setCell ⟨X, 14, none⟩ a14).setCell ⟨X, 15, none⟩ a15) := h15.set 15 a15
  exact h16
end Go.Proofs.YtgaegajcejpmdaaGreatDoor
