/- Events, as a law reads them. -/
import Derived.Test.YtjcgnbmpnaapdabDoorQ22
import Derived.Test.YtjcgnbmpnaapdabDoorM14
import Derived.Deep.QuietTactic
import Derived.BigQuiet
namespace Go.Proofs.YtjcgnbmpnaapdabDoor
open Go.RowKit
set_option linter.unusedVariables false

theorem EvC.get {B : Nat} {w : World} : ∀ {es : List Ev} {xs : List Value} (i : Nat) (e : Ev), EvC B w es xs → es[i]? = some e → xs[i * 5]? = some (.int .i64 e.kind) ∧ xs[i * 5 + 1]? = some (.int .i64 e.place)
  | [], xs, i, e, h, he => by simp at he
  | a :: es, xs, 0, e, h, he => by
    obtain ⟨sv, ys, rfl, _, _⟩ := h
    simp at he
    subst he
    exact ⟨rfl, rfl⟩
  | a :: es, xs, i + 1, e, h, he => by
    obtain ⟨sv, ys, rfl, _, h2⟩ := h
    have := EvC.get i e h2 (by simpa using he)
    have l5 : (evHead a sv).length = 5 := rfl
    constructor
    · rw [List.getElem?_append_right (by omega)]
      rw [← this.1]; congr 1; omega
    · rw [List.getElem?_append_right (by omega)]
      rw [← this.2]; congr 1; omega
/-- Events, as a law reads them. -/
structure ER (w : World) (sv : Value) (es : List Ev) : Prop where
  f : ∃ a cap, sv = .slice a es.length cap ∧ es.length ≤ cap ∧ cap ≤ maxLen ∧ (es ≠ [] → ∃ g off, a = some ⟨g, off, none⟩ ∧ ∀ i e, es[i]? = some e → w.cell? ⟨g, off + i * 5, none⟩ = some (.int .i64 e.kind) ∧ w.cell? ⟨g, off + i * 5 + 1, none⟩ = some (.int .i64 e.place))
theorem ER.of {B : Nat} {w : World} {sv : Value} {es : List Ev} {xs : List Value} (h : RR B w sv es.length xs) (hc : EvC B w es xs) : ER w sv es := by
  rcases h with ⟨rfl, h0, _⟩ | ⟨g, off, cap, rfl, _, _, h1, h2, h3, h4⟩
  · have : es = [] := List.eq_nil_of_length_eq_zero h0
    exact ⟨none, 0, by rw [h0], by omega, by unfold maxLen; omega, fun h => absurd this h⟩
  · refine ⟨_, cap, rfl, h1, h2, fun _ => ⟨g, off, rfl, fun i e he => ?_⟩⟩
    have hi : i < es.length := (List.getElem?_eq_some_iff.1 he).1
    have := EvC.get i e hc he
    exact ⟨(h4 (i * 5) (by omega)).trans this.1, (h4 (i * 5 + 1) (by omega)).trans this.2⟩
theorem ER.below {w w' : World} {sv : Value} {es : List Ev} (h : ER w sv es) (hb : Below w.heap.size w w') : ER w' sv es := by
  obtain ⟨a, cap, e, h1, h2, h3⟩ := h.f
  refine ⟨a, cap, e, h1, h2, fun hn => ?_⟩
  obtain ⟨g, off, ha, hc⟩ := h3 hn
  exact ⟨g, off, ha, fun i e he => ⟨blk_cell hb (hc i e he).1, blk_cell hb (hc i e he).2⟩⟩
structure SameW (w w' : World) : Prop where
  heap : w'.heap = w.heap
  os : w'.os = w.os
  tape : w'.tape = w.tape
  output : w'.output = w.output
theorem SameW.refl (w : World) : SameW w w := ⟨rfl, rfl, rfl, rfl⟩
theorem SameW.cell {w w' : World} (h : SameW w w') (a : Addr) : w'.cell? a = w.cell? a := by simp [World.cell?, h.heap]
theorem SameW.below {w w' : World} {N : Nat} (h : SameW w w') : Below N w w' := ⟨h.os, h.tape, h.output, by rw [h.heap]; exact Nat.le_refl _, fun k _ => by rw [h.heap]⟩
theorem SameW.drew {w w' : World} (h : SameW w w') : SameW w w'.drew := ⟨h.heap, h.os, h.tape, h.output⟩
end Go.Proofs.YtjcgnbmpnaapdabDoor
