/- Rows of rows, as cells. -/
import Derived.Test.YtgidbmiahckleaaRf8
namespace Go.Proofs.Ytgidbmiahckleaa
open Go.RowKit
set_option linter.unusedVariables false

theorem RowB.one {w : World} {u : Value} {b : Bs} (h : RowB w u b) : u.oneCell' = true := by
  obtain ⟨a, cap, rfl, _⟩ := h
  rfl
/-- Rows of rows out of an owned row of slices. -/
theorem rowL_own {w : World} {base n : Nat} {v : Value} {vs : List Value} {L : List Bs} (h : w.ownsRow base 64 1 v n vs) (hn : n = L.length) (hb : ∀ i (hi : i < L.length), ∃ u, vs[i]? = some u ∧ RowB w u (L[i]'hi)) : RowL w v L := by
  subst hn
  rcases h.2 with ⟨rfl, h0⟩ | ⟨g, cap, cur, rfl, hbg, hg, h1, h2, _⟩
  · exact ⟨none, 0, by rw [h0], by omega, Nat.zero_le _, .inl (List.eq_nil_of_length_eq_zero h0)⟩
  · refine ⟨_, cap, rfl, h1, h2, .inr ⟨g, 0, rfl, lt_of hg, fun i hi => ?_⟩⟩
    obtain ⟨u, hu, hr⟩ := hb i hi
    have := h.cells (g := g) rfl i u hu
    rw [addr_add0] at this
    exact ⟨u, by rw [Nat.zero_add]; exact this, hr⟩
/-- The slices that rows of rows are made of. -/
theorem rowL_vs {w : World} {v : Value} {L : List Bs} (h : RowL w v L) : ∃ (a : Option Addr) (cap : Nat) (vs : List Value), v = .slice a L.length cap ∧ vs.length = L.length ∧ (∀ i (hi : i < L.length), ∃ u, vs[i]? = some u ∧ RowB w u (L[i]'hi)) ∧ (∀ u ∈ vs, u.oneCell' = true) ∧ (L.length = 0 ∨ ∃ ad : Addr, a = some ad ∧ ad.block < w.heap.size ∧ ∀ j u, vs[j]? = some u → w.cell? (ad.add j) = some u) := by
  obtain ⟨a, cap, rfl, h1, h2, h3⟩ := h
  rcases h3 with rfl | ⟨g, o, rfl, hg, hc⟩
  · exact ⟨a, cap, [], rfl, rfl, fun i hi => absurd hi (by simp), fun u hu => by simp at hu, .inl rfl⟩
  · let f : Fin L.length → Value := fun i => Classical.choose (hc i.1 i.2)
    have hf : ∀ i (hi : i < L.length), w.cell? ⟨g, o + i, none⟩ = some (f ⟨i, hi⟩) ∧ RowB w (f ⟨i, hi⟩) (L[i]'hi) := fun i hi => Classical.choose_spec (hc i hi)
    have hget : ∀ i (hi : i < L.length), (List.ofFn f)[i]? = some (f ⟨i, hi⟩) := fun i hi => by
      rw [List.getElem?_eq_getElem (by simpa using hi), List.getElem_ofFn]
    refine ⟨_, cap, List.ofFn f, rfl, by simp, fun i hi => ⟨_, hget i hi, (hf i hi).2⟩, fun u hu => ?_, .inr ⟨_, rfl, hg, fun j u hu => ?_⟩⟩
    · obtain ⟨i, hi, rfl⟩ := List.mem_iff_getElem.1 hu
      rw [List.getElem_ofFn]
      exact (hf i (by simpa using hi)).2.one
    · have hj : j < L.length := by
        have := (List.getElem?_eq_some_iff.1 hu).1
        simpa using this
      rw [hget j hj] at hu
      have e : f ⟨j, hj⟩ = u := Option.some.inj hu
      rw [addr_add, ← e]
      exact (hf j hj).1
theorem info64 : (Try.prog.info? 64).map (fun i => (i.zero.map fun z => z.cells.size, i.size, i.bytes)) = some (some 1, 1, 24) := by kernel_rfl
theorem info64p : ∃ i z, Try.prog.info? 64 = some i ∧ i.zero = some z ∧ z.cells.size = 1 ∧ i.size = 1 ∧ i.bytes = 24 := by
  have := info64
  cases h : Try.prog.info? 64 with
  | none => rw [h] at this; simp at this
  | some i =>
    rw [h] at this
    simp at this
    obtain ⟨⟨z, h1, h2⟩, h3, h4⟩ := this
    exact ⟨i, z, rfl, h1, h2, h3, h4⟩
end Go.Proofs.Ytgidbmiahckleaa
