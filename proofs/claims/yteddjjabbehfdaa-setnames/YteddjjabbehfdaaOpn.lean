/- Rows of ranges that came in, opened. -/
import Derived.Test.YteddjjabbehfdaaMm
import Derived.Deep.Slices
import Derived.Deep.SlicePairs
import Derived.ProofKit
import Derived.OpenShut
import Derived.ShutString
import Derived.ChangeOld
namespace Go.Proofs.Yteddjjabbehfdaa
open Go.RowKit
set_option linter.unusedVariables false

theorem ex_list {α : Type} (Q : Nat → α → Prop) : ∀ n, (∀ i, i < n → ∃ x, Q i x) → ∃ l : List α, l.length = n ∧ ∀ i (hi : i < l.length), Q i (l[i]'hi)
  | 0, _ => ⟨[], rfl, fun i hi => by simp at hi⟩
  | n + 1, h => by
    obtain ⟨l, h1, h2⟩ := ex_list Q n (fun i hi => h i (by omega))
    obtain ⟨x, hx⟩ := h n (by omega)
    refine ⟨l ++ [x], by simp [h1], fun i hi => ?_⟩
    by_cases hin : i < l.length
    · rw [List.getElem_append_left hin]; exact h2 i hin
    · have e : i = l.length := by simp at hi; omega
      rw [List.getElem_append_right (by omega)]
      subst h1
      subst e
      simpa using hx
theorem cel_rg : Try.prog.cellsOf 50 = 2 := by kernel_rfl
theorem cel_i32 : Try.prog.cellsOf 21 = 1 := by kernel_rfl
/-- Letters as Go's 32 bits bear them. -/
def In32 (l : List Rg) : Prop := ∀ r ∈ l, (-2147483648 ≤ r.1 ∧ r.1 ≤ 2147483647) ∧ (-2147483648 ≤ r.2 ∧ r.2 ≤ 2147483647)
theorem wf32 {x : Int} (h : (Lit.int .i32 x).wf = true) : -2147483648 ≤ x ∧ x ≤ 2147483647 := by
  simp [Lit.wf] at h
  have e1 : IntKind.i32.min = -2147483648 := by decide
  have e2 : IntKind.i32.max = 2147483647 := by decide
  omega
section
variable {H : Type} {enc : TypeId × Value → H} {W : World} {sp : Nat → Bool} {held : Bool}
set_option maxRecDepth 100000 in
theorem rgs_of {n : Nat} {c : Value} {y : DataW H × List MemPlace} (h : DataW.trod enc Try.prog W 0 sp held n 22 [c] = some y) : ∃ l : List Rg, Sl .i32 W c l ∧ In32 l := by
  rcases Deep.open_slice_pairs Try.underlying22 Try.underlying50 cel_rg rfl rfl cel_i32 cel_i32 h with ⟨hc, _⟩ | ⟨a, len, cap, m, n', V0, V1, D0, D1, P0, P1, hc, _, hlc, hcm, hm, rfl, hel⟩
  · simp at hc
    subst hc
    exact ⟨[], ⟨none, 0, rfl, Nat.le_refl _, .inl rfl⟩, fun r hr => by simp at hr⟩
  · simp at hc
    subst hc
    have hlm : len ≤ m := by rw [hm]; split <;> omega
    obtain ⟨l, hl, hat⟩ := ex_list (fun i (x : Rg) => (W.cell? (a.add (i * 2)) = some (.int .i32 x.1) ∧ W.cell? (a.add (i * 2 + 1)) = some (.int .i32 x.2)) ∧ (-2147483648 ≤ x.1 ∧ x.1 ≤ 2147483647) ∧ (-2147483648 ≤ x.2 ∧ x.2 ≤ 2147483647)) len (fun i hi => by
      obtain ⟨h0, h1, t0, t1⟩ := hel i (by omega)
      obtain ⟨k0, e0, _, w0⟩ := DataW.trod_int Try.underlying21 t0
      obtain ⟨k1, e1, _, w1⟩ := DataW.trod_int Try.underlying21 t1
      simp at e0 e1
      rw [e0] at h0
      rw [e1] at h1
      exact ⟨(k0, k1), ⟨h0, h1⟩, wf32 w0, wf32 w1⟩)
    refine ⟨l, ⟨some a, cap, by rw [hl], by omega, ?_⟩, fun r hr => ?_⟩
    · by_cases h0 : l = []
      · exact .inl h0
      · have hpos : 0 < l.length := List.length_pos_iff.2 h0
        have hs := World.cell?_spot (hat 0 hpos).1.1
        obtain ⟨b, o, spot⟩ := a
        have hspot : spot = none := by simpa [Addr.add] using hs
        subst hspot
        have hadd : ∀ o i, (⟨b, o, none⟩ : Addr).add i = ⟨b, o + i, none⟩ := fun o i => by
          by_cases h : i = 0 <;> simp [Addr.add, h]
        refine .inr ⟨b, o, rfl, ?_, fun i hi => ?_⟩
        · have := World.block_lt_of_cell? W _ (hat 0 hpos).1.1
          rw [hadd] at this
          exact this
        · obtain ⟨⟨k0, k1⟩, _⟩ := hat i hi
          rw [hadd] at k0 k1
          exact ⟨k0, by rw [Nat.add_assoc]; exact k1⟩
    · obtain ⟨i, hi, rfl⟩ := List.mem_iff_getElem.1 hr
      exact (hat i hi).2
end
end Go.Proofs.Yteddjjabbehfdaa
