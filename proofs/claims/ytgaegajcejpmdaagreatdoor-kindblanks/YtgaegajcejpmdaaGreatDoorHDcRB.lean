/- A row of bytes that came in. -/
import Derived.Test.YtgaegajcejpmdaaGreatDoorHJ9
import Derived.ProofKit
import Derived.OpenShut
namespace Go.Proofs.YtgaegajcejpmdaaGreatDoor.Dc
open Go.RowKit
set_option linter.unusedVariables false

theorem wf8 {a : Int} (h : (Lit.int .u8 a).wf = true) : 0 ≤ a ∧ a < 256 := by
  have := range_u8 (zs := [a]) (by intro n hn; simp at hn; subst hn; exact h) 0
  simp at this
  omega
theorem wf64 {a : Int} (h : (Lit.int .i64 a).wf = true) : -9223372036854775808 ≤ a ∧ a ≤ 9223372036854775807 := by
  simp [Lit.wf] at h
  have e1 : IntKind.i64.min = -9223372036854775808 := by decide
  have e2 : IntKind.i64.max = 9223372036854775807 := by decide
  omega
theorem row_btr {w : World} {a : Option Addr} {len cap : Nat} {zs : List Int} (h : (a = none ∧ len = 0 ∧ cap = 0 ∧ zs = []) ∨ ∃ x, a = some x ∧ len ≤ cap ∧ cap ≤ maxLen ∧ zs.length = cap ∧ (∀ i, i < zs.length → w.cell? (x.add i) = some (.int .u8 (zs.getD i 0))) ∧ ∀ n ∈ zs, (Lit.int .u8 n).wf = true) : BtR w (.slice a len cap) (zs.take len) := by
  rcases h with ⟨rfl, rfl, rfl, rfl⟩ | ⟨x, rfl, hl, hm, hz, hcell, hwz⟩
  · exact ⟨none, 0, rfl, Nat.le_refl _, Nat.zero_le _, fun d hd => by simp at hd, .inl rfl⟩
  · have hlen : (zs.take len).length = len := by simp; omega
    refine ⟨some x, cap, by rw [hlen], by omega, hm, fun d hd => ?_, ?_⟩
    · have := hwz d (List.mem_of_mem_take hd)
      exact wf8 this
    · by_cases h0 : len = 0
      · subst h0; exact .inl (by simp)
      · obtain ⟨b, o, spot⟩ := x
        have hc := hcell 0 (by omega)
        have hspot : spot = none := by simpa [Addr.add] using World.cell?_spot hc
        subst hspot
        have hblk : b < w.heap.size := by
          have := World.block_lt_of_cell? w _ hc
          simpa [Addr.add] using this
        refine .inr ⟨b, o, rfl, hblk, fun i hi => ?_⟩
        have hi' : i < len := by omega
        have := hcell i (by omega)
        rw [addr_add] at this
        rw [this]
        simp [List.getD_eq_getElem?_getD, List.getElem?_eq_getElem (show i < zs.length by omega)]
end Go.Proofs.YtgaegajcejpmdaaGreatDoor.Dc
