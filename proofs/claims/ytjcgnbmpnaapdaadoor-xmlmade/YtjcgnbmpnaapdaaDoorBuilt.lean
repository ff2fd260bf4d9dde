/- Strings that a law builds, and their bytes in memory. -/
import Derived.Test.YtjcgnbmpnaapdaaDoorQ22
import Derived.Test.YtjcgnbmpnaapdaaDoorM14
import Derived.Deep.QuietTactic
import Derived.BigQuiet
namespace Go.Proofs.YtjcgnbmpnaapdaaDoor
open Go.RowKit
set_option linter.unusedVariables false

theorem sb_append (a b : Bs) : sb a ++ sb b = sb (a ++ b) := by
  unfold sb
  rw [List.map_append]
  apply ByteArray.ext
  rw [ByteArray.data_append]
  simp
theorem bd_append {a b : Bs} (ha : Bd a) (hb : Bd b) : Bd (a ++ b) := by
  intro i
  rw [List.getD_eq_getElem?_getD]
  by_cases h : i < a.length
  · rw [List.getElem?_append_left h, ← List.getD_eq_getElem?_getD]; exact ha i
  · rw [List.getElem?_append_right (by omega), ← List.getD_eq_getElem?_getD]; exact hb _
theorem bd_mem {a : Bs} (h : ∀ c ∈ a, 0 ≤ c ∧ c < 256) : Bd a := by
  intro i
  rw [List.getD_eq_getElem?_getD]
  by_cases hi : i < a.length
  · rw [List.getElem?_eq_getElem hi]; exact h _ (List.getElem_mem hi)
  · rw [List.getElem?_eq_none (by omega)]; simp
theorem mem_bd {a : Bs} (h : Bd a) : ∀ c ∈ a, 0 ≤ c ∧ c < 256 := by
  intro c hc
  obtain ⟨i, hi, rfl⟩ := List.getElem_of_mem hc
  have := h i
  rw [List.getD_eq_getElem?_getD, List.getElem?_eq_getElem hi] at this
  exact this
theorem bi_conv {w1 : World} {b cap : Nat} {l : Bs} (hbd : Bd l) (hc : Bts w1 (some ⟨b, 0, none⟩) (bl (sb l))) (hl : l.length ≤ maxLen) : BI w1 (.slice (some ⟨b, 0, none⟩) (sb l).size cap) l := by
  rw [bl_sb l hbd] at hc
  refine ⟨?_, hbd, hl⟩
  rcases hc.2 with h0 | ⟨b', o', he, hcl⟩
  · refine .inr ⟨⟨b, 0, none⟩, cap, by rw [sb_size], fun j u hu => ?_⟩
    rw [h0] at hu
    simp at hu
  · simp at he
    obtain ⟨rfl, rfl⟩ := he
    refine .inr ⟨⟨b, 0, none⟩, cap, by rw [sb_size], fun j u hu => ?_⟩
    rw [List.getElem?_map] at hu
    obtain ⟨z, hz1, rfl⟩ := Option.map_eq_some_iff.1 hu
    have hj := (List.getElem?_eq_some_iff.1 hz1).1
    have q := hcl j hj
    rw [addr_add, q, List.getD_eq_getElem?_getD, hz1]
    rfl
/-- A string's bytes made: their world, and what is in it. -/
theorem conv_bi (l : Bs) (w : World) (hbd : Bd l) (hl : l.length ≤ maxLen) : ∃ cap w1, (convert 9 25 (.string (sb l))).run Tryd.prog w = .ok (.slice (some ⟨w.heap.size, 0, none⟩) (sb l).size cap) w1 ∧ Below w.heap.size w w1 ∧ BI w1 (.slice (some ⟨w.heap.size, 0, none⟩) (sb l).size cap) l := by
  obtain ⟨cap, w1, h1, h2, h3, h4, h5, h6⟩ := conv_bytes (sb l) w (by rw [sb_size]; exact hl)
  exact ⟨cap, w1, h3, h4, bi_conv hbd h6 hl⟩
end Go.Proofs.YtjcgnbmpnaapdaaDoor
