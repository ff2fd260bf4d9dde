/- A row of bytes that came in. -/
import Derived.Test.YtknfipcegmajaaaDoorHJ18
import Derived.Test.YtknfipcegmajaaaDoorHOpn
import Derived.ProofKit
import Derived.OpenShut
namespace Go.Proofs.YtknfipcegmajaaaDoor
open Go.RowKit
set_option linter.unusedVariables false

theorem wf8 {a : Int} (h : (Lit.int .u8 a).wf = true) : 0 ≤ a ∧ a < 256 := by
  have := range_u8 (zs := [a]) (by intro n hn; simp at hn; subst hn; exact h) 0
  simp at this
  omega
theorem row_in {w : World} {a : Option Addr} {len cap : Nat} {zs : List Int} (h : (a = none ∧ len = 0 ∧ cap = 0 ∧ zs = []) ∨ ∃ x, a = some x ∧ len ≤ cap ∧ cap ≤ maxLen ∧ zs.length = cap ∧ (∀ i, i < zs.length → w.cell? (x.add i) = some (.int .u8 (zs.getD i 0))) ∧ ∀ n ∈ zs, (Lit.int .u8 n).wf = true) : (zs.take len).length = len ∧ len ≤ maxLen ∧ (∀ d ∈ zs.take len, 0 ≤ d ∧ d < 256) ∧ BtIn w a (zs.take len) := by
  rcases h with ⟨rfl, rfl, rfl, rfl⟩ | ⟨x, rfl, hl, hm, hz, hcell, hwz⟩
  · exact ⟨rfl, Nat.zero_le _, fun d hd => by simp at hd, .inl rfl⟩
  · have hlen : (zs.take len).length = len := by simp; omega
    refine ⟨hlen, by omega, fun d hd => wf8 (hwz d (List.mem_of_mem_take hd)), ?_⟩
    by_cases h0 : len = 0
    · subst h0; exact .inl (by simp)
    · obtain ⟨b, o, spot⟩ := x
      have hc := hcell 0 (by omega)
      have hspot : spot = none := by simpa [Addr.add] using World.cell?_spot hc
      subst hspot
      have hblk : b < w.heap.size := by
        have := World.block_lt_of_cell? w _ hc
        simpa [Addr.add] using this
      refine .inr ⟨b, o, rfl, hblk, fun i hi => ?_⟩
      have hi' : i < len := by omega
      have := hcell i (by omega)
      rw [addr_off] at this
      rw [this]
      simp [List.getD_eq_getElem?_getD, List.getElem?_eq_getElem (show i < zs.length by omega)]
theorem spaces_in {w : World} {a : Option Addr} {len cap : Nat} {zs : List Int} (o p : Bool) (y : Int) (h : (a = none ∧ len = 0 ∧ cap = 0 ∧ zs = []) ∨ ∃ x, a = some x ∧ len ≤ cap ∧ cap ≤ maxLen ∧ zs.length = cap ∧ (∀ i, i < zs.length → w.cell? (x.add i) = some (.int .u8 (zs.getD i 0))) ∧ ∀ n ∈ zs, (Lit.int .u8 n).wf = true) (hy : (Lit.int .u8 y).wf = true) :
    Calls Tryd.prog 6 #[.slice a len cap, .bool o, .bool p, .int .u8 y] w fun e w' => e = .returned (.bool true) ∧ Below w.heap.size w w' := by
  obtain ⟨h1, h2, h3, h4⟩ := row_in h
  have q := spaces_s a cap (zs.take len) o p y w h3 (by rw [h1]; exact h2) h4 (wf8 hy)
  rw [h1] at q
  exact q
end Go.Proofs.YtknfipcegmajaaaDoor
