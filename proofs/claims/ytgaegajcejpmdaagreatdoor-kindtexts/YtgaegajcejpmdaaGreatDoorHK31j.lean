/- strings.Join at a blank, of a few short texts. -/
import Derived.Test.YtgaegajcejpmdaaGreatDoorHKM
import Derived.Test.YtgaegajcejpmdaaGreatDoorHLayJ
namespace Go.Proofs.YtgaegajcejpmdaaGreatDoor
open Go.RowKit
set_option linter.unusedVariables false

theorem join_p (bk o c : Nat) (xs : List ByteArray) (w : World) (hcells : ∀ (j : Nat) x, xs[j]? = some x → w.cell? ⟨bk, o + j, none⟩ = some (.string x)) (hbk : bk < w.heap.size) (hN : xs.length ≤ 20) (hcap : xs.length ≤ c) (hlen : (Lib.join (xs.map (·.data.toList)) [32]).length ≤ 100000) :
    Calls Tryz.prog 86 #[.slice (some ⟨bk, o, none⟩) xs.length c, .string ⟨#[32]⟩] w fun e w' => e = .returned (.string ⟨(Lib.join (xs.map (·.data.toList)) [32]).toArray⟩) ∧ Below w.heap.size w w' := by
  exact Tryz.strings_Join bk o c xs ⟨#[32]⟩ w hcells hbk (by omega) hcap (Nat.le_trans hlen (by decide))
end Go.Proofs.YtgaegajcejpmdaaGreatDoor
