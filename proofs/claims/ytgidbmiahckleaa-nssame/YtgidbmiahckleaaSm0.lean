/- Two prefixes of one space: plain. -/
import Derived.Test.YtgidbmiahckleaaNs14
namespace Go.Proofs.Ytgidbmiahckleaa
open Go.RowKit
set_option linter.unusedVariables false

def nn2 (f : UInt8) (i : Nat) : ByteArray := ⟨#[f, UInt8.ofNat (97 + i)]⟩
abbrev xB : ByteArray := ⟨#[120]⟩
abbrev eB : ByteArray := ⟨#[]⟩
theorem f_qpl : ∀ i j : Fin 26, qn (nn2 112 i ++ ⟨#[58]⟩ ++ nn2 108 j) = (nn2 112 i, nn2 108 j, true) ∧ hpB (nn2 112 i ++ ⟨#[58]⟩ ++ nn2 108 j) = false := by decide +kernel
theorem f_qql : ∀ i j : Fin 26, qn (nn2 113 i ++ ⟨#[58]⟩ ++ nn2 108 j) = (nn2 113 i, nn2 108 j, true) := by decide +kernel
theorem f_px : ∀ i : Fin 26, qn (nn2 112 i ++ ⟨#[58, 120]⟩) = (nn2 112 i, xB, true) ∧ hpB (nn2 112 i ++ ⟨#[58, 120]⟩) = false ∧ bindS (nn2 112 i ++ ⟨#[58, 120]⟩) = (nn2 112 i ++ ⟨#[58, 120]⟩, false) ∧ decide (0 ≤ ix (bl (nn2 112 i ++ ⟨#[58, 120]⟩))) = true := by decide +kernel
theorem f_qx : ∀ i : Fin 26, qn (nn2 113 i ++ ⟨#[58, 120]⟩) = (nn2 113 i, xB, true) ∧ hpB (nn2 113 i ++ ⟨#[58, 120]⟩) = false ∧ bindS (nn2 113 i ++ ⟨#[58, 120]⟩) = (nn2 113 i ++ ⟨#[58, 120]⟩, false) ∧ decide (0 ≤ ix (bl (nn2 113 i ++ ⟨#[58, 120]⟩))) = true := by decide +kernel
theorem f_l : ∀ i : Fin 26, qn (nn2 108 i) = (eB, nn2 108 i, true) ∧ hpB (nn2 108 i) = false := by decide +kernel
theorem f_x : qn xB = (eB, xB, true) ∧ hpB xB = false ∧ bindS xB = (xB, false) ∧ decide (0 ≤ ix (bl xB)) = false := by decide +kernel
theorem f_bp : ∀ i : Fin 26, bindS (⟨#[120, 109, 108, 110, 115, 58]⟩ ++ nn2 112 i) = (nn2 112 i, true) ∧ ncB (bl (nn2 112 i)) = true ∧ nn2 112 i ≠ xmlB ∧ (nn2 112 i).toList ≠ xnL ∧ (nn2 112 i).toList ≠ xmL ∧ (⟨#[120, 109, 108, 110, 115, 58]⟩ ++ nn2 112 i : ByteArray).toList ≠ xnL := by decide +kernel
theorem f_bq : ∀ i : Fin 26, bindS (⟨#[120, 109, 108, 110, 115, 58]⟩ ++ nn2 113 i) = (nn2 113 i, true) ∧ ncB (bl (nn2 113 i)) = true ∧ nn2 113 i ≠ xmlB ∧ (nn2 113 i).toList ≠ xnL ∧ (nn2 113 i).toList ≠ xmL ∧ (⟨#[120, 109, 108, 110, 115, 58]⟩ ++ nn2 113 i : ByteArray).toList ≠ xnL := by decide +kernel
theorem f_bd : bindS ⟨#[120, 109, 108, 110, 115]⟩ = (eB, true) ∧ (⟨#[120, 109, 108, 110, 115]⟩ : ByteArray).toList = xnL ∧ eB ≠ xmlB ∧ eB.toList ≠ xnL ∧ eB.toList ≠ xmL := by decide +kernel
theorem f_ne : ∀ i j : Fin 26, (nn2 112 i == nn2 113 j) = false ∧ (nn2 113 j == nn2 112 i) = false ∧ (nn2 112 i == eB) = false ∧ (eB == nn2 112 i) = false ∧ (nn2 113 j == eB) = false ∧ (eB == nn2 113 j) = false := by decide +kernel
end Go.Proofs.Ytgidbmiahckleaa
