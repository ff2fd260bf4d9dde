/- The statements own Of. -/
import Derived.Test.YtakemkhgaicckaaB0
namespace Go.Proofs.Ytakemkhgaicckaa
open Go.RowKit
set_option linter.unusedVariables false

/-- Of. -/
theorem of_s {w : World} (neg : Bool) (a : Option Addr) (n c : Nat) (sc : Int) : Calls Try.prog 12 #[nmV neg (.slice a n c) sc] w fun e w' => e = .returned (nmV neg (.slice a n c) sc) ∧ Below w.heap.size w w' := by
  have hb0 : ∀ o o', Below w.heap.size w ((w.alloc o).alloc o') := fun o o' => ((Below.refl _ _).alloc (Nat.le_refl _) o).alloc (by simp) o'
  have HB : Hid _ := hb0
  clear hb0
  go_enter Try.func12, Try.ntmps12
  go_wp2_with fail
  exact bodyPost_ret (v := nmV neg (.slice a n c) sc) (by simp [results, Try.results12, go_sem]) rfl ⟨rfl, HB.out _ _⟩
end Go.Proofs.Ytakemkhgaicckaa
