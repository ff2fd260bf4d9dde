/- The statements own same. -/
import Derived.Test.YtakemkhgaicckaaDoorB0
namespace Go.Proofs.YtakemkhgaicckaaDoor
open Go.RowKit
set_option linter.unusedVariables false

/-- same, of the same. -/
theorem same_s {w : World} {v v' : Value} {l : List Int} (h : BtR w v l) (h' : BtR w v' l) (neg : Bool) (sc : Int) : Calls Tryd.prog 6 #[nmV neg v sc, nmV neg v' sc] w fun e w' => e = .returned (.bool true) ∧ Below w.heap.size w w' := by
  obtain ⟨a, cap, rfl, _⟩ := h.form
  obtain ⟨a', cap', rfl, _⟩ := h'.form
  have hb : Below w.heap.size w ((w.alloc (.cells #[.bool neg, .slice a l.length cap, .int .i64 sc] 25)).alloc (.cells #[.bool neg, .slice a' l.length cap', .int .i64 sc] 28)) := ((Below.refl _ _).alloc (Nat.le_refl _) _).alloc (by simp) _
  have c1 := conv_str (h.below hb)
  have c2 := conv_str (h'.below hb)
  have HB : Hid _ := hb
  clear hb h h'
  go_enter Tryd.func6, Tryd.ntmps6
  go_wp2_with fail
  go_ret
  exact ⟨rfl, HB.out⟩
end Go.Proofs.YtakemkhgaicckaaDoor
