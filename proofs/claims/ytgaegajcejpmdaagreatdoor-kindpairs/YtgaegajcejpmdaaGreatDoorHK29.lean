/- KindPairs' walk, whatever texts came. -/
import Derived.Test.YtgaegajcejpmdaaGreatDoorHJ25
import Derived.Test.YtgaegajcejpmdaaGreatDoorHK16w
namespace Go.Proofs.YtgaegajcejpmdaaGreatDoor
open Go.RowKit
set_option linter.unusedVariables false
set_option linter.unusedSimpArgs false

set_option maxRecDepth 100000 in
set_option maxHeartbeats 1600000 in
theorem pairs_all (k j : Int) (s t : ByteArray) (w : World) (hw : Lw w) : Calls Tryz.prog 5 #[.int .i64 k, .string s, .int .i64 j, .string t] w fun e w' => e = .returned (.bool true) ∧ Below w.heap.size w w' := by
  by_cases hs : 400 < s.size
  · have b1 : (400 : Int) < (s.size : Int) := by omega
    go_enter Tryz.func5, Tryz.ntmps5
    go_wp2_with (go_at_call 8; refine Calls.mono (known_l _ hw) ?_; rintro e w1 ⟨rfl, hb1⟩; have HB1 : Hid _ := hb1; clear hb1)
    go_ret
    exact ⟨rfl, HB1.out⟩
  by_cases ht : 400 < t.size
  · have b1 : ¬ ((400 : Int) < (s.size : Int)) := by omega
    have b2 : (400 : Int) < (t.size : Int) := by omega
    go_enter Tryz.func5, Tryz.ntmps5
    go_wp2_with (go_at_call 8; refine Calls.mono (known_l _ hw) ?_; rintro e w1 ⟨rfl, hb1⟩; have HB1 : Hid _ := hb1; clear hb1)
    go_ret
    exact ⟨rfl, HB1.out⟩
  exact pairs_s k j s t w hw (by omega) (by omega)
end Go.Proofs.YtgaegajcejpmdaaGreatDoor
