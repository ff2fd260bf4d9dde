/- The statements' own look at known letters and texts answers true. -/
import Derived.Test.YtpghlafkkcffgaaDoorStr
import Derived.Lib.SlBytesConst
namespace Go.Proofs.YtpghlafkkcffgaaDoor
open Go.RowKit
set_option linter.unusedVariables false

set_option maxHeartbeats 400000 in
theorem space_col (s : ByteArray) (w : World) (hs : s.size ≤ 100000) :
    Calls Tryd.prog 14 #[.string s, .int .i64 3] w fun e w' => e = .returned (.string (sb (col (bl s) [] false))) ∧ Below w.heap.size w w' := by
  go_enter Tryd.func14, Tryd.ntmps14
  go_wp2_with (go_at_call 29; refine (collapse_any _ _ hs).mono ?_; rintro e w' ⟨rfl, hb⟩)
  go_ret
  exact ⟨rfl, ‹_›⟩

theorem below_alloc_then {w w2 : World} {o : Obj} (h : Below (w.alloc o).heap.size (w.alloc o) w2) : Below w.heap.size w w2 :=
  ((Below.refl _ _).alloc (Nat.le_refl _) o).trans (h.mono (by simp))
theorem k_dec : dec [240, 159, 152, 128, 120] = (128512, 4) := by decide +kernel
theorem k_qn : qn ⟨#[97, 58, 98]⟩ = (⟨#[97]⟩, ⟨#[98]⟩, true) := by kernel_rfl
theorem k_col : sb (col (bl ⟨#[32, 97, 32, 9, 32, 98, 32]⟩) [] false) = ⟨#[97, 32, 98]⟩ := by kernel_rfl
theorem k_n1 : nameB (bl ⟨#[120, 49]⟩) = true := by kernel_rfl
theorem k_n2 : nameB (bl ⟨#[49, 120]⟩) = false := by kernel_rfl
theorem k_c : cnt (bl ⟨#[97, 195, 169]⟩).length (bl ⟨#[97, 195, 169]⟩) = 2 := by kernel_rfl

set_option maxHeartbeats 400000 in
theorem known_any (w : World) :
    Calls Tryd.prog 5 #[] w fun e w' => e = .returned (.bool true) ∧ Below w.heap.size w w' := by
  have hcs := fun (w : World) (C : Array Value) (n c : Nat) => Lib.run_convert_bytes_const (P := Tryd.prog) w 33 5 C n c Tryd.underlying33 Tryd.underlying5
  go_enter Tryd.func5, Tryd.ntmps5
  go_wp2_with fail
  refine (decode_any _ [240, 159, 152, 128, 120] 5 _ (by decide) (by decide) ⟨?_, .inr ⟨_, _, rfl, ?_⟩⟩).mono ?_
  · intro i
    match i with
    | 0 => decide
    | 1 => decide
    | 2 => decide
    | 3 => decide
    | 4 => decide
    | n + 5 => simp
  · intro i hi
    match i, hi with
    | 0, _ => exact World.cell?_alloc_mark _ _ _ _ _
    | 1, _ => exact World.cell?_alloc_mark _ _ _ _ _
    | 2, _ => exact World.cell?_alloc_mark _ _ _ _ _
    | 3, _ => exact World.cell?_alloc_mark _ _ _ _ _
    | 4, _ => exact World.cell?_alloc_mark _ _ _ _ _
    | n + 5, h => simp at h; omega
  rw [k_dec]
  rintro e w1 ⟨rfl, rfl⟩
  go_wp2_with fail
  refine (qname_any _ _ (by decide)).mono ?_
  rw [k_qn]
  rintro e w2 ⟨rfl, hb2⟩
  go_wp2_with fail
  refine (space_col _ _ (by decide)).mono ?_
  rw [k_col]
  rintro e w3 ⟨rfl, hb3⟩
  go_wp2_with fail
  refine (name_any _ _ (by decide)).mono ?_
  rw [k_n1]
  rintro e w4 ⟨rfl, hb4⟩
  go_wp2_with fail
  refine (name_any _ _ (by decide)).mono ?_
  rw [k_n2]
  rintro e w5 ⟨rfl, hb5⟩
  go_wp2_with fail
  refine (count_any _ _ (by decide)).mono ?_
  rw [k_c]
  rintro e w6 ⟨rfl, hb6⟩
  go_wp2
  go_ret
  refine ⟨rfl, ?_⟩
  have h2 := below_alloc_then hb2
  have h3 := h2.trans (hb3.mono h2.size)
  have h4 := h3.trans (hb4.mono h3.size)
  have h5 := h4.trans (hb5.mono h4.size)
  exact h5.trans (hb6.mono h5.size)
end Go.Proofs.YtpghlafkkcffgaaDoor
