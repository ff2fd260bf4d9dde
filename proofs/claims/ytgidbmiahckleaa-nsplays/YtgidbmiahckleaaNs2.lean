/- Names that bind: HasPrefix, CutPrefix, binding, mayBind; element, attribute. -/
import Derived.Test.YtgidbmiahckleaaNs1
namespace Go.Proofs.Ytgidbmiahckleaa
open Go.RowKit
set_option linter.unusedVariables false

def xnB : ByteArray := ⟨#[120, 109, 108, 110, 115, 58]⟩
def xnsB : ByteArray := ⟨#[120, 109, 108, 110, 115]⟩
def XNS : ByteArray := ⟨#[104, 116, 116, 112, 58, 47, 47, 119, 119, 119, 46, 119, 51, 46, 111, 114, 103, 47, 50, 48, 48, 48, 47, 120, 109, 108, 110, 115, 47]⟩
def hpB (s : ByteArray) : Bool := decide (6 ≤ s.size) && (s.extract 0 6 == xnB)
set_option maxRecDepth 100000 in
theorem hpl_s (s : ByteArray) (w : World) (hs : s.size ≤ maxLen) : Calls Try.prog 68 #[.string s, .string ⟨#[120, 109, 108, 110, 115, 58]⟩] w fun e w' => e = .returned (.bool (hpB s)) ∧ w' = w := by
  unfold maxLen at hs
  by_cases h6 : 6 ≤ s.size
  · have hI : (6 : Int) ≤ (s.size : Int) := by omega
    have hv : hpB s = ((s.extract 0 6).toList == (⟨#[120, 109, 108, 110, 115, 58]⟩ : ByteArray).toList) := by
      unfold hpB xnB
      rw [decide_eq_true h6, Bool.true_and, beq_toListBytes]
    rw [hv]
    go_enter Try.func68, Try.ntmps68
    go_wp2_with fail
    go_ret
    exact ⟨by first | rfl | simp [tl_mk], rfl⟩
  · have hv : hpB s = false := by unfold hpB; rw [decide_eq_false h6, Bool.false_and]
    have hI : ¬ (6 : Int) ≤ (s.size : Int) := by omega
    rw [hv]
    go_enter Try.func68, Try.ntmps68
    go_wp2_with fail
    go_ret
    exact ⟨rfl, rfl⟩
theorem hp_s (s : ByteArray) (w : World) (hs : s.size ≤ maxLen) : Calls Try.prog 49 #[.string s, .string ⟨#[120, 109, 108, 110, 115, 58]⟩] w fun e w' => e = .returned (.bool (hpB s)) ∧ w' = w := by
  go_enter Try.func49, Try.ntmps49
  go_wp2_with (first | (go_at_call 68; refine (hpl_s s _ hs).mono ?_; rintro e w' ⟨rfl, rfl⟩))
  go_ret
  exact ⟨rfl, rfl⟩
/-- What CutPrefix answers. -/
def cpS (s : ByteArray) : ByteArray × Bool := if hpB s = true then (s.extract 6 s.size, true) else (s, false)
set_option maxRecDepth 100000 in
theorem cpl_s (s : ByteArray) (w : World) (hs : s.size ≤ maxLen) : Calls Try.prog 63 #[.string s, .string ⟨#[120, 109, 108, 110, 115, 58]⟩] w fun e w' => e = .returned (.tuple #[.string (cpS s).1, .bool (cpS s).2]) ∧ w' = w := by
  have hh := hpl_s s w hs
  have hc : cpS s = if hpB s = true then (s.extract 6 s.size, true) else (s, false) := rfl
  have h6 : hpB s = true → 6 ≤ s.size := fun h => by unfold hpB at h; simp at h; exact h.1
  generalize cpS s = C at *
  generalize hpB s = b at *
  have HH : Hid _ := hh
  have HC : Hid _ := hc
  clear hh hc
  unfold maxLen at hs
  cases b
  · go_enter Try.func63, Try.ntmps63
    go_wp2_with (first | (go_at_call 68; refine Calls.mono HH.out ?_; rintro e w' ⟨rfl, rfl⟩))
    go_ret2
    exact ⟨by rw [HC.out]; rfl, rfl⟩
  · have h7 := h6 rfl
    have hI : (6 : Int) ≤ (s.size : Int) := by omega
    clear h6
    go_enter Try.func63, Try.ntmps63
    go_wp2_with (first | (go_at_call 68; refine Calls.mono HH.out ?_; rintro e w' ⟨rfl, rfl⟩))
    go_ret2
    exact ⟨by rw [HC.out]; rfl, rfl⟩
theorem cp_s (s : ByteArray) (w : World) (hs : s.size ≤ maxLen) : Calls Try.prog 46 #[.string s, .string ⟨#[120, 109, 108, 110, 115, 58]⟩] w fun e w' => e = .returned (.tuple #[.string (cpS s).1, .bool (cpS s).2]) ∧ w' = w := by
  go_enter Try.func46, Try.ntmps46
  go_wp2_with (first | (go_at_call 63; refine (cpl_s s _ hs).mono ?_; rintro e w' ⟨rfl, rfl⟩))
  go_ret2
  exact ⟨rfl, rfl⟩
/-- The prefix that a name binds, and whether it binds one. -/
def bindS (s : ByteArray) : ByteArray × Bool := if s = xnsB then (⟨#[]⟩, true) else cpS s
set_option maxRecDepth 100000 in
theorem binding_s (s : ByteArray) (w : World) (hs : s.size ≤ maxLen) : Calls Try.prog 37 #[.string s] w fun e w' => e = .returned (.tuple #[.string (bindS s).1, .bool (bindS s).2]) ∧ w' = w := by
  have hc : bindS s = if s = xnsB then (⟨#[]⟩, true) else cpS s := rfl
  generalize bindS s = C at *
  have HC : Hid _ := hc
  clear hc
  by_cases hx : s = xnsB
  · have HX : Hid _ := hx
    subst hx
    unfold xnsB
    go_enter Try.func37, Try.ntmps37
    go_wp2_with fail
    go_ret2
    exact ⟨by rw [HC.out]; rfl, rfl⟩
  · have HX : Hid _ := hx
    have hx1 : ¬ s.toList = [120, 109, 108, 110, 115] := fun q => hx ((tl_eq _ _).1 (by rw [q]; exact (tl_mk _).symm))
    have hx3 : (s.toList == [120, 109, 108, 110, 115]) = false := by simpa using hx1
    clear hx
    go_enter Try.func37, Try.ntmps37
    go_wp2_with (first | (go_at_call 46; refine (cp_s s _ hs).mono ?_; rintro e w' ⟨rfl, rfl⟩))
    go_ret2
    exact ⟨by rw [HC.out, if_neg HX.out]; rfl, rfl⟩
end Go.Proofs.Ytgidbmiahckleaa
