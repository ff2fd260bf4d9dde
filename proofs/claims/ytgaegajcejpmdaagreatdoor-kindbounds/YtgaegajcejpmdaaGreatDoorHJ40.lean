/- Joined: HChKnown, HChShare. -/
import Derived.Test.YtgaegajcejpmdaaGreatDoorHChStr
import Derived.Lib.SlBytesConst
namespace Go.Proofs.YtgaegajcejpmdaaGreatDoor.Ch
open Go.RowKit
set_option linter.unusedVariables false

set_option maxHeartbeats 400000 in
theorem space_col (s : ByteArray) (w : World) (hs : s.size ≤ 100000) :
    Calls Tryz.prog 38 #[.string s, .int .i64 3] w fun e w' => e = .returned (.string (sb (col (bl s) [] false))) ∧ Below w.heap.size w w' := by
  go_enter Tryz.func38, Tryz.ntmps38
  go_wp2_with (go_at_call 64; refine (collapse_any _ _ hs).mono ?_; rintro e w' ⟨rfl, hb⟩)
  go_ret
  exact ⟨rfl, ‹_›⟩

theorem below_alloc_then {w w2 : World} {o : Obj} (h : Below (w.alloc o).heap.size (w.alloc o) w2) : Below w.heap.size w w2 :=
  ((Below.refl _ _).alloc (Nat.le_refl _) o).trans (h.mono (by simp))
theorem k_dec : dec [240, 159, 152, 128, 120] = (128512, 4) := by decide +kernel
theorem k_qn : qn ⟨#[97, 58, 98]⟩ = (⟨#[97]⟩, ⟨#[98]⟩, true) := by kernel_rfl
theorem k_col : sb (col (bl ⟨#[32, 97, 32, 9, 32, 98, 32]⟩) [] false) = ⟨#[97, 32, 98]⟩ := by kernel_rfl
theorem k_n1 : nameB (bl ⟨#[120, 49]⟩) = true := by kernel_rfl
theorem k_n2 : nameB (bl ⟨#[49, 120]⟩) = false := by kernel_rfl
theorem k_c : cnt (bl ⟨#[97, 195, 169]⟩).length (bl ⟨#[97, 195, 169]⟩) = 2 := by kernel_rfl

end Go.Proofs.YtgaegajcejpmdaaGreatDoor.Ch
namespace Go.Proofs.YtgaegajcejpmdaaGreatDoor.Ch
open Go.RowKit
set_option linter.unusedVariables false

theorem Bts.below {w w' : World} {a : Option Addr} {l : List Int} (h : Bts w a l) (hb : Below w.heap.size w w') : Bts w' a l := by
  refine ⟨h.1, ?_⟩
  rcases h.2 with h0 | ⟨b, o, rfl, hc⟩
  · exact .inl h0
  · refine .inr ⟨b, o, rfl, fun i hi => ?_⟩
    have := hc i hi
    exact (hb.cell (World.block_lt_of_cell? w _ this)).trans this
theorem conv_bts (a : Option Addr) (cap : Nat) (l : List Int) (w : World) (h : Bts w a l) (h0 : a = none → l = [] ∧ cap = 0) : (convert 32 9 (.slice a l.length cap)).run Tryz.prog w = .ok (.string (sb l)) w := by
  rcases h.2 with rfl | ⟨b, o, rfl, hc⟩
  · cases a with
    | none => obtain ⟨_, rfl⟩ := h0 rfl; exact conv_nil w
    | some x =>
      obtain ⟨b, o, sp⟩ := x
      rw [run_convert_bytes_string w 32 9 5 _ _ _ Tryz.underlying32 Tryz.underlying5 Tryz.underlying9]
      rfl
  · exact conv_string b o cap l w hc

theorem bts_drewN {w : World} {a : Option Addr} {l : List Int} (h : Bts w a l) (n : Nat) : Bts (w.drewN n) a l := by
  refine ⟨h.1, ?_⟩
  rcases h.2 with h0 | ⟨b, o, rfl, hc⟩
  · exact .inl h0
  · exact .inr ⟨b, o, rfl, fun i hi => hc i hi⟩
theorem fin_rng (r n : Int) : -1 ≤ (fin r n).1 ∧ (fin r n).1 ≤ 1114111 ∨ n = 0 := by
  unfold fin
  split
  · rename_i h
    by_cases h0 : n = 0
    · exact .inr h0
    · refine .inl ?_
      rw [← h] at h0
      unfold wid at h0
      simp only
      repeat' split at h0
      all_goals (first | omega | simp at h0)
  · simp
theorem dec_rng (l : List Int) (hby : ∀ i, 0 ≤ l.getD i 0 ∧ l.getD i 0 < 256) : -1 ≤ (dec l).1 ∧ (dec l).1 ≤ 1114111 := by
  have h0 := hby 0
  unfold dec dec2 dec3 dec4
  repeat' split
  all_goals (first | (simp; done) | (have h := fin_rng (l.getD 0 0 % 32 * 64 + l.getD 1 0 % 64) 2; omega) | (have h := fin_rng ((l.getD 0 0 % 16 * 64 + l.getD 1 0 % 64) * 64 + l.getD 2 0 % 64) 3; omega) | (have h := fin_rng (((l.getD 0 0 % 8 * 64 + l.getD 1 0 % 64) * 64 + l.getD 2 0 % 64) * 64 + l.getD 3 0 % 64) 4; omega) | (dsimp only; omega))
/-- What stays as it was while the statement goes on: the row of bytes, and all that lay there at its begin. -/
def Kept (w : World) (a : Option Addr) (l : List Int) (W : World) : Prop := Bts W a l ∧ Below w.heap.size w W
theorem Kept.drew {w W : World} {a : Option Addr} {l : List Int} (h : Kept w a l W) : Kept w a l W.drew := ⟨bts_drewN h.1 1, h.2.drew⟩
theorem Kept.step {w W W' : World} {a : Option Addr} {l : List Int} (h : Kept w a l W) (hb : Below W.heap.size W W') : Kept w a l W' := ⟨Bts.below h.1 hb, h.2.trans (hb.mono h.2.size)⟩
theorem wrap_i64_of (x : Int) (h0 : -9223372036854775808 ≤ x) (h1 : x ≤ 9223372036854775807) : IntKind.i64.wrap x = x := by
  simp [IntKind.wrap, IntKind.bits, IntKind.signed]
  split <;> omega
end Go.Proofs.YtgaegajcejpmdaaGreatDoor.Ch
