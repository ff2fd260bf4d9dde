/- The second telling: zero. -/
import Derived.Test.YtakemkhgaicckaaDoorB0
namespace Go.Proofs.YtakemkhgaicckaaDoor
open Go.RowKit
set_option linter.unusedVariables false

set_option maxRecDepth 100000 in
theorem zero_r {w : World} {v : Value} {l : List Int} (h : BtR w v l) (neg : Bool) (sc : Int) : Calls Tryd.prog 31 #[nmV neg v sc] w fun e w' => e = .returned (.bool (l.all (· == 0))) ∧ Below w.heap.size w w' := by
  have hb0 : ∀ o, Below w.heap.size w (w.alloc o) := fun o => (Below.refl _ _).alloc (Nat.le_refl _) _
  obtain ⟨a, cap, rfl, h1, h2, h3, h4⟩ := h
  unfold maxLen at h2
  have HL : Hid _ := And.intro h3 (And.intro h4 hb0)
  clear h3 h4 hb0
  go_enter Tryd.func31, Tryd.ntmps31
  go_wp2_with fail
  go_loopg [3] l.length (fun m v3 wr => ∃ i : Nat, v3 = .int .i64 i ∧ i + m = l.length ∧ wr = w.alloc (.cells #[.bool neg, .slice a l.length cap, .int .i64 sc] 28) ∧ Hid (l.all (· == 0) = (l.drop i).all (· == 0)))
  case atStart => exact ⟨0, rfl, by omega, rfl, rfl⟩
  case round =>
    obtain ⟨i, rfl, him, hwr, hal⟩ := hrel
    have HW : Hid _ := hwr
    have cb := (bl3 (nw_heap w (.cells #[.bool neg, .slice a l.length cap, .int .i64 sc] 28))).2.1
    rw [← hwr] at cb
    clear hwr
    by_cases hi : i < l.length
    · obtain ⟨m, rfl⟩ : ∃ m, gk = m + 1 := ⟨gk - 1, by omega⟩
      rcases HL.out.2.1 with he | ⟨g, o, rfl, hg, hc⟩
      · rw [he] at hi; simp at hi
      have q0 := hc i hi
      have hbw := HL.out.2.2 (.cells #[.bool neg, .slice (some ⟨g, o, none⟩) l.length cap, .int .i64 sc] 28)
      rw [← HW.out] at hbw
      have x0 := (hbw.cell (p := ⟨g, o + i, none⟩) hg).trans q0
      have hd : (l.drop i).all (· == 0) = ((l[i]'hi == 0) && (l.drop (i + 1)).all (· == 0)) := by
        rw [List.drop_eq_getElem_cons hi, List.all_cons]
      have hbd := HL.out.1 _ (List.getElem_mem hi)
      generalize (l[i]'hi) = d at *
      have HH : Hid _ := And.intro hal hd
      clear hal hd hc q0 hbw
      by_cases hd0 : d = 0
      · subst hd0
        go_wp2_with fail
        go_roundg m
        case measure => omega
        case rel => exact ⟨i + 1, rfl, by omega, HW.out, by show _ = _; rw [HH.out.1.out, HH.out.2]; rfl⟩
      · have hd1 : (d == 0) = false := by simpa using hd0
        go_wp2_with fail
        go_ret
        exact ⟨by rw [HH.out.1.out, HH.out.2, hd1]; rfl, by rw [HW.out]; exact HL.out.2.2 _⟩
    · obtain rfl : i = l.length := by omega
      have e : l.all (· == 0) = true := by rw [hal.out, List.drop_length]; rfl
      have HE : Hid _ := e
      clear e hal
      go_wp2_with fail
      go_ret
      exact ⟨by rw [HE.out]; rfl, by rw [HW.out]; exact HL.out.2.2 _⟩
end Go.Proofs.YtakemkhgaicckaaDoor
