/- The contracts of note and instruction. -/
import Derived.Test.YtjcgnbmpnaapdaaDoorFold
import Derived.Test.YtjcgnbmpnaapdaaDoorAtt
namespace Go.Proofs.YtjcgnbmpnaapdaaDoor
open Go.RowKit
set_option linter.unusedVariables false

set_option maxHeartbeats 1600000 in
theorem note_s {P k : Nat} {v : PV} {l : Bs} {w : World} (lt0 : Int) (h : In P w v l k) : Calls Tryd.prog 59 #[pp P, .int .i64 lt0] w (Scan P w v l ret0 (noteS l lt0 k)) := by
  rw [noteS]
  rcases hw : wordS l lt0 [45, 45] k with ⟨_, k1⟩ | ⟨p, er⟩
  · rw [bind_ok]
    go_enter Tryd.func59, Tryd.ntmps59
    go_wp2_with (first | (go_at_call 66; refine (scan_ok (word_c #[45, 45] _ [45, 45] (by decide) rfl h) hw).mono ?_; rintro e w1 ⟨rfl, hg1, hi1⟩))
    go_loopg [4] (l.length + 1) (fun n v4 wr => ∃ (j d : Nat), v4 = .int .i64 d ∧ d ≤ 2 ∧ w.grownBy wr (some P) ∧ In P wr { v with k := (j : Int) } l j ∧ l.length - j + 1 ≤ n ∧ Hid (noteL n l d j = noteL (l.length + 1) l 0 k1))
    case atStart => exact ⟨k1, 0, rfl, by omega, hg1, hi1, by omega, rfl⟩
    case round =>
      obtain ⟨j, d, rfl, hd, hg, hi, hn, HF⟩ := hrel
      obtain ⟨n, rfl⟩ : ∃ n, gk = n + 1 := ⟨gk - 1, by omega⟩
      have hjl := hi.kl
      have hll := hi.ll
      have c1 := hi.rd
      cases hok : okl l j
      · have HR : Hid (noteL (l.length + 1) l 0 k1 = .bad j 2) := by rw [← HF.out, noteL, takeS_f hok]; exact rfl
        go_wp2_with (first | (go_at_call 41; refine (take_f hi hok).mono ?_; rintro e w' ⟨rfl, hg2, kk, hp⟩))
        refine ⟨rfl, ?_⟩
        rw [HR.out]
        exact ⟨rfl, grownBy_trans hg hg2, kk, hp⟩
      · have hpos := ln_pos hok
        by_cases hd2 : d = 2
        · subst hd2
          by_cases h62 : lt l j = 62
          · have HR : Hid (noteL (l.length + 1) l 0 k1 = .ok () (j + ln l j)) := by rw [← HF.out, noteL, takeS_t hok, bind_ok, if_pos rfl, if_pos h62]; exact rfl
            go_wp2_with (first | (go_at_call 41; refine (take_t hi hok).mono ?_; rintro e w' ⟨rfl, hg2, hi2⟩))
            go_end0
            rw [HR.out]
            exact ⟨rfl, grownBy_trans hg hg2, hi2⟩
          · have HR : Hid (noteL (l.length + 1) l 0 k1 = .bad ((j : Int) - 2) 2) := by rw [← HF.out, noteL, takeS_t hok, bind_ok, if_pos rfl, if_neg h62]; exact rfl
            have h62b : (lt l j == 62) = false := by simp [h62]
            clear h62
            go_wp2_with (first | (go_at_call 41; refine (take_t hi hok).mono ?_; rintro e w' ⟨rfl, hg2, hi2⟩) | (go_at_call 47; refine (fail_any _ _ _).mono ?_; rintro e w' ⟨rfl, rfl⟩))
            refine ⟨rfl, ?_⟩
            rw [HR.out]
            exact ⟨rfl, grownBy_trans hg hg2, _, hi2.ps⟩
        · have hd2b : ((d : Int) == 2) = false := beq_eq_false_iff_ne.2 (by omega)
          by_cases h45 : lt l j = 45
          · have HS : Hid (noteL n l (d + 1) (j + ln l j) = noteL (l.length + 1) l 0 k1) := by rw [← HF.out, noteL, takeS_t hok, bind_ok, if_neg hd2, if_pos h45]; exact rfl
            have hd3 : d + 1 ≤ 2 := by omega
            clear hd2
            go_wp2_with (first | (go_at_call 41; refine (take_t hi hok).mono ?_; rintro e w' ⟨rfl, hg2, hi2⟩))
            go_roundg n
            case measure => omega
            case rel => exact ⟨j + ln l j, d + 1, by go_num, hd3, grownBy_trans hg hg2, hi2, by have := hi2.kl; omega, HS⟩
          · have HS : Hid (noteL n l 0 (j + ln l j) = noteL (l.length + 1) l 0 k1) := by rw [← HF.out, noteL, takeS_t hok, bind_ok, if_neg hd2, if_neg h45]; exact rfl
            have h45b : (lt l j == 45) = false := by simp [h45]
            clear hd2 h45
            go_wp2_with (first | (go_at_call 41; refine (take_t hi hok).mono ?_; rintro e w' ⟨rfl, hg2, hi2⟩))
            go_roundg n
            case measure => omega
            case rel => exact ⟨j + ln l j, 0, rfl, by omega, grownBy_trans hg hg2, hi2, by have := hi2.kl; omega, HS⟩
  · rw [bind_bad]
    go_enter Tryd.func59, Tryd.ntmps59
    go_wp2_with (first | (go_at_call 66; refine (scan_bad (word_c #[45, 45] _ [45, 45] (by decide) rfl h) hw).mono ?_; rintro e w1 ⟨rfl, hg1, kk, hp⟩))
    exact ⟨rfl, rfl, hg1, kk, hp⟩
end Go.Proofs.YtjcgnbmpnaapdaaDoor
