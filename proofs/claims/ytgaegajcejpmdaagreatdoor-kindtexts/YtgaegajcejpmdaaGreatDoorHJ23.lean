/- Joined: HDtLf1, HDtLf2, HDtLf3, HDtLf4, HDtLf5, HDtLf6. -/
import Derived.Test.YtgaegajcejpmdaaGreatDoorProg
import Derived.Test.YtgaegajcejpmdaaGreatDoorHJ6
import Derived.WalkKit
import Derived.WalkSpells
import Derived.WalkLawsBesides
import Derived.Below
import Derived.Carry
import Derived.BigQuiet
import Derived.Deep.LoopGhost
import Derived.Deep.DeepCutAuto
namespace Go.Proofs.YtgaegajcejpmdaaGreatDoor.Dt
open Go.RowKit
set_option linter.unusedVariables false

theorem line_r (y : Int) (w : World) (h0 : -1000000000000000 < y) (h1 : y < 1000000000000000) : Calls Tryz.prog 126 #[.int .i64 y] w fun e w' => e = .returned (.int .i64 (lnY y)) ∧ w' = w := by
  unfold lnY
  by_cases h : y < 0
  · rw [if_pos h]
    go_enter Tryz.func126, Tryz.ntmps126
    go_wp2_with fail
    go_ret
    exact ⟨rfl, rfl⟩
  · rw [if_neg h]
    go_enter Tryz.func126, Tryz.ntmps126
    go_wp2_with fail
    go_ret
    exact ⟨rfl, rfl⟩
theorem back_r (y : Int) (w : World) (h0 : -1000000000000000 < y) (h1 : y < 1000000000000000) : Calls Tryz.prog 125 #[.int .i64 y] w fun e w' => e = .returned (.int .i64 (bkY y)) ∧ w' = w := by
  unfold bkY
  by_cases h : y ≤ 0
  · rw [if_pos h]
    go_enter Tryz.func125, Tryz.ntmps125
    go_wp2_with fail
    go_ret
    exact ⟨rfl, rfl⟩
  · rw [if_neg h]
    go_enter Tryz.func125, Tryz.ntmps125
    go_wp2_with fail
    go_ret
    exact ⟨rfl, rfl⟩
end Go.Proofs.YtgaegajcejpmdaaGreatDoor.Dt
namespace Go.Proofs.YtgaegajcejpmdaaGreatDoor.Dt
open Go.RowKit
set_option linter.unusedVariables false

theorem mod_r (a b : Int) (w : World) (h0 : -1000000000000000000 < a) (h1 : a < 1000000000000000000) (hb : 0 < b) (hb' : b < 1000000000000) : Calls Tryz.prog 123 #[.int .i64 a, .int .i64 b] w fun e w' => e = .returned (.int .i64 (a % b)) ∧ w' = w := by
  have hbn : ¬ b = 0 := by omega
  have hq := emod_in a hb
  by_cases h : a.tmod b < 0
  · have e := tmod_neg hb h
    have hE : Hid _ := And.intro e hq
    have hlo : -1000000000000 < a.tmod b := by omega
    rw [← e]
    clear e hq
    generalize hr : a.tmod b = r at *
    go_enter Tryz.func123, Tryz.ntmps123
    go_wp2_with fail
    go_ret
    exact ⟨rfl, rfl⟩
  · have e := tmod_pos hb h
    rw [← e] at hq ⊢
    clear e
    generalize hr : a.tmod b = r at *
    go_enter Tryz.func123, Tryz.ntmps123
    go_wp2_with fail
    go_ret
    exact ⟨rfl, rfl⟩
end Go.Proofs.YtgaegajcejpmdaaGreatDoor.Dt
namespace Go.Proofs.YtgaegajcejpmdaaGreatDoor.Dt
open Go.RowKit
set_option linter.unusedVariables false

theorem div_r (a b : Int) (w : World) (h0 : -1000000000000000000 < a) (h1 : a < 1000000000000000000) (hb : 0 < b) (hb' : b < 1000000000000) : Calls Tryz.prog 122 #[.int .i64 a, .int .i64 b] w fun e w' => e = .returned (.int .i64 (a / b)) ∧ w' = w := by
  have hbn : ¬ b = 0 := by omega
  have hbm : ¬ b = -1 := by omega
  have hq := emod_in a hb
  have hd := tdiv_fix (a := a) hb
  have hm := mod_r a b w h0 h1 hb hb'
  have HM : Hid _ := And.intro hm trivial
  clear hm
  rw [← hd]
  clear hd
  generalize hr : a % b = r at *
  go_enter Tryz.func122, Tryz.ntmps122
  go_wp2_with (first | (go_at_call 123; refine Calls.mono HM.out.1 ?_; rintro e w' ⟨rfl, rfl⟩))
  go_ret
  exact ⟨rfl, rfl⟩
end Go.Proofs.YtgaegajcejpmdaaGreatDoor.Dt
namespace Go.Proofs.YtgaegajcejpmdaaGreatDoor.Dt
open Go.RowKit
set_option linter.unusedVariables false

theorem leap_r (l : Int) (w : World) (h0 : -1000000000000000 < l) (h1 : l < 1000000000000000) : Calls Tryz.prog 124 #[.int .i64 l] w fun e w' => e = .returned (.bool (lpL l)) ∧ w' = w := by
  have m1 := mod_r l 4 w (by omega) (by omega) (by omega) (by omega)
  have m2 := mod_r l 100 w (by omega) (by omega) (by omega) (by omega)
  have m3 := mod_r l 400 w (by omega) (by omega) (by omega) (by omega)
  have HM : Hid _ := And.intro m1 (And.intro m2 m3)
  have HE : Hid (lpL l = (l % 4 == 0 && (l % 100 != 0 || l % 400 == 0))) := (rfl : lpL l = (l % 4 == 0 && (l % 100 != 0 || l % 400 == 0)))
  clear m1 m2 m3
  generalize l % 4 = a at *
  generalize l % 100 = b at *
  generalize l % 400 = c at *
  by_cases ha : a = 0
  · by_cases hb : b = 0
    · by_cases hc : c = 0
      all_goals
        go_enter Tryz.func124, Tryz.ntmps124
        go_wp2_with (first | (go_at_call 123; with_reducible refine Calls.mono HM.out.1 ?_; rintro e w' ⟨rfl, rfl⟩) | (go_at_call 123; with_reducible refine Calls.mono HM.out.2.1 ?_; rintro e w' ⟨rfl, rfl⟩) | (go_at_call 123; with_reducible refine Calls.mono HM.out.2.2 ?_; rintro e w' ⟨rfl, rfl⟩))
        go_ret
        refine ⟨?_, rfl⟩
        rw [HE.out]
        simp [ha, hb, hc]
    · go_enter Tryz.func124, Tryz.ntmps124
      go_wp2_with (first | (go_at_call 123; with_reducible refine Calls.mono HM.out.1 ?_; rintro e w' ⟨rfl, rfl⟩) | (go_at_call 123; with_reducible refine Calls.mono HM.out.2.1 ?_; rintro e w' ⟨rfl, rfl⟩) | (go_at_call 123; with_reducible refine Calls.mono HM.out.2.2 ?_; rintro e w' ⟨rfl, rfl⟩))
      go_ret
      refine ⟨?_, rfl⟩
      rw [HE.out]
      simp [ha, hb]
  · go_enter Tryz.func124, Tryz.ntmps124
    go_wp2_with (first | (go_at_call 123; with_reducible refine Calls.mono HM.out.1 ?_; rintro e w' ⟨rfl, rfl⟩) | (go_at_call 123; with_reducible refine Calls.mono HM.out.2.1 ?_; rintro e w' ⟨rfl, rfl⟩) | (go_at_call 123; with_reducible refine Calls.mono HM.out.2.2 ?_; rintro e w' ⟨rfl, rfl⟩))
    go_ret
    refine ⟨?_, rfl⟩
    rw [HE.out]
    simp [ha]
end Go.Proofs.YtgaegajcejpmdaaGreatDoor.Dt
namespace Go.Proofs.YtgaegajcejpmdaaGreatDoor.Dt
open Go.RowKit
set_option linter.unusedVariables false

theorem ln_in {y : Int} (h0 : -100000000000000 < y) (h1 : y < 100000000000000) : -1000000000000000 < lnY y ∧ lnY y < 1000000000000000 := by unfold lnY; split <;> omega
theorem Leap_r (y : Int) (w : World) (h0 : -100000000000000 < y) (h1 : y < 100000000000000) : Calls Tryz.prog 121 #[.int .i64 y] w fun e w' => e = .returned (.bool (lpL (lnY y))) ∧ w' = w := by
  have m1 := line_r y w (by omega) (by omega)
  have hl := ln_in h0 h1
  have m2 := leap_r (lnY y) w hl.1 hl.2
  have HM : Hid _ := And.intro m1 m2
  clear m1 m2
  go_enter Tryz.func121, Tryz.ntmps121
  go_wp2_with (first | (go_at_call 126; refine Calls.mono HM.out.1 ?_; rintro e w' ⟨rfl, rfl⟩) | (go_at_call 124; refine Calls.mono HM.out.2 ?_; rintro e w' ⟨rfl, rfl⟩))
  go_ret
  exact ⟨rfl, rfl⟩
theorem ahead_r (l : Int) (w : World) (h0 : -1000000000000000 < l) (h1 : l < 1000000000000000) : Calls Tryz.prog 127 #[.int .i64 l] w fun e w' => e = .returned (.int .i64 (ahd l)) ∧ w' = w := by
  have m1 := div_r (l + 3) 4 w (by omega) (by omega) (by omega) (by omega)
  have m2 := div_r (l + 99) 100 w (by omega) (by omega) (by omega) (by omega)
  have m3 := div_r (l + 399) 400 w (by omega) (by omega) (by omega) (by omega)
  have HM : Hid _ := And.intro m1 (And.intro m2 m3)
  have HE : Hid (ahd l = 365 * l + (l + 3) / 4 - (l + 99) / 100 + (l + 399) / 400) := (rfl : ahd l = _)
  have b1 : -1000000000000000 < (l + 3) / 4 ∧ (l + 3) / 4 < 1000000000000000 := by omega
  have b2 : -1000000000000000 < (l + 99) / 100 ∧ (l + 99) / 100 < 1000000000000000 := by omega
  have b3 : -1000000000000000 < (l + 399) / 400 ∧ (l + 399) / 400 < 1000000000000000 := by omega
  clear m1 m2 m3
  generalize (l + 3) / 4 = a at *
  generalize (l + 99) / 100 = b at *
  generalize (l + 399) / 400 = c at *
  obtain ⟨b11, b12⟩ := b1
  obtain ⟨b21, b22⟩ := b2
  obtain ⟨b31, b32⟩ := b3
  go_enter Tryz.func127, Tryz.ntmps127
  go_wp2_with (first | (go_at_call 122; with_reducible refine Calls.mono HM.out.1 ?_; rintro e w' ⟨rfl, rfl⟩) | (go_at_call 122; with_reducible refine Calls.mono HM.out.2.1 ?_; rintro e w' ⟨rfl, rfl⟩) | (go_at_call 122; with_reducible refine Calls.mono HM.out.2.2 ?_; rintro e w' ⟨rfl, rfl⟩))
  go_ret
  exact ⟨by rw [HE.out]; rfl, rfl⟩
theorem length_r (y m : Int) (w : World) (h0 : -100000000000000 < y) (h1 : y < 100000000000000) (hm : -1000000000000000 < m) (hm' : m < 1000000000000000) : Calls Tryz.prog 80 #[.int .i64 y, .int .i64 m] w fun e w' => e = .returned (.int .i64 (lenL (lnY y) m)) ∧ w' = w := by
  have m1 := Leap_r y w h0 h1
  have HM : Hid _ := And.intro m1 trivial
  clear m1
  have HE : Hid _ := (rfl : lenL (lnY y) m = _)
  unfold lenL at HE
  by_cases c2 : m = 2
  · subst c2
    cases hl : lpL (lnY y)
    all_goals
      rw [hl] at HM
      go_enter Tryz.func80, Tryz.ntmps80
      go_wp2_with (first | (go_at_call 121; refine Calls.mono HM.out.1 ?_; rintro e w' ⟨rfl, rfl⟩))
      go_ret
      exact ⟨by unfold lenL; simp [hl], rfl⟩
  · have e1 : lenL (lnY y) m = if m = 4 ∨ m = 6 ∨ m = 9 ∨ m = 11 then 30 else if 1 ≤ m ∧ m ≤ 12 then 31 else 0 := by unfold lenL; rw [if_neg c2]
    rw [e1]
    clear e1 HM HE
    by_cases i : 1 ≤ m ∧ m ≤ 12
    · have : m = 1 ∨ m = 3 ∨ m = 4 ∨ m = 5 ∨ m = 6 ∨ m = 7 ∨ m = 8 ∨ m = 9 ∨ m = 10 ∨ m = 11 ∨ m = 12 := by omega
      rcases this with rfl | rfl | rfl | rfl | rfl | rfl | rfl | rfl | rfl | rfl | rfl
      all_goals
        go_enter Tryz.func80, Tryz.ntmps80
        go_wp2_with fail
        go_ret
        exact ⟨rfl, rfl⟩
    · rw [if_neg (by omega), if_neg i]
      have n1 : ¬ m = 1 := by omega
      have n3 : ¬ m = 3 := by omega
      have n4 : ¬ m = 4 := by omega
      have n5 : ¬ m = 5 := by omega
      have n6 : ¬ m = 6 := by omega
      have n7 : ¬ m = 7 := by omega
      have n8 : ¬ m = 8 := by omega
      have n9 : ¬ m = 9 := by omega
      have n10 : ¬ m = 10 := by omega
      have n11 : ¬ m = 11 := by omega
      have n12 : ¬ m = 12 := by omega
      clear i
      go_enter Tryz.func80, Tryz.ntmps80
      go_wp2_with fail
      go_ret
      exact ⟨rfl, rfl⟩
end Go.Proofs.YtgaegajcejpmdaaGreatDoor.Dt
namespace Go.Proofs.YtgaegajcejpmdaaGreatDoor.Dt
open Go.RowKit
set_option linter.unusedVariables false

theorem ahd_in {l : Int} (h0 : -10000000000000 < l) (h1 : l < 10000000000000) : -4000000000000000 < ahd l ∧ ahd l < 4000000000000000 := by unfold ahd; omega
theorem bk_in {l : Int} (h0 : -10000000000000 < l) (h1 : l < 10000000000000) : -100000000000000 < bkY l ∧ bkY l < 100000000000000 := by unfold bkY; split <;> omega
theorem days_r (y m d : Int) (w : World) (h0 : -1000000000000 < y) (h1 : y < 1000000000000) (m0 : -1000000000000 < m) (m1 : m < 1000000000000) (d0 : -1000000000000000 < d) (d1 : d < 1000000000000000) : Calls Tryz.prog 84 #[.int .i64 y, .int .i64 m, .int .i64 d] w fun e w' => e = .returned (.int .i64 (daysS y m d)) ∧ w' = w := by
  have hln : -1000000000001 < lnY y ∧ lnY y < 1000000000001 := by unfold lnY; split <;> omega
  have c1 := line_r y w (by omega) (by omega)
  have c2 := div_r (m - 1) 12 w (by omega) (by omega) (by omega) (by omega)
  have c3 := mod_r (m - 1) 12 w (by omega) (by omega) (by omega) (by omega)
  have hdv : -1000000000000 < (m - 1) / 12 ∧ (m - 1) / 12 < 1000000000000 := by omega
  have hmd := emod_in (m - 1) (show (0 : Int) < 12 by omega)
  obtain ⟨M, hM⟩ : ∃ M : Nat, (m - 1) % 12 = M := ⟨((m - 1) % 12).toNat, by omega⟩
  have hb : ahd 2000 = 730485 := by decide
  have hR : daysS y m d = ahd (lnY y + (m - 1) / 12) - 730485 + cum (lnY y + (m - 1) / 12) M + d - 1 := by
    unfold daysS dayN
    rw [hb, hM, Int.toNat_natCast, Nat.add_sub_cancel]
  rw [hM] at c3 hmd
  clear hM
  rw [hR]
  clear hR
  generalize hL1 : lnY y = L1 at *
  generalize hL2 : (m - 1) / 12 = L2 at *
  have hL : -10000000000000 < L1 + L2 ∧ L1 + L2 < 10000000000000 := by omega
  have c4 := ahead_r (L1 + L2) w (by omega) (by omega)
  have c5 := ahead_r 2000 w (by omega) (by omega)
  have ha := ahd_in hL.1 hL.2
  rw [hb] at c5
  have c6 := back_r (L1 + L2) w (by omega) (by omega)
  have hk := bk_in hL.1 hL.2
  have c7 := fun k : Int => fun (p : -1000000000000000 < k) (q : k < 1000000000000000) => length_r (bkY (L1 + L2)) k w hk.1 hk.2 p q
  rw [ln_bk] at c7
  have HC : Hid _ := And.intro c1 (And.intro c2 (And.intro c3 (And.intro c4 (And.intro c5 (And.intro c6 c7)))))
  clear c1 c2 c3 c4 c5 c6 c7
  have HCM : Hid (∀ k : Nat, k ≤ 12 → 0 ≤ cum (L1 + L2) k ∧ cum (L1 + L2) k ≤ 366) := (fun k hk => ⟨cum_nonneg _ _, cum_le _ hk⟩ : ∀ k : Nat, k ≤ 12 → 0 ≤ cum (L1 + L2) k ∧ cum (L1 + L2) k ≤ 366)
  have HLE : Hid (∀ k : Nat, cum (L1 + L2) (k + 1) = cum (L1 + L2) k + lenL (L1 + L2) ((k : Int) + 1)) := (fun k => rfl : ∀ k : Nat, cum (L1 + L2) (k + 1) = cum (L1 + L2) k + lenL (L1 + L2) ((k : Int) + 1))
  clear hb hL1 hL2
  generalize bkY (L1 + L2) = B at *
  generalize hA : ahd (L1 + L2) = A at *
  obtain ⟨hln1, hln2⟩ := hln
  obtain ⟨hdv1, hdv2⟩ := hdv
  obtain ⟨hmd1, hmd2⟩ := hmd
  obtain ⟨hL3, hL4⟩ := hL
  obtain ⟨ha1, ha2⟩ := ha
  obtain ⟨hk1, hk2⟩ := hk
  clear hA
  go_enter Tryz.func84, Tryz.ntmps84
  go_wp2_with (first | (go_at_call 126; refine Calls.mono HC.out.1 ?_; rintro e w' ⟨rfl, hw⟩; have hw2 := hw.symm; clear hw; subst hw2) | (go_at_call 122; refine Calls.mono HC.out.2.1 ?_; rintro e w' ⟨rfl, hw⟩; have hw2 := hw.symm; clear hw; subst hw2) | (go_at_call 123; refine Calls.mono HC.out.2.2.1 ?_; rintro e w' ⟨rfl, hw⟩; have hw2 := hw.symm; clear hw; subst hw2) | (go_at_call 127; with_reducible refine Calls.mono HC.out.2.2.2.1 ?_; rintro e w' ⟨rfl, hw⟩; have hw2 := hw.symm; clear hw; subst hw2) | (go_at_call 127; with_reducible refine Calls.mono HC.out.2.2.2.2.1 ?_; rintro e w' ⟨rfl, hw⟩; have hw2 := hw.symm; clear hw; subst hw2))
  go_loopg [9, 10] M (fun g v9 v10 wr => ∃ k : Nat, v10 = .int .i64 ((k : Int) + 1) ∧ k + g = M ∧ wr = w ∧ v9 = .int .i64 (A - 730485 + cum (L1 + L2) k))
  case atStart => exact ⟨0, rfl, by omega, rfl, by simp [cum]⟩
  case round =>
    obtain ⟨k, rfl, hkg, hwr, rfl⟩ := hrel
    have hw3 := hwr.symm
    clear hwr
    subst hw3
    have hck := HCM.out k (by omega)
    obtain ⟨hck1, hck2⟩ := hck
    by_cases hlt : (k : Int) + 1 < (M : Int) + 1
    · obtain ⟨g, rfl⟩ : ∃ g, gk = g + 1 := ⟨gk - 1, by omega⟩
      have hn := HLE.out k
      have hcn := HCM.out (k + 1) (by omega)
      have c7 := HC.out.2.2.2.2.2.2 ((k : Int) + 1) (by omega) (by omega)
      have H7 : Hid _ := And.intro c7 trivial
      clear c7
      rw [hn] at hcn
      obtain ⟨hcn1, hcn2⟩ := hcn
      have HN : Hid _ := hn
      clear hn
      generalize lenL (L1 + L2) ((k : Int) + 1) = Q at *
      generalize cum (L1 + L2) k = C at *
      go_wp2_with (first | (go_at_call 125; refine Calls.mono HC.out.2.2.2.2.2.1 ?_; rintro e w' ⟨rfl, hw⟩; have hw2 := hw.symm; clear hw; subst hw2) | (go_at_call 80; refine Calls.mono H7.out.1 ?_; rintro e w' ⟨rfl, hw⟩; have hw2 := hw.symm; clear hw; subst hw2))
      go_roundg g
      case measure => omega
      case rel => exact ⟨k + 1, by simp, by omega, rfl, by rw [HN.out, Int.add_assoc]⟩
    · have hkM : k = M := by omega
      subst hkM
      go_wp2_with fail
      go_ret
      exact ⟨rfl, rfl⟩
end Go.Proofs.YtgaegajcejpmdaaGreatDoor.Dt
