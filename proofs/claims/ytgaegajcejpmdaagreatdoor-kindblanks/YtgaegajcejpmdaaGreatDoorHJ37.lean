/- Joined: HDtLf1, HDtLf2, HDtLf3, HDtLf4, HDtLf5, HDtLf6, HDtQr1. -/
import Derived.Test.YtgaegajcejpmdaaGreatDoorProg
import Derived.Test.YtgaegajcejpmdaaGreatDoorHJ22
import Derived.Test.YtgaegajcejpmdaaGreatDoorHJ16
import Derived.WalkKit
import Derived.WalkSpells
import Derived.WalkLawsBesides
import Derived.Below
import Derived.Carry
import Derived.BigQuiet
import Derived.Deep.LoopGhost
import Derived.Deep.DeepCutAuto
import Derived.Test.YtgaegajcejpmdaaGreatDoorHJ27
namespace Go.Proofs.YtgaegajcejpmdaaGreatDoor.Dt
open Go.RowKit
set_option linter.unusedVariables false

theorem line_r (y : Int) (w : World) (h0 : -1000000000000000 < y) (h1 : y < 1000000000000000) : Calls Tryz.prog 126 #[.int .i64 y] w fun e w' => e = .returned (.int .i64 (lnY y)) ∧ w' = w := by
  unfold lnY
  by_cases h : y < 0
  · rw [if_pos h]
    go_enter Tryz.func126, Tryz.ntmps126
    go_wp2_with fail
    go_ret
    exact ⟨rfl, rfl⟩
  · rw [if_neg h]
    go_enter Tryz.func126, Tryz.ntmps126
    go_wp2_with fail
    go_ret
    exact ⟨rfl, rfl⟩
theorem back_r (y : Int) (w : World) (h0 : -1000000000000000 < y) (h1 : y < 1000000000000000) : Calls Tryz.prog 125 #[.int .i64 y] w fun e w' => e = .returned (.int .i64 (bkY y)) ∧ w' = w := by
  unfold bkY
  by_cases h : y ≤ 0
  · rw [if_pos h]
    go_enter Tryz.func125, Tryz.ntmps125
    go_wp2_with fail
    go_ret
    exact ⟨rfl, rfl⟩
  · rw [if_neg h]
    go_enter Tryz.func125, Tryz.ntmps125
    go_wp2_with fail
    go_ret
    exact ⟨rfl, rfl⟩
end Go.Proofs.YtgaegajcejpmdaaGreatDoor.Dt
namespace Go.Proofs.YtgaegajcejpmdaaGreatDoor.Dt
open Go.RowKit
set_option linter.unusedVariables false

theorem mod_r (a b : Int) (w : World) (h0 : -1000000000000000000 < a) (h1 : a < 1000000000000000000) (hb : 0 < b) (hb' : b < 1000000000000) : Calls Tryz.prog 123 #[.int .i64 a, .int .i64 b] w fun e w' => e = .returned (.int .i64 (a % b)) ∧ w' = w := by
  have hbn : ¬ b = 0 := by omega
  have hq := emod_in a hb
  by_cases h : a.tmod b < 0
  · have e := tmod_neg hb h
    have hE : Hid _ := And.intro e hq
    have hlo : -1000000000000 < a.tmod b := by omega
    rw [← e]
    clear e hq
    generalize hr : a.tmod b = r at *
    go_enter Tryz.func123, Tryz.ntmps123
    go_wp2_with fail
    go_ret
    exact ⟨rfl, rfl⟩
  · have e := tmod_pos hb h
    rw [← e] at hq ⊢
    clear e
    generalize hr : a.tmod b = r at *
    go_enter Tryz.func123, Tryz.ntmps123
    go_wp2_with fail
    go_ret
    exact ⟨rfl, rfl⟩
end Go.Proofs.YtgaegajcejpmdaaGreatDoor.Dt
namespace Go.Proofs.YtgaegajcejpmdaaGreatDoor.Dt
open Go.RowKit
set_option linter.unusedVariables false

theorem div_r (a b : Int) (w : World) (h0 : -1000000000000000000 < a) (h1 : a < 1000000000000000000) (hb : 0 < b) (hb' : b < 1000000000000) : Calls Tryz.prog 122 #[.int .i64 a, .int .i64 b] w fun e w' => e = .returned (.int .i64 (a / b)) ∧ w' = w := by
  have hbn : ¬ b = 0 := by omega
  have hbm : ¬ b = -1 := by omega
  have hq := emod_in a hb
  have hd := tdiv_fix (a := a) hb
  have hm := mod_r a b w h0 h1 hb hb'
  have HM : Hid _ := And.intro hm trivial
  clear hm
  rw [← hd]
  clear hd
  generalize hr : a % b = r at *
  go_enter Tryz.func122, Tryz.ntmps122
  go_wp2_with (first | (go_at_call 123; refine Calls.mono HM.out.1 ?_; rintro e w' ⟨rfl, rfl⟩))
  go_ret
  exact ⟨rfl, rfl⟩
end Go.Proofs.YtgaegajcejpmdaaGreatDoor.Dt
namespace Go.Proofs.YtgaegajcejpmdaaGreatDoor.Dt
open Go.RowKit
set_option linter.unusedVariables false

theorem leap_r (l : Int) (w : World) (h0 : -1000000000000000 < l) (h1 : l < 1000000000000000) : Calls Tryz.prog 124 #[.int .i64 l] w fun e w' => e = .returned (.bool (lpL l)) ∧ w' = w := by
  have m1 := mod_r l 4 w (by omega) (by omega) (by omega) (by omega)
  have m2 := mod_r l 100 w (by omega) (by omega) (by omega) (by omega)
  have m3 := mod_r l 400 w (by omega) (by omega) (by omega) (by omega)
  have HM : Hid _ := And.intro m1 (And.intro m2 m3)
  have HE : Hid (lpL l = (l % 4 == 0 && (l % 100 != 0 || l % 400 == 0))) := (rfl : lpL l = (l % 4 == 0 && (l % 100 != 0 || l % 400 == 0)))
  clear m1 m2 m3
  generalize l % 4 = a at *
  generalize l % 100 = b at *
  generalize l % 400 = c at *
  by_cases ha : a = 0
  · by_cases hb : b = 0
    · by_cases hc : c = 0
      all_goals
        go_enter Tryz.func124, Tryz.ntmps124
        go_wp2_with (first | (go_at_call 123; with_reducible refine Calls.mono HM.out.1 ?_; rintro e w' ⟨rfl, rfl⟩) | (go_at_call 123; with_reducible refine Calls.mono HM.out.2.1 ?_; rintro e w' ⟨rfl, rfl⟩) | (go_at_call 123; with_reducible refine Calls.mono HM.out.2.2 ?_; rintro e w' ⟨rfl, rfl⟩))
        go_ret
        refine ⟨?_, rfl⟩
        rw [HE.out]
        simp [ha, hb, hc]
    · go_enter Tryz.func124, Tryz.ntmps124
      go_wp2_with (first | (go_at_call 123; with_reducible refine Calls.mono HM.out.1 ?_; rintro e w' ⟨rfl, rfl⟩) | (go_at_call 123; with_reducible refine Calls.mono HM.out.2.1 ?_; rintro e w' ⟨rfl, rfl⟩) | (go_at_call 123; with_reducible refine Calls.mono HM.out.2.2 ?_; rintro e w' ⟨rfl, rfl⟩))
      go_ret
      refine ⟨?_, rfl⟩
      rw [HE.out]
      simp [ha, hb]
  · go_enter Tryz.func124, Tryz.ntmps124
    go_wp2_with (first | (go_at_call 123; with_reducible refine Calls.mono HM.out.1 ?_; rintro e w' ⟨rfl, rfl⟩) | (go_at_call 123; with_reducible refine Calls.mono HM.out.2.1 ?_; rintro e w' ⟨rfl, rfl⟩) | (go_at_call 123; with_reducible refine Calls.mono HM.out.2.2 ?_; rintro e w' ⟨rfl, rfl⟩))
    go_ret
    refine ⟨?_, rfl⟩
    rw [HE.out]
    simp [ha]
end Go.Proofs.YtgaegajcejpmdaaGreatDoor.Dt
namespace Go.Proofs.YtgaegajcejpmdaaGreatDoor.Dt
open Go.RowKit
set_option linter.unusedVariables false

theorem ln_in {y : Int} (h0 : -100000000000000 < y) (h1 : y < 100000000000000) : -1000000000000000 < lnY y ∧ lnY y < 1000000000000000 := by unfold lnY; split <;> omega
theorem Leap_r (y : Int) (w : World) (h0 : -100000000000000 < y) (h1 : y < 100000000000000) : Calls Tryz.prog 121 #[.int .i64 y] w fun e w' => e = .returned (.bool (lpL (lnY y))) ∧ w' = w := by
  have m1 := line_r y w (by omega) (by omega)
  have hl := ln_in h0 h1
  have m2 := leap_r (lnY y) w hl.1 hl.2
  have HM : Hid _ := And.intro m1 m2
  clear m1 m2
  go_enter Tryz.func121, Tryz.ntmps121
  go_wp2_with (first | (go_at_call 126; refine Calls.mono HM.out.1 ?_; rintro e w' ⟨rfl, rfl⟩) | (go_at_call 124; refine Calls.mono HM.out.2 ?_; rintro e w' ⟨rfl, rfl⟩))
  go_ret
  exact ⟨rfl, rfl⟩
theorem ahead_r (l : Int) (w : World) (h0 : -1000000000000000 < l) (h1 : l < 1000000000000000) : Calls Tryz.prog 127 #[.int .i64 l] w fun e w' => e = .returned (.int .i64 (ahd l)) ∧ w' = w := by
  have m1 := div_r (l + 3) 4 w (by omega) (by omega) (by omega) (by omega)
  have m2 := div_r (l + 99) 100 w (by omega) (by omega) (by omega) (by omega)
  have m3 := div_r (l + 399) 400 w (by omega) (by omega) (by omega) (by omega)
  have HM : Hid _ := And.intro m1 (And.intro m2 m3)
  have HE : Hid (ahd l = 365 * l + (l + 3) / 4 - (l + 99) / 100 + (l + 399) / 400) := (rfl : ahd l = _)
  have b1 : -1000000000000000 < (l + 3) / 4 ∧ (l + 3) / 4 < 1000000000000000 := by omega
  have b2 : -1000000000000000 < (l + 99) / 100 ∧ (l + 99) / 100 < 1000000000000000 := by omega
  have b3 : -1000000000000000 < (l + 399) / 400 ∧ (l + 399) / 400 < 1000000000000000 := by omega
  clear m1 m2 m3
  generalize (l + 3) / 4 = a at *
  generalize (l + 99) / 100 = b at *
  generalize (l + 399) / 400 = c at *
  obtain ⟨b11, b12⟩ := b1
  obtain ⟨b21, b22⟩ := b2
  obtain ⟨b31, b32⟩ := b3
  go_enter Tryz.func127, Tryz.ntmps127
  go_wp2_with (first | (go_at_call 122; with_reducible refine Calls.mono HM.out.1 ?_; rintro e w' ⟨rfl, rfl⟩) | (go_at_call 122; with_reducible refine Calls.mono HM.out.2.1 ?_; rintro e w' ⟨rfl, rfl⟩) | (go_at_call 122; with_reducible refine Calls.mono HM.out.2.2 ?_; rintro e w' ⟨rfl, rfl⟩))
  go_ret
  exact ⟨by rw [HE.out]; rfl, rfl⟩
theorem length_r (y m : Int) (w : World) (h0 : -100000000000000 < y) (h1 : y < 100000000000000) (hm : -1000000000000000 < m) (hm' : m < 1000000000000000) : Calls Tryz.prog 80 #[.int .i64 y, .int .i64 m] w fun e w' => e = .returned (.int .i64 (lenL (lnY y) m)) ∧ w' = w := by
  have m1 := Leap_r y w h0 h1
  have HM : Hid _ := And.intro m1 trivial
  clear m1
  have HE : Hid _ := (rfl : lenL (lnY y) m = _)
  unfold lenL at HE
  by_cases c2 : m = 2
  · subst c2
    cases hl : lpL (lnY y)
    all_goals
      rw [hl] at HM
      go_enter Tryz.func80, Tryz.ntmps80
      go_wp2_with (first | (go_at_call 121; refine Calls.mono HM.out.1 ?_; rintro e w' ⟨rfl, rfl⟩))
      go_ret
      exact ⟨by unfold lenL; simp [hl], rfl⟩
  · have e1 : lenL (lnY y) m = if m = 4 ∨ m = 6 ∨ m = 9 ∨ m = 11 then 30 else if 1 ≤ m ∧ m ≤ 12 then 31 else 0 := by unfold lenL; rw [if_neg c2]
    rw [e1]
    clear e1 HM HE
    by_cases i : 1 ≤ m ∧ m ≤ 12
    · have : m = 1 ∨ m = 3 ∨ m = 4 ∨ m = 5 ∨ m = 6 ∨ m = 7 ∨ m = 8 ∨ m = 9 ∨ m = 10 ∨ m = 11 ∨ m = 12 := by omega
      rcases this with rfl | rfl | rfl | rfl | rfl | rfl | rfl | rfl | rfl | rfl | rfl
      all_goals
        go_enter Tryz.func80, Tryz.ntmps80
        go_wp2_with fail
        go_ret
        exact ⟨rfl, rfl⟩
    · rw [if_neg (by omega), if_neg i]
      have n1 : ¬ m = 1 := by omega
      have n3 : ¬ m = 3 := by omega
      have n4 : ¬ m = 4 := by omega
      have n5 : ¬ m = 5 := by omega
      have n6 : ¬ m = 6 := by omega
      have n7 : ¬ m = 7 := by omega
      have n8 : ¬ m = 8 := by omega
      have n9 : ¬ m = 9 := by omega
      have n10 : ¬ m = 10 := by omega
      have n11 : ¬ m = 11 := by omega
      have n12 : ¬ m = 12 := by omega
      clear i
      go_enter Tryz.func80, Tryz.ntmps80
      go_wp2_with fail
      go_ret
      exact ⟨rfl, rfl⟩
end Go.Proofs.YtgaegajcejpmdaaGreatDoor.Dt
namespace Go.Proofs.YtgaegajcejpmdaaGreatDoor.Dt
open Go.RowKit
set_option linter.unusedVariables false

theorem ahd_in {l : Int} (h0 : -10000000000000 < l) (h1 : l < 10000000000000) : -4000000000000000 < ahd l ∧ ahd l < 4000000000000000 := by unfold ahd; omega
theorem bk_in {l : Int} (h0 : -10000000000000 < l) (h1 : l < 10000000000000) : -100000000000000 < bkY l ∧ bkY l < 100000000000000 := by unfold bkY; split <;> omega
theorem days_r (y m d : Int) (w : World) (h0 : -1000000000000 < y) (h1 : y < 1000000000000) (m0 : -1000000000000 < m) (m1 : m < 1000000000000) (d0 : -1000000000000000 < d) (d1 : d < 1000000000000000) : Calls Tryz.prog 84 #[.int .i64 y, .int .i64 m, .int .i64 d] w fun e w' => e = .returned (.int .i64 (daysS y m d)) ∧ w' = w := by
  have hln : -1000000000001 < lnY y ∧ lnY y < 1000000000001 := by unfold lnY; split <;> omega
  have c1 := line_r y w (by omega) (by omega)
  have c2 := div_r (m - 1) 12 w (by omega) (by omega) (by omega) (by omega)
  have c3 := mod_r (m - 1) 12 w (by omega) (by omega) (by omega) (by omega)
  have hdv : -1000000000000 < (m - 1) / 12 ∧ (m - 1) / 12 < 1000000000000 := by omega
  have hmd := emod_in (m - 1) (show (0 : Int) < 12 by omega)
  obtain ⟨M, hM⟩ : ∃ M : Nat, (m - 1) % 12 = M := ⟨((m - 1) % 12).toNat, by omega⟩
  have hb : ahd 2000 = 730485 := by decide
  have hR : daysS y m d = ahd (lnY y + (m - 1) / 12) - 730485 + cum (lnY y + (m - 1) / 12) M + d - 1 := by
    unfold daysS dayN
    rw [hb, hM, Int.toNat_natCast, Nat.add_sub_cancel]
  rw [hM] at c3 hmd
  clear hM
  rw [hR]
  clear hR
  generalize hL1 : lnY y = L1 at *
  generalize hL2 : (m - 1) / 12 = L2 at *
  have hL : -10000000000000 < L1 + L2 ∧ L1 + L2 < 10000000000000 := by omega
  have c4 := ahead_r (L1 + L2) w (by omega) (by omega)
  have c5 := ahead_r 2000 w (by omega) (by omega)
  have ha := ahd_in hL.1 hL.2
  rw [hb] at c5
  have c6 := back_r (L1 + L2) w (by omega) (by omega)
  have hk := bk_in hL.1 hL.2
  have c7 := fun k : Int => fun (p : -1000000000000000 < k) (q : k < 1000000000000000) => length_r (bkY (L1 + L2)) k w hk.1 hk.2 p q
  rw [ln_bk] at c7
  have HC : Hid _ := And.intro c1 (And.intro c2 (And.intro c3 (And.intro c4 (And.intro c5 (And.intro c6 c7)))))
  clear c1 c2 c3 c4 c5 c6 c7
  have HCM : Hid (∀ k : Nat, k ≤ 12 → 0 ≤ cum (L1 + L2) k ∧ cum (L1 + L2) k ≤ 366) := (fun k hk => ⟨cum_nonneg _ _, cum_le _ hk⟩ : ∀ k : Nat, k ≤ 12 → 0 ≤ cum (L1 + L2) k ∧ cum (L1 + L2) k ≤ 366)
  have HLE : Hid (∀ k : Nat, cum (L1 + L2) (k + 1) = cum (L1 + L2) k + lenL (L1 + L2) ((k : Int) + 1)) := (fun k => rfl : ∀ k : Nat, cum (L1 + L2) (k + 1) = cum (L1 + L2) k + lenL (L1 + L2) ((k : Int) + 1))
  clear hb hL1 hL2
  generalize bkY (L1 + L2) = B at *
  generalize hA : ahd (L1 + L2) = A at *
  obtain ⟨hln1, hln2⟩ := hln
  obtain ⟨hdv1, hdv2⟩ := hdv
  obtain ⟨hmd1, hmd2⟩ := hmd
  obtain ⟨hL3, hL4⟩ := hL
  obtain ⟨ha1, ha2⟩ := ha
  obtain ⟨hk1, hk2⟩ := hk
  clear hA
  go_enter Tryz.func84, Tryz.ntmps84
  go_wp2_with (first | (go_at_call 126; refine Calls.mono HC.out.1 ?_; rintro e w' ⟨rfl, hw⟩; have hw2 := hw.symm; clear hw; subst hw2) | (go_at_call 122; refine Calls.mono HC.out.2.1 ?_; rintro e w' ⟨rfl, hw⟩; have hw2 := hw.symm; clear hw; subst hw2) | (go_at_call 123; refine Calls.mono HC.out.2.2.1 ?_; rintro e w' ⟨rfl, hw⟩; have hw2 := hw.symm; clear hw; subst hw2) | (go_at_call 127; with_reducible refine Calls.mono HC.out.2.2.2.1 ?_; rintro e w' ⟨rfl, hw⟩; have hw2 := hw.symm; clear hw; subst hw2) | (go_at_call 127; with_reducible refine Calls.mono HC.out.2.2.2.2.1 ?_; rintro e w' ⟨rfl, hw⟩; have hw2 := hw.symm; clear hw; subst hw2))
  go_loopg [9, 10] M (fun g v9 v10 wr => ∃ k : Nat, v10 = .int .i64 ((k : Int) + 1) ∧ k + g = M ∧ wr = w ∧ v9 = .int .i64 (A - 730485 + cum (L1 + L2) k))
  case atStart => exact ⟨0, rfl, by omega, rfl, by simp [cum]⟩
  case round =>
    obtain ⟨k, rfl, hkg, hwr, rfl⟩ := hrel
    have hw3 := hwr.symm
    clear hwr
    subst hw3
    have hck := HCM.out k (by omega)
    obtain ⟨hck1, hck2⟩ := hck
    by_cases hlt : (k : Int) + 1 < (M : Int) + 1
    · obtain ⟨g, rfl⟩ : ∃ g, gk = g + 1 := ⟨gk - 1, by omega⟩
      have hn := HLE.out k
      have hcn := HCM.out (k + 1) (by omega)
      have c7 := HC.out.2.2.2.2.2.2 ((k : Int) + 1) (by omega) (by omega)
      have H7 : Hid _ := And.intro c7 trivial
      clear c7
      rw [hn] at hcn
      obtain ⟨hcn1, hcn2⟩ := hcn
      have HN : Hid _ := hn
      clear hn
      generalize lenL (L1 + L2) ((k : Int) + 1) = Q at *
      generalize cum (L1 + L2) k = C at *
      go_wp2_with (first | (go_at_call 125; refine Calls.mono HC.out.2.2.2.2.2.1 ?_; rintro e w' ⟨rfl, hw⟩; have hw2 := hw.symm; clear hw; subst hw2) | (go_at_call 80; refine Calls.mono H7.out.1 ?_; rintro e w' ⟨rfl, hw⟩; have hw2 := hw.symm; clear hw; subst hw2))
      go_roundg g
      case measure => omega
      case rel => exact ⟨k + 1, by simp, by omega, rfl, by rw [HN.out, Int.add_assoc]⟩
    · have hkM : k = M := by omega
      subst hkM
      go_wp2_with fail
      go_ret
      exact ⟨rfl, rfl⟩
end Go.Proofs.YtgaegajcejpmdaaGreatDoor.Dt
namespace Go.Proofs.YtgaegajcejpmdaaGreatDoor.Dt
open Go.RowKit
set_option linter.unusedVariables false

/-- A box and a result's place. -/
structure AB2 (w U : World) (c z : Array Value) (t v : TypeId) : Prop where
  x1 : U.heap[w.heap.size]? = some (.cells c t (0, 0))
  x2 : U.heap[w.heap.size + 1]? = some (.cells z v (0, 0))
  hb : Below w.heap.size w U
theorem AB2.init (w : World) (c z : Array Value) (t v : TypeId) : AB2 w ((w.alloc (.cells c t)).alloc (.cells z v)) c z t v := by
  obtain ⟨a, b, e⟩ := box2 w (.cells c t) (.cells z v)
  exact ⟨a, b, e⟩
theorem AB2.set {w U : World} {c z : Array Value} {t v : TypeId} (h : AB2 w U c z t v) (i : Nat) (x : Value) : AB2 w (U.setCell ⟨w.heap.size, i, none⟩ x) (c.setIfInBounds i x) z t v :=
  ⟨bset h.x1 x, (Below.heap_setCell _ _ _ _ (by simp)).trans h.x2, h.hb.setCell (p := ⟨w.heap.size, i, none⟩) (Nat.le_refl _) x⟩
theorem AB2.ex {w U : World} {c z : Array Value} {t v : TypeId} (h : AB2 w U c z t v) : ∃ U', U = U' ∧ AB2 w U' c z t v := ⟨U, rfl, h⟩
theorem found_yr {B r : Int} {j : Nat} (hr : r < ahd (B + 400) - ahd B) (hj : j ≤ 400) (h0 : 0 ≤ r - (ahd (B + j) - ahd B)) : j ≤ 399 := by
  by_cases c : j = 400
  · subst c
    have : (B + ((400 : Nat) : Int)) = B + 400 := rfl
    rw [this] at h0
    omega
  · omega
set_option maxHeartbeats 2000000 in
theorem put_r (a : Mo) (n : Int) (w : World) (h0 : -1000000000000000 < n) (h1 : n < 1000000000000000) : Calls Tryz.prog 83 #[moV a, .int .i64 n] w fun e w' => e = .returned (moV ⟨a.k, bkY (civL n), (civM n : Nat), civD n, a.s, a.n, a.hz, a.z⟩) ∧ Below w.heap.size w w' := by
  obtain ⟨ak, ay, am, ad, as_, an, ah, az⟩ := a
  dsimp only
  have c1 := fun W : World => div_r n 146097 W (by omega) (by omega) (by omega) (by omega)
  have c2 := fun W : World => mod_r n 146097 W (by omega) (by omega) (by omega) (by omega)
  have hr := emod_in n (show (0 : Int) < 146097 by omega)
  have hq : -10000000000 < n / 146097 ∧ n / 146097 < 10000000000 := by omega
  have hnr : n = 146097 * (n / 146097) + n % 146097 := by have := Int.emod_add_mul_ediv n 146097; omega
  generalize hR : n % 146097 = r at *
  generalize hQ : n / 146097 = q at *
  clear hR hQ
  obtain ⟨hr0, hr1⟩ := hr
  obtain ⟨hq0, hq1⟩ := hq
  have hb2 : ahd (2000 + 400 * q) = ahd 2000 + 146097 * q := by rw [ahd_cycle]
  have hb4 : r < ahd (2000 + 400 * q + 400) - ahd (2000 + 400 * q) := by
    have : 2000 + 400 * q + 400 = 2000 + 400 * (q + 1) := by omega
    rw [this, ahd_cycle, ahd_cycle]
    omega
  obtain ⟨B, hB⟩ : ∃ B, 2000 + 400 * q = B := ⟨_, rfl⟩
  have hBb : -5000000000000 < B ∧ B < 5000000000000 := by omega
  rw [hB] at hb2 hb4
  have HNR : Hid _ := And.intro hnr (And.intro hb2 hb4)
  have hB' : 2000 + 400 * q = B := hB
  have HBB : Hid _ := hB
  clear hnr hb2 hb4
  have c3 := fun (j : Nat) (W : World) (hj : j ≤ 400) => leap_r (B + j) W (by omega) (by omega)
  have HC : Hid _ := And.intro c1 (And.intro c2 c3)
  clear c1 c2 c3 hB
  obtain ⟨hBb0, hBb1⟩ := hBb
  have HS : Hid (∀ j : Nat, ahd (B + ((j + 1 : Nat) : Int)) = ahd (B + j) + yrL (B + j)) := (fun j => by rw [show B + ((j + 1 : Nat) : Int) = B + j + 1 by omega, ahd_succ] : ∀ j : Nat, ahd (B + ((j + 1 : Nat) : Int)) = ahd (B + j) + yrL (B + j))
  have HA0 := AB2.init w #[.int .i64 ak, .int .i64 ay, .int .i64 am, .int .i64 ad, .int .i64 as_, .int .i64 an, .bool ah, .int .i64 az] mo0 44 44
  obtain ⟨U, hU, HA⟩ := AB2.ex HA0
  have HU : Hid _ := And.intro hU HA
  clear hU HA HA0
  go_enter Tryz.func83, Tryz.ntmps83
  go_wp2_with (first | (go_at_call 122; with_reducible refine Calls.mono (HC.out.1 _) ?_; rintro e w' ⟨rfl, hw⟩; subst hw) | (go_at_call 123; with_reducible refine Calls.mono (HC.out.2.1 _) ?_; rintro e w' ⟨rfl, hw⟩; subst hw))
  go_loopg [5, 6] 400 (fun g v5 v6 wr => ∃ (j : Nat) (D : Int), j + g = 400 ∧ v5 = .int .i64 (B + (j : Int)) ∧ v6 = .int .i64 D ∧ D = r - (ahd (B + (j : Int)) - ahd B) ∧ 0 ≤ D ∧ D < 146097 ∧ AB2 w wr #[.int .i64 ak, .int .i64 ay, .int .i64 am, .int .i64 ad, .int .i64 as_, .int .i64 an, .bool ah, .int .i64 az] mo0 44 44)
  case atStart => exact ⟨0, r, rfl, by simp, rfl, by simp, hr0, hr1, by rw [HU.out.1]; exact HU.out.2⟩
  case round =>
    obtain ⟨j, D, hjg, rfl, rfl, hD, hD0, hD1, HA⟩ := hrel
    have hj : j ≤ 399 := found_yr HNR.out.2.2 (by omega) (by rw [← hD]; exact hD0)
    obtain ⟨g, rfl⟩ : ∃ g, gk = g + 1 := ⟨gk - 1, by omega⟩
    have c3 := fun W : World => HC.out.2.2 j W (by omega)
    have hs := HS.out j
    have hyr : yrL (B + (j : Int)) = if lpL (B + (j : Int)) = true then 366 else 365 := rfl
    obtain ⟨⟨g0, g1, g2, g3, g4, g5, g6, g7⟩, f0, f1, f2, f3, f4, f5, f6, f7⟩ := blk8 HA.x1
    generalize lpL (B + (j : Int)) = lp at *
    have HX : Hid _ := And.intro hD (And.intro hs (And.intro hyr HA))
    have HLP : Hid _ := c3
    clear hD hs hyr HA c3
    cases lp
    · by_cases hlt : D < 365
      · have d1 : decide (D < 365) = true := by simpa using hlt
        have hLb : -6000000000000 < B + (j : Int) ∧ B + (j : Int) < 6000000000000 := by omega
        have q1 := fun W : World => back_r (B + (j : Int)) W (by omega) (by omega)
        have hyl : D < yrL (B + (j : Int)) := by rw [HX.out.2.2.1]; simpa using hlt
        have hsum : ahd (B + (j : Int)) - ahd 2000 + D = n := by
          have a1 := HNR.out.1
          have a2 := HNR.out.2.1
          have a3 := HX.out.1
          omega
        have hbk : -10000000000000 < bkY (B + (j : Int)) ∧ bkY (B + (j : Int)) < 10000000000000 := by unfold bkY; split <;> omega
        have q2 := fun (m : Int) (W : World) (p : -1000000000000000 < m) (q : m < 1000000000000000) => length_r (bkY (B + (j : Int))) m W (by omega) (by omega) p q
        rw [ln_bk] at q2
        generalize B + (j : Int) = L at *
        have HT : Hid _ := And.intro q1 (And.intro q2 (And.intro hsum hyl))
        clear q1 q2 hsum hyl
        obtain ⟨hbk0, hbk1⟩ := hbk
        obtain ⟨hL0, hL1⟩ := hLb
        generalize hY : bkY L = Y at *
        have HY : Hid _ := hY
        clear hY
        go_wp2_with (first | (go_at_call 124; with_reducible refine Calls.mono (HLP.out _) ?_; rintro e w' ⟨rfl, hw⟩; subst hw) | (go_at_call 125; with_reducible refine Calls.mono (HT.out.1 _) ?_; rintro e w' ⟨rfl, hw⟩; subst hw))
        have HA2 := (HX.out.2.2.2.set 1 (.int .i64 Y)).set 2 (.int .i64 1)
        simp only [List.setIfInBounds_toArray, List.set_cons_zero, List.set_cons_succ] at HA2
        go_loopg [6] 11 (fun g v6 wx => ∃ (i : Nat) (E : Int), i + g = 11 ∧ v6 = .int .i64 E ∧ E = D - cum L i ∧ 0 ≤ E ∧ E < 400 ∧ AB2 w wx #[.int .i64 ak, .int .i64 Y, .int .i64 ((i : Int) + 1), .int .i64 ad, .int .i64 as_, .int .i64 an, .bool ah, .int .i64 az] mo0 44 44)
        case atStart => exact ⟨0, D, rfl, rfl, by simp [cum], hD0, by omega, HA2⟩
        case round =>
          obtain ⟨i, E, hig, rfl, hE, hE0, hE1, HA⟩ := hrel
          clear HA2
          obtain ⟨⟨g0, g1, g2, g3, g4, g5, g6, g7⟩, f0, f1, f2, f3, f4, f5, f6, f7⟩ := blk8 HA.x1
          obtain ⟨⟨r0', r1', r2', r3', r4', r5', r6', r7'⟩, t0', t1', t2', t3', t4', t5', t6', t7'⟩ := blk8 HA.x2
          have hlen := len_in (l := L) (m := (i : Int) + 1) (by omega) (by omega)
          have q3 := fun W : World => HT.out.2.1 ((i : Int) + 1) W (by omega) (by omega)
          have hcs : cum L (i + 1) = cum L i + lenL L ((i : Int) + 1) := rfl
          have hc12 := cum_twelve L
          obtain ⟨LN, hLN⟩ : ∃ LN, lenL L ((i : Int) + 1) = LN := ⟨_, rfl⟩
          rw [hLN] at hlen q3 hcs
          obtain ⟨hl0, hl1⟩ := hlen
          have HZ : Hid _ := And.intro hE (And.intro hcs (And.intro hc12 (And.intro HA (And.intro hLN q3))))
          clear hE hcs hc12 HA hLN q3
          have hi1 : (i : Int) ≤ 11 := by omega
          by_cases hge : LN ≤ E
          · have dd : decide (LN ≤ E) = true := by simpa using hge
            have dd2 : decide (E < LN) = false := by simp; omega
            have hi : i ≤ 10 := by
              rcases Nat.lt_or_ge i 11 with h | h
              · omega
              · have h11 : i = 11 := by omega
                have a1 := HZ.out.1
                have a2 := HZ.out.2.1
                have a3 := HZ.out.2.2.1
                have a4 := HT.out.2.2.2
                rw [h11] at a1 a2
                rw [a3] at a2
                omega
            obtain ⟨g', rfl⟩ : ∃ g', gk = g' + 1 := ⟨gk - 1, by omega⟩
            go_wp2_with (go_at_call 80; with_reducible refine Calls.mono (HZ.out.2.2.2.2.2 _) ?_; rintro e w' ⟨rfl, hw⟩; subst hw)
            go_roundg g'
            case measure => omega
            case rel =>
              have hx := HZ.out.2.2.2.1.set 2 (.int .i64 ((i : Int) + 1 + 1))
              simp only [List.setIfInBounds_toArray, List.set_cons_zero, List.set_cons_succ] at hx
              refine ⟨i + 1, E - LN, by omega, rfl, ?_, by omega, by omega, ?_⟩
              · have a1 := HZ.out.1
                have a2 := HZ.out.2.1
                omega
              · rw [show ((i + 1 : Nat) : Int) = (i : Int) + 1 by omega]
                exact hx
          · have dd : decide (LN ≤ E) = false := by simpa using hge
            have dd2 : decide (E < LN) = true := by simp; omega
            go_wp2_with (go_at_call 80; with_reducible refine Calls.mono (HZ.out.2.2.2.2.2 _) ?_; rintro e w' ⟨rfl, hw⟩; subst hw)
            have HA3 := HZ.out.2.2.2.1.set 3 (.int .i64 (E + 1))
            simp only [List.setIfInBounds_toArray, List.set_cons_zero, List.set_cons_succ] at HA3
            obtain ⟨U2, hU2, hx2, hb2, _⟩ := put8 (X := w.heap.size + 1) HA3.hb (by omega) HA3.x2 (.int .i64 ak) (.int .i64 Y) (.int .i64 ((i : Int) + 1)) (.int .i64 (E + 1)) (.int .i64 as_) (.int .i64 an) (.bool ah) (.int .i64 az)
            rw [hU2]
            obtain ⟨⟨k0, k1, k2, k3, k4, k5, k6, k7⟩, _⟩ := blk8 hx2
            obtain ⟨z1, z2, z3⟩ := found (n := n) (l := L) (r := D) (j := i) (by omega) HT.out.2.2.1 (by rw [← HZ.out.1]; exact hE0) (by rw [← HZ.out.1, HZ.out.2.2.2.2.1]; omega)
            refine bodyPost_ret (v := moV ⟨ak, Y, (i : Int) + 1, E + 1, as_, an, ah, az⟩) (by simp [results, Tryz.results83, go_sem, k0, k1, k2, k3, k4, k5, k6, k7]) rfl ⟨?_, hb2⟩
            rw [z1, z2, z3, HY.out, HZ.out.1]
      · have d1 : decide (D < 365) = false := by simpa using hlt
        go_wp2_with (go_at_call 124; with_reducible refine Calls.mono (HLP.out _) ?_; rintro e w' ⟨rfl, hw⟩; subst hw)
        go_roundg g
        case measure => omega
        case rel =>
          refine ⟨j + 1, D - 365, by omega, by simp [Int.add_assoc], rfl, ?_, by omega, by omega, HX.out.2.2.2⟩
          have a1 := HX.out.1
          have a2 := HX.out.2.1
          have a3 := HX.out.2.2.1
          simp at a3
          omega
    · by_cases hlt : D < 366
      · have d1 : decide (D < 366) = true := by simpa using hlt
        have hLb : -6000000000000 < B + (j : Int) ∧ B + (j : Int) < 6000000000000 := by omega
        have q1 := fun W : World => back_r (B + (j : Int)) W (by omega) (by omega)
        have hyl : D < yrL (B + (j : Int)) := by rw [HX.out.2.2.1]; simpa using hlt
        have hsum : ahd (B + (j : Int)) - ahd 2000 + D = n := by
          have a1 := HNR.out.1
          have a2 := HNR.out.2.1
          have a3 := HX.out.1
          omega
        have hbk : -10000000000000 < bkY (B + (j : Int)) ∧ bkY (B + (j : Int)) < 10000000000000 := by unfold bkY; split <;> omega
        have q2 := fun (m : Int) (W : World) (p : -1000000000000000 < m) (q : m < 1000000000000000) => length_r (bkY (B + (j : Int))) m W (by omega) (by omega) p q
        rw [ln_bk] at q2
        generalize B + (j : Int) = L at *
        have HT : Hid _ := And.intro q1 (And.intro q2 (And.intro hsum hyl))
        clear q1 q2 hsum hyl
        obtain ⟨hbk0, hbk1⟩ := hbk
        obtain ⟨hL0, hL1⟩ := hLb
        generalize hY : bkY L = Y at *
        have HY : Hid _ := hY
        clear hY
        go_wp2_with (first | (go_at_call 124; with_reducible refine Calls.mono (HLP.out _) ?_; rintro e w' ⟨rfl, hw⟩; subst hw) | (go_at_call 125; with_reducible refine Calls.mono (HT.out.1 _) ?_; rintro e w' ⟨rfl, hw⟩; subst hw))
        have HA2 := (HX.out.2.2.2.set 1 (.int .i64 Y)).set 2 (.int .i64 1)
        simp only [List.setIfInBounds_toArray, List.set_cons_zero, List.set_cons_succ] at HA2
        go_loopg [6] 11 (fun g v6 wx => ∃ (i : Nat) (E : Int), i + g = 11 ∧ v6 = .int .i64 E ∧ E = D - cum L i ∧ 0 ≤ E ∧ E < 400 ∧ AB2 w wx #[.int .i64 ak, .int .i64 Y, .int .i64 ((i : Int) + 1), .int .i64 ad, .int .i64 as_, .int .i64 an, .bool ah, .int .i64 az] mo0 44 44)
        case atStart => exact ⟨0, D, rfl, rfl, by simp [cum], hD0, by omega, HA2⟩
        case round =>
          obtain ⟨i, E, hig, rfl, hE, hE0, hE1, HA⟩ := hrel
          clear HA2
          obtain ⟨⟨g0, g1, g2, g3, g4, g5, g6, g7⟩, f0, f1, f2, f3, f4, f5, f6, f7⟩ := blk8 HA.x1
          obtain ⟨⟨r0', r1', r2', r3', r4', r5', r6', r7'⟩, t0', t1', t2', t3', t4', t5', t6', t7'⟩ := blk8 HA.x2
          have hlen := len_in (l := L) (m := (i : Int) + 1) (by omega) (by omega)
          have q3 := fun W : World => HT.out.2.1 ((i : Int) + 1) W (by omega) (by omega)
          have hcs : cum L (i + 1) = cum L i + lenL L ((i : Int) + 1) := rfl
          have hc12 := cum_twelve L
          obtain ⟨LN, hLN⟩ : ∃ LN, lenL L ((i : Int) + 1) = LN := ⟨_, rfl⟩
          rw [hLN] at hlen q3 hcs
          obtain ⟨hl0, hl1⟩ := hlen
          have HZ : Hid _ := And.intro hE (And.intro hcs (And.intro hc12 (And.intro HA (And.intro hLN q3))))
          clear hE hcs hc12 HA hLN q3
          have hi1 : (i : Int) ≤ 11 := by omega
          by_cases hge : LN ≤ E
          · have dd : decide (LN ≤ E) = true := by simpa using hge
            have dd2 : decide (E < LN) = false := by simp; omega
            have hi : i ≤ 10 := by
              rcases Nat.lt_or_ge i 11 with h | h
              · omega
              · have h11 : i = 11 := by omega
                have a1 := HZ.out.1
                have a2 := HZ.out.2.1
                have a3 := HZ.out.2.2.1
                have a4 := HT.out.2.2.2
                rw [h11] at a1 a2
                rw [a3] at a2
                omega
            obtain ⟨g', rfl⟩ : ∃ g', gk = g' + 1 := ⟨gk - 1, by omega⟩
            go_wp2_with (go_at_call 80; with_reducible refine Calls.mono (HZ.out.2.2.2.2.2 _) ?_; rintro e w' ⟨rfl, hw⟩; subst hw)
            go_roundg g'
            case measure => omega
            case rel =>
              have hx := HZ.out.2.2.2.1.set 2 (.int .i64 ((i : Int) + 1 + 1))
              simp only [List.setIfInBounds_toArray, List.set_cons_zero, List.set_cons_succ] at hx
              refine ⟨i + 1, E - LN, by omega, rfl, ?_, by omega, by omega, ?_⟩
              · have a1 := HZ.out.1
                have a2 := HZ.out.2.1
                omega
              · rw [show ((i + 1 : Nat) : Int) = (i : Int) + 1 by omega]
                exact hx
          · have dd : decide (LN ≤ E) = false := by simpa using hge
            have dd2 : decide (E < LN) = true := by simp; omega
            go_wp2_with (go_at_call 80; with_reducible refine Calls.mono (HZ.out.2.2.2.2.2 _) ?_; rintro e w' ⟨rfl, hw⟩; subst hw)
            have HA3 := HZ.out.2.2.2.1.set 3 (.int .i64 (E + 1))
            simp only [List.setIfInBounds_toArray, List.set_cons_zero, List.set_cons_succ] at HA3
            obtain ⟨U2, hU2, hx2, hb2, _⟩ := put8 (X := w.heap.size + 1) HA3.hb (by omega) HA3.x2 (.int .i64 ak) (.int .i64 Y) (.int .i64 ((i : Int) + 1)) (.int .i64 (E + 1)) (.int .i64 as_) (.int .i64 an) (.bool ah) (.int .i64 az)
            rw [hU2]
            obtain ⟨⟨k0, k1, k2, k3, k4, k5, k6, k7⟩, _⟩ := blk8 hx2
            obtain ⟨z1, z2, z3⟩ := found (n := n) (l := L) (r := D) (j := i) (by omega) HT.out.2.2.1 (by rw [← HZ.out.1]; exact hE0) (by rw [← HZ.out.1, HZ.out.2.2.2.2.1]; omega)
            refine bodyPost_ret (v := moV ⟨ak, Y, (i : Int) + 1, E + 1, as_, an, ah, az⟩) (by simp [results, Tryz.results83, go_sem, k0, k1, k2, k3, k4, k5, k6, k7]) rfl ⟨?_, hb2⟩
            rw [z1, z2, z3, HY.out, HZ.out.1]
      · have d1 : decide (D < 366) = false := by simpa using hlt
        go_wp2_with (go_at_call 124; with_reducible refine Calls.mono (HLP.out _) ?_; rintro e w' ⟨rfl, hw⟩; subst hw)
        go_roundg g
        case measure => omega
        case rel =>
          refine ⟨j + 1, D - 366, by omega, by simp [Int.add_assoc], rfl, ?_, by omega, by omega, HX.out.2.2.2⟩
          have a1 := HX.out.1
          have a2 := HX.out.2.1
          have a3 := HX.out.2.2.1
          simp at a3
          omega
end Go.Proofs.YtgaegajcejpmdaaGreatDoor.Dt
