/- Joined: HDtPc1, HDtPc2, HDtPc3, HDtPc4, HDtCal3. -/
import Derived.Test.YtgaegajcejpmdaaGreatDoorHJ22
import Derived.Test.YtgaegajcejpmdaaGreatDoorHJ16
namespace Go.Proofs.YtgaegajcejpmdaaGreatDoor.Dt
open Go.RowKit
set_option linter.unusedVariables false

theorem tdiv_neg {a b : Int} (hb : 0 < b) (h : a.tmod b < 0) : a.tdiv b - 1 = a / b := by
  rw [Int.tmod_eq_emod] at h
  rw [Int.tdiv_eq_ediv]
  have := Int.emod_nonneg a (show b ≠ 0 by omega)
  split at h <;> rename_i c
  · omega
  · rw [if_neg c, Int.sign_eq_one_of_pos hb]; omega
theorem tdiv_pos {a b : Int} (hb : 0 < b) (h : ¬ a.tmod b < 0) : a.tdiv b = a / b := by
  rw [Int.tmod_eq_emod] at h
  rw [Int.tdiv_eq_ediv]
  have := Int.emod_lt_of_pos a hb
  split at h <;> rename_i c
  · rw [if_pos c]; omega
  · omega
theorem placeOf_p (y : Int) (w : World) (h0 : -1000000000000000 < y) (h1 : y < 1000000000000000) : Calls Tryz.prog 136 #[.int .i64 y] w fun e w' => e = .returned (.int .i64 (lnY y)) ∧ w' = w := by
  unfold lnY
  by_cases h : y < 0
  · rw [if_pos h]
    go_enter Tryz.func136, Tryz.ntmps136
    go_wp2_with fail
    go_ret
    exact ⟨rfl, rfl⟩
  · rw [if_neg h]
    go_enter Tryz.func136, Tryz.ntmps136
    go_wp2_with fail
    go_ret
    exact ⟨rfl, rfl⟩
theorem yearAt_p (y : Int) (w : World) (h0 : -1000000000000000 < y) (h1 : y < 1000000000000000) : Calls Tryz.prog 135 #[.int .i64 y] w fun e w' => e = .returned (.int .i64 (bkY y)) ∧ w' = w := by
  unfold bkY
  by_cases h : y ≤ 0
  · rw [if_pos h]
    go_enter Tryz.func135, Tryz.ntmps135
    go_wp2_with fail
    go_ret
    exact ⟨rfl, rfl⟩
  · rw [if_neg h]
    go_enter Tryz.func135, Tryz.ntmps135
    go_wp2_with fail
    go_ret
    exact ⟨rfl, rfl⟩
set_option maxHeartbeats 400000 in
theorem carry_p (n b : Int) (w : World) (h0 : -1000000000000000000 < n) (h1 : n < 1000000000000000000) (hb : 0 < b) (hb' : b < 1000000000000) : Calls Tryz.prog 134 #[.int .i64 n, .int .i64 b] w fun e w' => e = .returned (.tuple #[.int .i64 (n / b), .int .i64 (n % b)]) ∧ ∃ q, w' = w.drewN q := by
  have hne : ¬ b = 0 := by omega
  have hn1 : ¬ b = -1 := by omega
  have hdb : -1000000000000000000 ≤ n / b ∧ n / b ≤ 1000000000000000000 := by
    have h2 : n / b ≤ 1000000000000000000 := by
      by_cases c : 0 ≤ n
      · have := Int.ediv_le_self b c; omega
      · have := Int.ediv_neg_of_neg_of_pos (show n < 0 by omega) hb; omega
    have h3 : -1000000000000000000 ≤ n / b := by
      have : -1000000000000000000 * b ≤ n := by
        have : 1 * 1000000000000000000 ≤ b * 1000000000000000000 := Int.mul_le_mul_of_nonneg_right (by omega) (by omega)
        omega
      exact (Int.le_ediv_iff_mul_le hb).2 this
    exact ⟨h3, h2⟩
  have hm := emod_in n hb
  obtain ⟨hd0, hd1⟩ := hdb
  obtain ⟨hm0, hm1⟩ := hm
  by_cases h : n.tmod b < 0
  · have e1 := tmod_neg hb h
    have e2 := tdiv_neg hb h
    rw [← e1] at hm0 hm1 ⊢
    rw [← e2] at hd0 hd1 ⊢
    clear e1 e2
    generalize hr : n.tmod b = r at *
    generalize hs : n.tdiv b = s at *
    go_enter Tryz.func134, Tryz.ntmps134
    go_wp2_with fail
    go_quiet (fail)
    go_wp2_with fail
    go_ret2
    exact ⟨rfl, _, rfl⟩
  · have e1 := tmod_pos hb h
    have e2 := tdiv_pos hb h
    rw [← e1] at hm0 hm1 ⊢
    rw [← e2] at hd0 hd1 ⊢
    clear e1 e2
    generalize hr : n.tmod b = r at *
    generalize hs : n.tdiv b = s at *
    go_enter Tryz.func134, Tryz.ntmps134
    go_wp2_with fail
    go_quiet (fail)
    go_wp2_with fail
    go_ret2
    exact ⟨rfl, _, rfl⟩
end Go.Proofs.YtgaegajcejpmdaaGreatDoor.Dt
namespace Go.Proofs.YtgaegajcejpmdaaGreatDoor.Dt
open Go.RowKit
set_option linter.unusedVariables false

theorem tm0 (n : Int) {b : Int} (hb : 0 < b) : n.tmod b = 0 ↔ n % b = 0 := by
  constructor
  · intro h; rw [← tmod_pos hb (by omega)]; exact h
  · intro h
    by_cases c : n.tmod b < 0
    · have := tmod_neg hb c; have := Int.emod_lt_of_pos n hb; have := Int.lt_tmod_of_pos n hb; omega
    · rw [tmod_pos hb c]; exact h
theorem ln_in' {y : Int} (h0 : -100000000000000 < y) (h1 : y < 100000000000000) : -1000000000000000 < lnY y ∧ lnY y < 1000000000000000 := by unfold lnY; split <;> omega
set_option maxHeartbeats 400000 in
theorem Leap_p (y : Int) (w : World) (h0 : -100000000000000 < y) (h1 : y < 100000000000000) : Calls Tryz.prog 171 #[.int .i64 y] w fun e w' => e = .returned (.bool (lpL (lnY y))) ∧ w' = w := by
  have m1 := placeOf_p y w (by omega) (by omega)
  have HM : Hid _ := And.intro m1 trivial
  clear m1
  have hl := ln_in' h0 h1
  obtain ⟨hl0, hl1⟩ := hl
  have HE : Hid (lpL (lnY y) = ((lnY y).tmod 4 == 0 && ((lnY y).tmod 100 != 0 || (lnY y).tmod 400 == 0))) := (by
    unfold lpL
    have a := tm0 (lnY y) (show (0 : Int) < 4 by omega)
    have b := tm0 (lnY y) (show (0 : Int) < 100 by omega)
    have c := tm0 (lnY y) (show (0 : Int) < 400 by omega)
    rw [Bool.eq_iff_iff]
    simp [a, b, c] : lpL (lnY y) = ((lnY y).tmod 4 == 0 && ((lnY y).tmod 100 != 0 || (lnY y).tmod 400 == 0)))
  generalize hL : lnY y = L at *
  clear hL
  generalize ha : L.tmod 4 = a at *
  generalize hb : L.tmod 100 = b at *
  generalize hc : L.tmod 400 = c at *
  by_cases ha0 : a = 0
  · by_cases hb0 : b = 0
    · by_cases hc0 : c = 0
      all_goals
        go_enter Tryz.func171, Tryz.ntmps171
        go_wp2_with (first | (go_at_call 136; refine Calls.mono HM.out.1 ?_; rintro e w' ⟨rfl, rfl⟩))
        go_ret
        refine ⟨?_, rfl⟩
        rw [HE.out]
        simp [ha0, hb0, hc0]
    · go_enter Tryz.func171, Tryz.ntmps171
      go_wp2_with (first | (go_at_call 136; refine Calls.mono HM.out.1 ?_; rintro e w' ⟨rfl, rfl⟩))
      go_ret
      refine ⟨?_, rfl⟩
      rw [HE.out]
      simp [ha0, hb0]
  · go_enter Tryz.func171, Tryz.ntmps171
    go_wp2_with (first | (go_at_call 136; refine Calls.mono HM.out.1 ?_; rintro e w' ⟨rfl, rfl⟩))
    go_ret
    refine ⟨?_, rfl⟩
    rw [HE.out]
    simp [ha0]
set_option maxHeartbeats 400000 in
theorem length_p (y m : Int) (w : World) (h0 : -100000000000000 < y) (h1 : y < 100000000000000) (hm : -1000000000000000 < m) (hm' : m < 1000000000000000) : Calls Tryz.prog 137 #[.int .i64 y, .int .i64 m] w fun e w' => e = .returned (.int .i64 (lenL (lnY y) m)) ∧ w' = w := by
  have m1 := Leap_p y w h0 h1
  have HM : Hid _ := And.intro m1 trivial
  clear m1
  by_cases c2 : m = 2
  · subst c2
    cases hl : lpL (lnY y)
    all_goals
      rw [hl] at HM
      go_enter Tryz.func137, Tryz.ntmps137
      go_wp2_with (first | (go_at_call 171; refine Calls.mono HM.out.1 ?_; rintro e w' ⟨rfl, rfl⟩))
      go_ret
      exact ⟨by unfold lenL; simp [hl], rfl⟩
  · have e1 : lenL (lnY y) m = if m = 4 ∨ m = 6 ∨ m = 9 ∨ m = 11 then 30 else if 1 ≤ m ∧ m ≤ 12 then 31 else 0 := by unfold lenL; rw [if_neg c2]
    rw [e1]
    clear e1 HM
    by_cases i : 1 ≤ m ∧ m ≤ 12
    · have : m = 1 ∨ m = 3 ∨ m = 4 ∨ m = 5 ∨ m = 6 ∨ m = 7 ∨ m = 8 ∨ m = 9 ∨ m = 10 ∨ m = 11 ∨ m = 12 := by omega
      rcases this with rfl | rfl | rfl | rfl | rfl | rfl | rfl | rfl | rfl | rfl | rfl
      all_goals
        go_enter Tryz.func137, Tryz.ntmps137
        go_wp2_with fail
        go_ret
        exact ⟨rfl, rfl⟩
    · rw [if_neg (by omega), if_neg i]
      have n1 : ¬ m = 1 := by omega
      have n3 : ¬ m = 3 := by omega
      have n4 : ¬ m = 4 := by omega
      have n5 : ¬ m = 5 := by omega
      have n6 : ¬ m = 6 := by omega
      have n7 : ¬ m = 7 := by omega
      have n8 : ¬ m = 8 := by omega
      have n9 : ¬ m = 9 := by omega
      have n10 : ¬ m = 10 := by omega
      have n11 : ¬ m = 11 := by omega
      have n12 : ¬ m = 12 := by omega
      clear i
      go_enter Tryz.func137, Tryz.ntmps137
      go_wp2_with fail
      go_ret
      exact ⟨rfl, rfl⟩
/-- How often a rule's leap years come in so many years. -/
theorem leap_c (y b : Int) (B : Nat) (w : World) (hc : w.cell? ⟨B, 0, none⟩ = some (.int .i64 y)) (h0 : -10000000000000 < y) (h1 : y < 10000000000000) (hb : 0 < b) (hb' : b < 1000000) : Calls Tryz.prog 202 #[.int .i64 b, .pointer (some ⟨B, 0, none⟩)] w fun e w' => e = .returned (.int .i64 ((y + b - 1) / b)) ∧ ∃ q, w' = w.drewN q := by
  have m1 := carry_p (y + b - 1) b w (by omega) (by omega) hb (by omega)
  have HM : Hid _ := And.intro m1 trivial
  clear m1
  go_enter Tryz.func202, Tryz.ntmps202
  go_wp2_with (first | (go_at_call 134; refine Calls.mono HM.out.1 ?_; rintro e w' ⟨rfl, q, rfl⟩))
  go_ret
  exact ⟨rfl, _, rfl⟩
/-- The days of so many years from 2000 on. -/
theorem ahd_from (k : Int) : ahd (2000 + k) - ahd 2000 = 365 * k + (k + 4 - 1) / 4 - (k + 100 - 1) / 100 + (k + 400 - 1) / 400 := by unfold ahd; omega
set_option maxHeartbeats 400000 in
theorem from_p (k : Int) (w : World) (h0 : -10000000000000 < k) (h1 : k < 10000000000000) : Calls Tryz.prog 172 #[.int .i64 k] w fun e w' => e = .returned (.int .i64 (ahd (2000 + k) - ahd 2000)) ∧ Below w.heap.size w w' := by
  rw [ahd_from]
  have hcell : ∀ n : Nat, ((w.alloc (.cells #[.int .i64 k] 3)).drewN n).cell? ⟨w.heap.size, 0, none⟩ = some (.int .i64 k) := fun n => by
    show (w.alloc (.cells #[.int .i64 k] 3)).cell? ⟨w.heap.size, 0, none⟩ = _
    simp only [World.cell?, nw_heap]
    rfl
  have m1 := fun n : Nat => leap_c k 4 w.heap.size _ (hcell n) h0 h1 (by omega) (by omega)
  have m2 := fun n : Nat => leap_c k 100 w.heap.size _ (hcell n) h0 h1 (by omega) (by omega)
  have m3 := fun n : Nat => leap_c k 400 w.heap.size _ (hcell n) h0 h1 (by omega) (by omega)
  clear hcell
  have HM : Hid _ := And.intro m1 (And.intro m2 m3)
  clear m1 m2 m3
  have b1 : -10000000000000 ≤ (k + 4 - 1) / 4 ∧ (k + 4 - 1) / 4 ≤ 10000000000000 := by omega
  have b2 : -10000000000000 ≤ (k + 100 - 1) / 100 ∧ (k + 100 - 1) / 100 ≤ 10000000000000 := by omega
  have b3 : -10000000000000 ≤ (k + 400 - 1) / 400 ∧ (k + 400 - 1) / 400 ≤ 10000000000000 := by omega
  generalize (k + 4 - 1) / 4 = a at *
  generalize (k + 100 - 1) / 100 = b at *
  generalize (k + 400 - 1) / 400 = c at *
  obtain ⟨b11, b12⟩ := b1
  obtain ⟨b21, b22⟩ := b2
  obtain ⟨b31, b32⟩ := b3
  go_enter Tryz.func172, Tryz.ntmps172
  go_wp2_with fail
  go_quiet ((go_at_call 202; first | with_reducible exact Calls.quiet_of (HM.out.1 _) | with_reducible exact Calls.quiet_of (HM.out.2.1 _) | with_reducible exact Calls.quiet_of (HM.out.2.2 _)))
  go_wp2_with fail
  go_ret
  exact ⟨rfl, bdrewN ((Below.refl _ _).alloc (Nat.le_refl _) _) _⟩
end Go.Proofs.YtgaegajcejpmdaaGreatDoor.Dt
namespace Go.Proofs.YtgaegajcejpmdaaGreatDoor.Dt
open Go.RowKit
set_option linter.unusedVariables false

theorem ahd_in' {l : Int} (h0 : -10000000000000 < l) (h1 : l < 10000000000000) : -4000000000000000 < ahd l ∧ ahd l < 4000000000000000 := by unfold ahd; omega
theorem bk_in' {l : Int} (h0 : -10000000000000 < l) (h1 : l < 10000000000000) : -100000000000000 < bkY l ∧ bkY l < 100000000000000 := by unfold bkY; split <;> omega
set_option maxHeartbeats 800000 in
theorem days_p (y m d : Int) (w : World) (h0 : -1000000000000 < y) (h1 : y < 1000000000000) (m0 : -1000000000000 < m) (m1 : m < 1000000000000) (d0 : -1000000000000000 < d) (d1 : d < 1000000000000000) : Calls Tryz.prog 139 #[.int .i64 y, .int .i64 m, .int .i64 d] w fun e w' => e = .returned (.int .i64 (daysS y m d)) ∧ Below w.heap.size w w' := by
  have hln : -1000000000001 < lnY y ∧ lnY y < 1000000000001 := by unfold lnY; split <;> omega
  have c1 := carry_p (m - 1) 12 w (by omega) (by omega) (by omega) (by omega)
  have hdv : -1000000000000 < (m - 1) / 12 ∧ (m - 1) / 12 < 1000000000000 := by omega
  have hmd := emod_in (m - 1) (show (0 : Int) < 12 by omega)
  obtain ⟨M, hM⟩ : ∃ M : Nat, (m - 1) % 12 = M := ⟨((m - 1) % 12).toNat, by omega⟩
  have hb : ahd 2000 = 730485 := by decide
  have hR : daysS y m d = ahd (lnY y + (m - 1) / 12) - 730485 + cum (lnY y + (m - 1) / 12) M + d - 1 := by
    unfold daysS dayN
    rw [hb, hM, Int.toNat_natCast, Nat.add_sub_cancel]
  rw [hM] at c1 hmd
  clear hM
  rw [hR]
  clear hR
  have c2 := fun W : World => placeOf_p y W (by omega) (by omega)
  generalize hL1 : lnY y = L1 at *
  generalize hL2 : (m - 1) / 12 = L2 at *
  have hL : -10000000000000 < L1 + L2 ∧ L1 + L2 < 10000000000000 := by omega
  have c4 := fun W : World => from_p (L1 + L2 - 2000) W (by omega) (by omega)
  have ha := ahd_in' hL.1 hL.2
  rw [show 2000 + (L1 + L2 - 2000) = L1 + L2 by omega, hb] at c4
  have c6 := fun W : World => yearAt_p (L1 + L2) W (by omega) (by omega)
  have hk := bk_in' hL.1 hL.2
  have c7 := fun (k : Int) (W : World) => fun (p : -1000000000000000 < k) (q : k < 1000000000000000) => length_p (bkY (L1 + L2)) k W hk.1 hk.2 p q
  rw [ln_bk] at c7
  have HC : Hid _ := And.intro c1 (And.intro c2 (And.intro c4 (And.intro c6 c7)))
  clear c1 c2 c4 c6 c7
  have HCM : Hid (∀ k : Nat, k ≤ 12 → 0 ≤ cum (L1 + L2) k ∧ cum (L1 + L2) k ≤ 366) := (fun k hk => ⟨cum_nonneg _ _, cum_le _ hk⟩ : ∀ k : Nat, k ≤ 12 → 0 ≤ cum (L1 + L2) k ∧ cum (L1 + L2) k ≤ 366)
  have HLE : Hid (∀ k : Nat, cum (L1 + L2) (k + 1) = cum (L1 + L2) k + lenL (L1 + L2) ((k : Int) + 1)) := (fun k => rfl : ∀ k : Nat, cum (L1 + L2) (k + 1) = cum (L1 + L2) k + lenL (L1 + L2) ((k : Int) + 1))
  clear hb hL1 hL2
  generalize bkY (L1 + L2) = B at *
  generalize hA : ahd (L1 + L2) = A at *
  obtain ⟨hln1, hln2⟩ := hln
  obtain ⟨hdv1, hdv2⟩ := hdv
  obtain ⟨hmd1, hmd2⟩ := hmd
  obtain ⟨hL3, hL4⟩ := hL
  obtain ⟨ha1, ha2⟩ := ha
  obtain ⟨hk1, hk2⟩ := hk
  clear hA
  go_enter Tryz.func139, Tryz.ntmps139
  go_wp2_with (first | (go_at_call 134; refine Calls.mono HC.out.1 ?_; rintro e w' ⟨rfl, q, rfl⟩) | (go_at_call 136; refine Calls.mono (HC.out.2.1 _) ?_; rintro e w' ⟨rfl, rfl⟩) | (go_at_call 172; refine Calls.mono (HC.out.2.2.1 _) ?_; rintro e w' ⟨rfl, hB⟩))
  have HB : Hid _ := And.intro (show Below w.heap.size w w' from (below_drewN q).trans hB) trivial
  clear hB
  go_loopg [9, 28] M (fun g v9 v28 wr => ∃ k : Nat, v28 = .int .i64 (k : Int) ∧ k + g = M ∧ wr = w' ∧ v9 = .int .i64 (A - 730485 + d - 1 + cum (L1 + L2) k))
  case atStart => exact ⟨0, rfl, by omega, rfl, by simp [cum]⟩
  case round =>
    obtain ⟨k, rfl, hkg, hwr, rfl⟩ := hrel
    have hw3 := hwr.symm
    clear hwr
    subst hw3
    have hck := HCM.out k (by omega)
    obtain ⟨hck1, hck2⟩ := hck
    by_cases hlt : (k : Int) < (M : Int)
    · obtain ⟨g, rfl⟩ : ∃ g, gk = g + 1 := ⟨gk - 1, by omega⟩
      have hn := HLE.out k
      have hcn := HCM.out (k + 1) (by omega)
      have c7 := fun W : World => HC.out.2.2.2.2 ((k : Int) + 1) W (by omega) (by omega)
      have H7 : Hid _ := And.intro c7 trivial
      clear c7
      rw [hn] at hcn
      obtain ⟨hcn1, hcn2⟩ := hcn
      have HN : Hid _ := hn
      clear hn
      generalize lenL (L1 + L2) ((k : Int) + 1) = Q at *
      generalize cum (L1 + L2) k = C at *
      go_wp2_with (first | (go_at_call 135; refine Calls.mono (HC.out.2.2.2.1 _) ?_; rintro e w' ⟨rfl, rfl⟩) | (go_at_call 137; refine Calls.mono (H7.out.1 _) ?_; rintro e w' ⟨rfl, rfl⟩))
      go_roundg g
      case measure => omega
      case rel => exact ⟨k + 1, by simp, by omega, rfl, by rw [HN.out, Int.add_assoc]⟩
    · have hkM : k = M := by omega
      subst hkM
      go_wp2_with fail
      go_ret
      exact ⟨ret_int (by omega), HB.out.1⟩
end Go.Proofs.YtgaegajcejpmdaaGreatDoor.Dt
namespace Go.Proofs.YtgaegajcejpmdaaGreatDoor.Dt
open Go.RowKit
set_option linter.unusedVariables false

theorem guess {r : Int} (h0 : 0 ≤ r) (h1 : r < 146097) : ahd (2000 + r / 366) - ahd 2000 ≤ r ∧ r < ahd (2000 + (r / 366 + 2)) - ahd 2000 := by
  unfold ahd; omega
theorem guess_top {k : Int} (h : 400 ≤ k) : 146097 ≤ ahd (2000 + k) - ahd 2000 := by unfold ahd; omega
/-- The day of a number, as it is found. -/
theorem found {n l r : Int} {j : Nat} (hj : j ≤ 11) (hn : ahd l - ahd 2000 + r = n) (h0 : 0 ≤ r - cum l j) (h1 : r - cum l j < lenL l ((j : Int) + 1)) : civL n = l ∧ ((civM n : Nat) : Int) = (j : Int) + 1 ∧ civD n = r - cum l j + 1 := by
  have : IsDay n l (j + 1) (r - cum l j + 1) := ⟨by omega, by omega, by omega, by
    rw [show (((j + 1 : Nat) : Nat) : Int) = (j : Int) + 1 by omega]; omega, by
    simp only [dayN, Nat.add_sub_cancel]; omega⟩
  obtain ⟨a, b, c⟩ := civ_of this
  exact ⟨a, by rw [b]; omega, c⟩
/-- The months' loop, its end. -/
theorem found_end {l r : Int} (h : r < yrL l) {j : Nat} (hj : j ≤ 12) (h0 : 0 ≤ r - cum l j) : j ≤ 11 := by
  by_cases c : j = 12
  · subst c; rw [cum_twelve] at h0; omega
  · omega
set_option maxHeartbeats 800000 in
theorem dayAt_p (n : Int) (w : World) (h0 : -1000000000000000 < n) (h1 : n < 1000000000000000) : Calls Tryz.prog 138 #[.int .i64 n] w fun e w' => e = .returned (.tuple #[.int .i64 (bkY (civL n)), .int .i64 (civM n : Nat), .int .i64 (civD n)]) ∧ Below w.heap.size w w' := by
  have c1 := carry_p n 146097 w (by omega) (by omega) (by omega) (by omega)
  have hr := emod_in n (show (0 : Int) < 146097 by omega)
  have hq : -10000000000 < n / 146097 ∧ n / 146097 < 10000000000 := by omega
  have hnr : n = 146097 * (n / 146097) + n % 146097 := by have := Int.emod_add_mul_ediv n 146097; omega
  generalize hR : n % 146097 = r at *
  generalize hQ : n / 146097 = q at *
  clear hR hQ
  obtain ⟨hr0, hr1⟩ := hr
  obtain ⟨hq0, hq1⟩ := hq
  have hg := guess hr0 hr1
  have hkb : 0 ≤ r / 366 ∧ r / 366 ≤ 399 := by omega
  have c2 := fun W : World => from_p (r / 366 + 1) W (by omega) (by omega)
  have c3 := fun W : World => from_p (r / 366) W (by omega) (by omega)
  have hk1 : r / 366 + 1 ≤ 400 := by omega
  have hmid := guess_top (k := r / 366 + 1)
  have hKb := ahd_in' (l := 2000 + r / 366) (by omega) (by omega)
  have hKb1 := ahd_in' (l := 2000 + (r / 366 + 1)) (by omega) (by omega)
  have hb : ahd 2000 = 730485 := by decide
  generalize hk : r / 366 = k at *
  have HK : Hid _ := hk
  clear hk
  have hcy : ∀ j : Int, ahd (2000 + 400 * q + j) = ahd (2000 + j) + 146097 * q := fun j => by
    rw [show 2000 + 400 * q + j = 2000 + j + 400 * q by omega, ahd_cycle]
  have fin : ∀ (K : Int) (W : World), 0 ≤ K → K ≤ 399 → ahd (2000 + K) - ahd 2000 ≤ r → r < ahd (2000 + (K + 1)) - ahd 2000 →
      ahd (2000 + 400 * q + K) - ahd 2000 + (r - (ahd (2000 + K) - ahd 2000)) = n ∧ 0 ≤ r - (ahd (2000 + K) - ahd 2000) ∧ r - (ahd (2000 + K) - ahd 2000) < yrL (2000 + 400 * q + K) := by
    intro K W k0 k1 a b
    have e1 := hcy K
    have e2 := hcy (K + 1)
    have e3 := ahd_succ (2000 + 400 * q + K)
    rw [show 2000 + 400 * q + K + 1 = 2000 + 400 * q + (K + 1) by omega] at e3
    omega
  have HF : Hid _ := And.intro fin trivial
  have HC : Hid _ := And.intro c1 (And.intro c2 c3)
  clear c1 c2 c3 fin hcy
  have key : ∃ K : Int, 0 ≤ K ∧ K ≤ 399 ∧ ahd (2000 + K) - ahd 2000 ≤ r ∧ r < ahd (2000 + (K + 1)) - ahd 2000 ∧ ((ahd (2000 + (k + 1)) - ahd 2000 ≤ r ∧ K = k + 1) ∨ (¬ ahd (2000 + (k + 1)) - ahd 2000 ≤ r ∧ K = k)) := by
    by_cases hup : ahd (2000 + (k + 1)) - ahd 2000 ≤ r
    · refine ⟨k + 1, by omega, ?_, hup, ?_, .inl ⟨hup, rfl⟩⟩
      · by_cases c : 400 ≤ k + 1
        · have := hmid c; omega
        · omega
      · rw [show k + 1 + 1 = k + 2 by omega]; omega
    · exact ⟨k, by omega, by omega, hg.1, by omega, .inr ⟨hup, rfl⟩⟩
  obtain ⟨K, K0, K1, K2, K3, hK⟩ := key
  obtain ⟨f1, f2, f3⟩ := HF.out.1 K w K0 K1 K2 K3
  have c5 := fun W : World => from_p K W (by omega) (by omega)
  have c6 := fun W : World => yearAt_p (2000 + 400 * q + K) W (by omega) (by omega)
  have hbk := bk_in' (l := 2000 + 400 * q + K) (by omega) (by omega)
  have c7 := fun (m : Int) (W : World) => fun (p : -1000000000000000 < m) (q' : m < 1000000000000000) => length_p (bkY (2000 + 400 * q + K)) m W hbk.1 hbk.2 p q'
  rw [ln_bk] at c7
  have HD : Hid _ := And.intro c5 (And.intro c6 c7)
  clear c5 c6 c7 HF hmid hnr
  have hFb := ahd_in' (l := 2000 + K) (by omega) (by omega)
  have HFE : Hid _ := f1
  clear f1
  generalize hL : 2000 + 400 * q + K = L at *
  have HL : Hid _ := hL
  clear hL
  generalize hF : ahd (2000 + K) - ahd 2000 = F at *
  have hFb1 : -10000000000000000 < F ∧ F < 10000000000000000 := by omega
  generalize hG : ahd (2000 + (k + 1)) - ahd 2000 = G at *
  have hGb1 : -10000000000000000 < G ∧ G < 10000000000000000 := by omega
  have hGF : K = k + 1 → G = F := by rintro rfl; rw [← hF, ← hG]
  clear hF hG hg hKb hKb1 hFb hb K2 K3
  obtain ⟨hFb0, hFb1⟩ := hFb1
  obtain ⟨hGb0, hGb1⟩ := hGb1
  obtain ⟨hk0, hk2⟩ := hkb
  have hdv : r / 366 = k := HK.out
  have hR2 : (r - F) = r - F := rfl
  have HCM : Hid (∀ j : Nat, j ≤ 12 → 0 ≤ cum L j ∧ cum L j ≤ 366) := (fun k hk => ⟨cum_nonneg _ _, cum_le _ hk⟩ : ∀ j : Nat, j ≤ 12 → 0 ≤ cum L j ∧ cum L j ≤ 366)
  have HLE : Hid (∀ j : Nat, cum L (j + 1) = cum L j + lenL L ((j : Int) + 1)) := (fun k => rfl : ∀ j : Nat, cum L (j + 1) = cum L j + lenL L ((j : Int) + 1))
  have HYR : Hid _ := And.intro f3 trivial
  clear f3 hR2
  have HL2 : 2000 + q * 400 + K = L := by have := HL.out; omega
  rcases hK with ⟨hup, rfl⟩ | ⟨hup, rfl⟩
  · obtain rfl := (hGF rfl).symm
    clear hGF
    go_enter Tryz.func138, Tryz.ntmps138
    go_wp2_with (first | (go_at_call 134; refine Calls.mono HC.out.1 ?_; rintro e w' ⟨rfl, q1, rfl⟩; have hb := below_drewN (w := w) q1) | (go_at_call 172; with_reducible refine Calls.mono (HC.out.2.1 _) ?_; rintro e w1 ⟨rfl, hB1⟩; have hb := hb.trans (hB1.mono hb.size)) | (go_at_call 172; with_reducible refine Calls.mono (HD.out.1 _) ?_; rintro e w1 ⟨rfl, hB1⟩; have hb := hb.trans (hB1.mono hb.size)) | (go_at_call 135; with_reducible refine Calls.mono (HD.out.2.1 _) ?_; rintro e w3 ⟨rfl, hB3⟩; rw [← hB3] at hb; clear hB3))
    have HB : Hid _ := And.intro hb trivial
    clear hb
    go_loopg [0, 3] 12 (fun g v0 v3 wr => ∃ j : Nat, j + g = 12 ∧ v3 = .int .i64 ((j : Int) + 1) ∧ v0 = .int .i64 (r - F - cum L j) ∧ 0 ≤ r - F - cum L j ∧ wr = w3)
    case atStart => exact ⟨0, rfl, rfl, by simp [cum], by simp [cum]; omega, rfl⟩
    case round =>
      obtain ⟨j, hjg, rfl, rfl, hj0, hwr⟩ := hrel
      have hw3 := hwr.symm
      clear hwr
      subst hw3
      have hj11 : j ≤ 11 := found_end HYR.out.1 (by omega) hj0
      have hck := HCM.out j (by omega)
      obtain ⟨hck1, hck2⟩ := hck
      have hn := HLE.out j
      have c7 := fun W : World => HD.out.2.2 ((j : Int) + 1) W (by omega) (by omega)
      have H7 : Hid _ := And.intro c7 trivial
      clear c7
      have hlen := len_in (l := L) (m := (j : Int) + 1) (by omega) (by omega)
      obtain ⟨hlen0, hlen1⟩ := hlen
      have HN : Hid _ := hn
      clear hn
      by_cases hlt : lenL L ((j : Int) + 1) ≤ r - F - cum L j
      · obtain ⟨g, rfl⟩ : ∃ g, gk = g + 1 := ⟨gk - 1, by omega⟩
        generalize lenL L ((j : Int) + 1) = Q at *
        generalize cum L j = C at *
        go_wp2_with (first | (go_at_call 137; refine Calls.mono (H7.out.1 _) ?_; rintro e w' ⟨rfl, rfl⟩))
        go_roundg g
        case measure => omega
        case rel => exact ⟨j + 1, by omega, by simp, by rw [HN.out]; congr 1; omega, by rw [HN.out]; omega, rfl⟩
      · obtain ⟨e1, e2, e3⟩ := found (n := n) (l := L) (r := r - F) (j := j) hj11 HFE.out hj0 (by omega)
        have HE : Hid _ := And.intro e1 (And.intro e2 e3)
        clear e1 e2 e3
        generalize lenL L ((j : Int) + 1) = Q at *
        generalize cum L j = C at *
        go_wp2_with (first | (go_at_call 137; refine Calls.mono (H7.out.1 _) ?_; rintro e w' ⟨rfl, rfl⟩))
        go_ret3
        exact ⟨by rw [HE.out.1, HE.out.2.1, HE.out.2.2]; rfl, HB.out.1⟩
  · clear hGF
    go_enter Tryz.func138, Tryz.ntmps138
    go_wp2_with (first | (go_at_call 134; refine Calls.mono HC.out.1 ?_; rintro e w' ⟨rfl, q1, rfl⟩; have hb := below_drewN (w := w) q1) | (go_at_call 172; with_reducible refine Calls.mono (HC.out.2.1 _) ?_; rintro e w1 ⟨rfl, hB1⟩; have hb := hb.trans (hB1.mono hb.size)) | (go_at_call 172; with_reducible refine Calls.mono (HD.out.1 _) ?_; rintro e w1 ⟨rfl, hB1⟩; have hb := hb.trans (hB1.mono hb.size)) | (go_at_call 135; with_reducible refine Calls.mono (HD.out.2.1 _) ?_; rintro e w3 ⟨rfl, hB3⟩; rw [← hB3] at hb; clear hB3))
    have HB : Hid _ := And.intro hb trivial
    clear hb
    go_loopg [0, 3] 12 (fun g v0 v3 wr => ∃ j : Nat, j + g = 12 ∧ v3 = .int .i64 ((j : Int) + 1) ∧ v0 = .int .i64 (r - F - cum L j) ∧ 0 ≤ r - F - cum L j ∧ wr = w3)
    case atStart => exact ⟨0, rfl, rfl, by simp [cum], by simp [cum]; omega, rfl⟩
    case round =>
      obtain ⟨j, hjg, rfl, rfl, hj0, hwr⟩ := hrel
      have hw3 := hwr.symm
      clear hwr
      subst hw3
      have hj11 : j ≤ 11 := found_end HYR.out.1 (by omega) hj0
      have hck := HCM.out j (by omega)
      obtain ⟨hck1, hck2⟩ := hck
      have hn := HLE.out j
      have c7 := fun W : World => HD.out.2.2 ((j : Int) + 1) W (by omega) (by omega)
      have H7 : Hid _ := And.intro c7 trivial
      clear c7
      have hlen := len_in (l := L) (m := (j : Int) + 1) (by omega) (by omega)
      obtain ⟨hlen0, hlen1⟩ := hlen
      have HN : Hid _ := hn
      clear hn
      by_cases hlt : lenL L ((j : Int) + 1) ≤ r - F - cum L j
      · obtain ⟨g, rfl⟩ : ∃ g, gk = g + 1 := ⟨gk - 1, by omega⟩
        generalize lenL L ((j : Int) + 1) = Q at *
        generalize cum L j = C at *
        go_wp2_with (first | (go_at_call 137; refine Calls.mono (H7.out.1 _) ?_; rintro e w' ⟨rfl, rfl⟩))
        go_roundg g
        case measure => omega
        case rel => exact ⟨j + 1, by omega, by simp, by rw [HN.out]; congr 1; omega, by rw [HN.out]; omega, rfl⟩
      · obtain ⟨e1, e2, e3⟩ := found (n := n) (l := L) (r := r - F) (j := j) hj11 HFE.out hj0 (by omega)
        have HE : Hid _ := And.intro e1 (And.intro e2 e3)
        clear e1 e2 e3
        generalize lenL L ((j : Int) + 1) = Q at *
        generalize cum L j = C at *
        go_wp2_with (first | (go_at_call 137; refine Calls.mono (H7.out.1 _) ?_; rintro e w' ⟨rfl, rfl⟩))
        go_ret3
        exact ⟨by rw [HE.out.1, HE.out.2.1, HE.out.2.2]; rfl, HB.out.1⟩
end Go.Proofs.YtgaegajcejpmdaaGreatDoor.Dt
namespace Go.Proofs.YtgaegajcejpmdaaGreatDoor.Dt
set_option linter.unusedVariables false

theorem days_norm (y m d : Int) : daysS (bkY (lnY y + (m - 1) / 12)) ((m - 1) % 12 + 1) d = daysS y m d := by
  unfold daysS
  rw [ln_bk, show ((m - 1) % 12 + 1 - 1) / 12 = 0 by omega, show ((m - 1) % 12 + 1 - 1) % 12 = (m - 1) % 12 by omega, Int.add_zero]
theorem civ_days {l o d : Int} (h0 : 1 ≤ o) (h1 : o ≤ 12) (d0 : 1 ≤ d) (d1 : d ≤ lenL l o) : civL (daysS (bkY l) o d) = l ∧ ((civM (daysS (bkY l) o d) : Nat) : Int) = o ∧ civD (daysS (bkY l) o d) = d := by
  obtain ⟨m, rfl⟩ : ∃ m : Nat, o = m := ⟨o.toNat, by omega⟩
  have h := days_is (y := bkY l) (m := m) (d := d) (by omega) (by omega) d0 (by rw [ln_bk]; exact d1)
  rw [ln_bk] at h
  obtain ⟨a, b, c⟩ := civ_of h
  exact ⟨a, by rw [b], c⟩
theorem add_form {a : Mo} {p : Sp} {k : Int} (d0 : 1 ≤ addC a p) (hk : addT a p / 86400 = 0) : addM a p = ⟨a.k, bkY (addL a p), addO a p, addC a p, addT a p, (a.n + p.n) % 1000000000, a.hz, a.z⟩ := by
  have hO : 1 ≤ addO a p ∧ addO a p ≤ 12 := by unfold addO; omega
  have hC : addC a p ≤ lenL (addL a p) (addO a p) := by unfold addC; split <;> omega
  have hN : addN a p = daysS (bkY (addL a p)) (addO a p) (addC a p) := by unfold addN; omega
  obtain ⟨e1, e2, e3⟩ := civ_days hO.1 hO.2 d0 hC
  unfold addM
  rw [hN, e1, e2, e3, show addT a p % 86400 = addT a p by omega]
/-- A moment's day stands in its month, its second in its day. -/
structure MoOk (a : Mo) : Prop where
  y : a.y ≠ 0
  m0 : 1 ≤ a.m
  m1 : a.m ≤ 12
  d0 : 1 ≤ a.d
  d1 : a.d ≤ lenL (lnY a.y) a.m
  s0 : 0 ≤ a.s
  s1 : a.s < 86400
  n0 : 0 ≤ a.n
  n1 : a.n < 1000000000
theorem MoOk.add (a : Mo) (p : Sp) : MoOk (addM a p) := by
  have h := civ_is (addN a p)
  have := h.m0
  have := h.m1
  unfold addM
  exact ⟨bk_ne _, by simp only []; omega, by simp only []; omega, h.d0, by simp only []; rw [ln_bk]; exact h.d1, by simp only []; omega, by simp only []; omega, by simp only []; omega, by simp only []; omega⟩
/-- Seconds and days are one row. -/
theorem add_days {a : Mo} (h : MoOk a) (k : Int) : (addM a ⟨0, 86400 * k, 0⟩).s = a.s ∧ (addM a ⟨0, 86400 * k, 0⟩).n = a.n ∧ daysS (addM a ⟨0, 86400 * k, 0⟩).y (addM a ⟨0, 86400 * k, 0⟩).m (addM a ⟨0, 86400 * k, 0⟩).d = daysS a.y a.m a.d + k := by
  obtain ⟨h1, h2, h3, h4⟩ := add_same (s := 86400 * k) (n := 0) h.y h.m0 h.m1 h.d1
  have hT : addT a ⟨0, 86400 * k, 0⟩ = a.s + 86400 * k := by
    have := h.n0
    have := h.n1
    unfold addT
    simp only []
    omega
  have := h.s0
  have := h.s1
  have := h.n0
  have := h.n1
  refine ⟨?_, ?_, ?_⟩
  · simp only [addM]; rw [hT]; omega
  · simp only [addM]; omega
  · simp only [addM]; rw [days_civ]; unfold addN; rw [h4, h2, h3, hT]; omega
/-- What stands on the same day at the same second is the same. -/
theorem mo_ext {a b : Mo} (ha : MoOk a) (hb : MoOk b) (hk : a.k = b.k) (hd : daysS a.y a.m a.d = daysS b.y b.m b.d) (hs : a.s = b.s) (hn : a.n = b.n) (hz : a.hz = b.hz) (hz' : a.z = b.z) : a = b := by
  have x := civ_days (l := lnY a.y) ha.m0 ha.m1 ha.d0 ha.d1
  have y := civ_days (l := lnY b.y) hb.m0 hb.m1 hb.d0 hb.d1
  rw [bk_ln ha.y] at x
  rw [bk_ln hb.y] at y
  rw [hd] at x
  have ey : a.y = b.y := by
    have := x.1.symm.trans y.1
    rw [← bk_ln ha.y, this, bk_ln hb.y]
  have em := x.2.1.symm.trans y.2.1
  have ed := x.2.2.symm.trans y.2.2
  cases a
  cases b
  simp_all
theorem add_back {a : Mo} (h : MoOk a) (k : Int) : addM (addM a ⟨0, 86400 * k, 0⟩) ⟨0, -(86400 * k), 0⟩ = a := by
  obtain ⟨p1, p2, p3⟩ := add_days h k
  have q := add_days (MoOk.add a ⟨0, 86400 * k, 0⟩) (-k)
  rw [show 86400 * -k = -(86400 * k) by omega] at q
  obtain ⟨q1, q2, q3⟩ := q
  exact mo_ext (MoOk.add _ _) h rfl (by rw [q3, p3]; omega) (by rw [q1, p1]) (by rw [q2, p2]) rfl rfl
/-- Months go by the calendar. -/
theorem add_months {a : Mo} (h : MoOk a) (h28 : a.d ≤ 28) (o : Int) : addM a ⟨o, 0, 0⟩ = ⟨a.k, bkY (lnY a.y + (a.m - 1 + o) / 12), (a.m - 1 + o) % 12 + 1, a.d, a.s, a.n, a.hz, a.z⟩ := by
  have hT : addT a ⟨o, 0, 0⟩ = a.s := by
    have := h.n0
    have := h.n1
    unfold addT
    simp only []
    omega
  have hC : addC a ⟨o, 0, 0⟩ = a.d := by
    have := (len_in (l := addL a ⟨o, 0, 0⟩) (m := addO a ⟨o, 0, 0⟩) (by unfold addO; omega) (by unfold addO; omega)).1
    unfold addC
    rw [if_neg (by omega)]
  have := h.s0
  have := h.s1
  have := h.n0
  have := h.n1
  rw [add_form (k := 0) (by rw [hC]; exact h.d0) (by rw [hT]; omega), hC, hT]
  unfold addL addO
  simp only []
  rw [show (a.n + 0) % 1000000000 = a.n by omega]
theorem days_months {a : Mo} (h : MoOk a) (h28 : a.d ≤ 28) (o : Int) : daysS (addM a ⟨o, 0, 0⟩).y (addM a ⟨o, 0, 0⟩).m (addM a ⟨o, 0, 0⟩).d = daysS a.y (a.m + o) a.d := by
  rw [add_months h h28]
  simp only []
  rw [← days_norm a.y (a.m + o) a.d, show a.m + o - 1 = a.m - 1 + o by omega]
theorem months_back {a : Mo} (h : MoOk a) (h28 : a.d ≤ 28) (o : Int) : addM (addM a ⟨o, 0, 0⟩) ⟨-o, 0, 0⟩ = a := by
  have e := add_months h h28 o
  have hc := MoOk.add a ⟨o, 0, 0⟩
  have d28 : (addM a ⟨o, 0, 0⟩).d ≤ 28 := by rw [e]; exact h28
  rw [add_months hc d28, e]
  simp only []
  rw [ln_bk]
  have := h.m0
  have := h.m1
  rw [show lnY a.y + (a.m - 1 + o) / 12 + ((a.m - 1 + o) % 12 + 1 - 1 + -o) / 12 = lnY a.y by omega, show ((a.m - 1 + o) % 12 + 1 - 1 + -o) % 12 + 1 = a.m by omega, bk_ln h.y]
theorem cmp_eq {a b : Mo} (hk : a.k = b.k) (hz : a.hz = b.hz) : cmpM a b = ordS (linS a a.z) a.n (linS b b.z) b.n := by
  unfold cmpM
  rw [if_neg (by simpa using hk), if_pos hz]
theorem cmp_mix {a b : Mo} (hk : a.k = b.k) (ha : a.hz = true) (hb : b.hz = false) : cmpM a b = mixS a b := by
  unfold cmpM
  rw [if_neg (by simpa using hk), if_neg (by rw [ha, hb]; simp), if_pos ha]
/-- A moment put to another zone is the same. -/
theorem zone_same {a : Mo} (h : MoOk a) (hn : a.n = 0) (hz : a.hz = true) (h0 : a.z = 0) (z : Int) : cmpM a { addM a ⟨0, 60 * z, 0⟩ with z := z } = 0 := by
  obtain ⟨h1, h2, h3, h4⟩ := add_same (s := 60 * z) (n := 0) h.y h.m0 h.m1 h.d1
  have e := lin_add a ⟨0, 60 * z, 0⟩ z
  rw [h4, h2, h3] at e
  have hT : addT a ⟨0, 60 * z, 0⟩ = a.s + 60 * z := by unfold addT; simp only []; omega
  have e' : linS { addM a ⟨0, 60 * z, 0⟩ with z := z } z = linS a a.z := by
    have : linS { addM a ⟨0, 60 * z, 0⟩ with z := z } z = linS (addM a ⟨0, 60 * z, 0⟩) z := rfl
    rw [this, e, hT, h0]
    unfold linS
    omega
  refine Eq.trans (cmp_eq ?_ ?_) ?_
  · rfl
  · rfl
  show ordS (linS a a.z) a.n (linS { addM a ⟨0, 60 * z, 0⟩ with z := z } z) ((a.n + 0) % 1000000000) = 0
  rw [e', hn]
  exact ord_refl _ _
theorem zone_none {a : Mo} (h : MoOk a) (hn : a.n = 0) (hz : a.hz = true) (h0 : a.z = 0) (z : Int) (z0 : -840 ≤ z) (z1 : z ≤ 840) : cmpM a { addM a ⟨0, 60 * z, 0⟩ with hz := false, z := 0 } = 2 := by
  obtain ⟨h1, h2, h3, h4⟩ := add_same (s := 60 * z) (n := 0) h.y h.m0 h.m1 h.d1
  have e := lin_add a ⟨0, 60 * z, 0⟩
  rw [h4, h2, h3] at e
  have hT : addT a ⟨0, 60 * z, 0⟩ = a.s + 60 * z := by unfold addT; simp only []; omega
  have e' : ∀ u, linS { addM a ⟨0, 60 * z, 0⟩ with hz := false, z := 0 } u = linS a a.z + 60 * z - 60 * u := by
    intro u
    have : linS { addM a ⟨0, 60 * z, 0⟩ with hz := false, z := 0 } u = linS (addM a ⟨0, 60 * z, 0⟩) u := rfl
    rw [this, e, hT, h0]
    unfold linS
    omega
  refine Eq.trans (cmp_mix ?_ hz ?_) ?_
  · rfl
  · rfl
  have en : ({ addM a ⟨0, 60 * z, 0⟩ with hz := false, z := 0 } : Mo).n = 0 := by
    show (a.n + 0) % 1000000000 = 0
    omega
  unfold mixS
  rw [e', e', en, hn]
  generalize linS a a.z = L
  rw [if_neg]
  rintro ⟨c1, c2⟩
  have a1 : ordS L 0 (L + 60 * z - 60 * 840) 0 = 0 ∨ ordS L 0 (L + 60 * z - 60 * 840) 0 = 1 := by
    unfold ordS
    rw [if_neg (by omega)]
    split <;> simp
  have a2 : ordS L 0 (L + 60 * z - 60 * -840) 0 = 0 ∨ ordS L 0 (L + 60 * z - 60 * -840) 0 = -1 := by
    unfold ordS
    split
    · simp
    · rw [if_pos (by omega)]; simp
  omega
theorem later_less {a : Mo} (h : MoOk a) (hn : a.n = 0) : cmpM a (addM a ⟨0, 0, 1⟩) = -1 := by
  obtain ⟨h1, h2, h3, h4⟩ := add_same (s := 0) (n := 1) h.y h.m0 h.m1 h.d1
  have e := lin_add a ⟨0, 0, 1⟩ a.z
  rw [h4, h2, h3] at e
  have hT : addT a ⟨0, 0, 1⟩ = a.s := by unfold addT; simp only []; omega
  have e' : linS (addM a ⟨0, 0, 1⟩) a.z = linS a a.z := by rw [e, hT]; rfl
  refine Eq.trans (cmp_eq ?_ ?_) ?_
  · rfl
  · rfl
  show ordS (linS a a.z) a.n (linS (addM a ⟨0, 0, 1⟩) a.z) ((a.n + 1) % 1000000000) = -1
  rw [e', hn]
  unfold ordS
  rw [if_pos (by omega)]
end Go.Proofs.YtgaegajcejpmdaaGreatDoor.Dt
