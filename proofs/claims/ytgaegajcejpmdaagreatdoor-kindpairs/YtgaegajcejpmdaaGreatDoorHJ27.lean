/- Joined: HDtPc1, HDtPc2, HDtPc3. -/
import Derived.Test.YtgaegajcejpmdaaGreatDoorHJ23
import Derived.Test.YtgaegajcejpmdaaGreatDoorHJ16
namespace Go.Proofs.YtgaegajcejpmdaaGreatDoor.Dt
open Go.RowKit
set_option linter.unusedVariables false

theorem tdiv_neg {a b : Int} (hb : 0 < b) (h : a.tmod b < 0) : a.tdiv b - 1 = a / b := by
  rw [Int.tmod_eq_emod] at h
  rw [Int.tdiv_eq_ediv]
  have := Int.emod_nonneg a (show b ≠ 0 by omega)
  split at h <;> rename_i c
  · omega
  · rw [if_neg c, Int.sign_eq_one_of_pos hb]; omega
theorem tdiv_pos {a b : Int} (hb : 0 < b) (h : ¬ a.tmod b < 0) : a.tdiv b = a / b := by
  rw [Int.tmod_eq_emod] at h
  rw [Int.tdiv_eq_ediv]
  have := Int.emod_lt_of_pos a hb
  split at h <;> rename_i c
  · rw [if_pos c]; omega
  · omega
theorem placeOf_p (y : Int) (w : World) (h0 : -1000000000000000 < y) (h1 : y < 1000000000000000) : Calls Tryz.prog 136 #[.int .i64 y] w fun e w' => e = .returned (.int .i64 (lnY y)) ∧ w' = w := by
  unfold lnY
  by_cases h : y < 0
  · rw [if_pos h]
    go_enter Tryz.func136, Tryz.ntmps136
    go_wp2_with fail
    go_ret
    exact ⟨rfl, rfl⟩
  · rw [if_neg h]
    go_enter Tryz.func136, Tryz.ntmps136
    go_wp2_with fail
    go_ret
    exact ⟨rfl, rfl⟩
theorem yearAt_p (y : Int) (w : World) (h0 : -1000000000000000 < y) (h1 : y < 1000000000000000) : Calls Tryz.prog 135 #[.int .i64 y] w fun e w' => e = .returned (.int .i64 (bkY y)) ∧ w' = w := by
  unfold bkY
  by_cases h : y ≤ 0
  · rw [if_pos h]
    go_enter Tryz.func135, Tryz.ntmps135
    go_wp2_with fail
    go_ret
    exact ⟨rfl, rfl⟩
  · rw [if_neg h]
    go_enter Tryz.func135, Tryz.ntmps135
    go_wp2_with fail
    go_ret
    exact ⟨rfl, rfl⟩
set_option maxHeartbeats 400000 in
theorem carry_p (n b : Int) (w : World) (h0 : -1000000000000000000 < n) (h1 : n < 1000000000000000000) (hb : 0 < b) (hb' : b < 1000000000000) : Calls Tryz.prog 134 #[.int .i64 n, .int .i64 b] w fun e w' => e = .returned (.tuple #[.int .i64 (n / b), .int .i64 (n % b)]) ∧ ∃ q, w' = w.drewN q := by
  have hne : ¬ b = 0 := by omega
  have hn1 : ¬ b = -1 := by omega
  have hdb : -1000000000000000000 ≤ n / b ∧ n / b ≤ 1000000000000000000 := by
    have h2 : n / b ≤ 1000000000000000000 := by
      by_cases c : 0 ≤ n
      · have := Int.ediv_le_self b c; omega
      · have := Int.ediv_neg_of_neg_of_pos (show n < 0 by omega) hb; omega
    have h3 : -1000000000000000000 ≤ n / b := by
      have : -1000000000000000000 * b ≤ n := by
        have : 1 * 1000000000000000000 ≤ b * 1000000000000000000 := Int.mul_le_mul_of_nonneg_right (by omega) (by omega)
        omega
      exact (Int.le_ediv_iff_mul_le hb).2 this
    exact ⟨h3, h2⟩
  have hm := emod_in n hb
  obtain ⟨hd0, hd1⟩ := hdb
  obtain ⟨hm0, hm1⟩ := hm
  by_cases h : n.tmod b < 0
  · have e1 := tmod_neg hb h
    have e2 := tdiv_neg hb h
    rw [← e1] at hm0 hm1 ⊢
    rw [← e2] at hd0 hd1 ⊢
    clear e1 e2
    generalize hr : n.tmod b = r at *
    generalize hs : n.tdiv b = s at *
    go_enter Tryz.func134, Tryz.ntmps134
    go_wp2_with fail
    go_quiet (fail)
    go_wp2_with fail
    go_ret2
    exact ⟨rfl, _, rfl⟩
  · have e1 := tmod_pos hb h
    have e2 := tdiv_pos hb h
    rw [← e1] at hm0 hm1 ⊢
    rw [← e2] at hd0 hd1 ⊢
    clear e1 e2
    generalize hr : n.tmod b = r at *
    generalize hs : n.tdiv b = s at *
    go_enter Tryz.func134, Tryz.ntmps134
    go_wp2_with fail
    go_quiet (fail)
    go_wp2_with fail
    go_ret2
    exact ⟨rfl, _, rfl⟩
end Go.Proofs.YtgaegajcejpmdaaGreatDoor.Dt
namespace Go.Proofs.YtgaegajcejpmdaaGreatDoor.Dt
open Go.RowKit
set_option linter.unusedVariables false

theorem tm0 (n : Int) {b : Int} (hb : 0 < b) : n.tmod b = 0 ↔ n % b = 0 := by
  constructor
  · intro h; rw [← tmod_pos hb (by omega)]; exact h
  · intro h
    by_cases c : n.tmod b < 0
    · have := tmod_neg hb c; have := Int.emod_lt_of_pos n hb; have := Int.lt_tmod_of_pos n hb; omega
    · rw [tmod_pos hb c]; exact h
theorem ln_in' {y : Int} (h0 : -100000000000000 < y) (h1 : y < 100000000000000) : -1000000000000000 < lnY y ∧ lnY y < 1000000000000000 := by unfold lnY; split <;> omega
set_option maxHeartbeats 400000 in
theorem Leap_p (y : Int) (w : World) (h0 : -100000000000000 < y) (h1 : y < 100000000000000) : Calls Tryz.prog 171 #[.int .i64 y] w fun e w' => e = .returned (.bool (lpL (lnY y))) ∧ w' = w := by
  have m1 := placeOf_p y w (by omega) (by omega)
  have HM : Hid _ := And.intro m1 trivial
  clear m1
  have hl := ln_in' h0 h1
  obtain ⟨hl0, hl1⟩ := hl
  have HE : Hid (lpL (lnY y) = ((lnY y).tmod 4 == 0 && ((lnY y).tmod 100 != 0 || (lnY y).tmod 400 == 0))) := (by
    unfold lpL
    have a := tm0 (lnY y) (show (0 : Int) < 4 by omega)
    have b := tm0 (lnY y) (show (0 : Int) < 100 by omega)
    have c := tm0 (lnY y) (show (0 : Int) < 400 by omega)
    rw [Bool.eq_iff_iff]
    simp [a, b, c] : lpL (lnY y) = ((lnY y).tmod 4 == 0 && ((lnY y).tmod 100 != 0 || (lnY y).tmod 400 == 0)))
  generalize hL : lnY y = L at *
  clear hL
  generalize ha : L.tmod 4 = a at *
  generalize hb : L.tmod 100 = b at *
  generalize hc : L.tmod 400 = c at *
  by_cases ha0 : a = 0
  · by_cases hb0 : b = 0
    · by_cases hc0 : c = 0
      all_goals
        go_enter Tryz.func171, Tryz.ntmps171
        go_wp2_with (first | (go_at_call 136; refine Calls.mono HM.out.1 ?_; rintro e w' ⟨rfl, rfl⟩))
        go_ret
        refine ⟨?_, rfl⟩
        rw [HE.out]
        simp [ha0, hb0, hc0]
    · go_enter Tryz.func171, Tryz.ntmps171
      go_wp2_with (first | (go_at_call 136; refine Calls.mono HM.out.1 ?_; rintro e w' ⟨rfl, rfl⟩))
      go_ret
      refine ⟨?_, rfl⟩
      rw [HE.out]
      simp [ha0, hb0]
  · go_enter Tryz.func171, Tryz.ntmps171
    go_wp2_with (first | (go_at_call 136; refine Calls.mono HM.out.1 ?_; rintro e w' ⟨rfl, rfl⟩))
    go_ret
    refine ⟨?_, rfl⟩
    rw [HE.out]
    simp [ha0]
set_option maxHeartbeats 400000 in
theorem length_p (y m : Int) (w : World) (h0 : -100000000000000 < y) (h1 : y < 100000000000000) (hm : -1000000000000000 < m) (hm' : m < 1000000000000000) : Calls Tryz.prog 137 #[.int .i64 y, .int .i64 m] w fun e w' => e = .returned (.int .i64 (lenL (lnY y) m)) ∧ w' = w := by
  have m1 := Leap_p y w h0 h1
  have HM : Hid _ := And.intro m1 trivial
  clear m1
  by_cases c2 : m = 2
  · subst c2
    cases hl : lpL (lnY y)
    all_goals
      rw [hl] at HM
      go_enter Tryz.func137, Tryz.ntmps137
      go_wp2_with (first | (go_at_call 171; refine Calls.mono HM.out.1 ?_; rintro e w' ⟨rfl, rfl⟩))
      go_ret
      exact ⟨by unfold lenL; simp [hl], rfl⟩
  · have e1 : lenL (lnY y) m = if m = 4 ∨ m = 6 ∨ m = 9 ∨ m = 11 then 30 else if 1 ≤ m ∧ m ≤ 12 then 31 else 0 := by unfold lenL; rw [if_neg c2]
    rw [e1]
    clear e1 HM
    by_cases i : 1 ≤ m ∧ m ≤ 12
    · have : m = 1 ∨ m = 3 ∨ m = 4 ∨ m = 5 ∨ m = 6 ∨ m = 7 ∨ m = 8 ∨ m = 9 ∨ m = 10 ∨ m = 11 ∨ m = 12 := by omega
      rcases this with rfl | rfl | rfl | rfl | rfl | rfl | rfl | rfl | rfl | rfl | rfl
      all_goals
        go_enter Tryz.func137, Tryz.ntmps137
        go_wp2_with fail
        go_ret
        exact ⟨rfl, rfl⟩
    · rw [if_neg (by omega), if_neg i]
      have n1 : ¬ m = 1 := by omega
      have n3 : ¬ m = 3 := by omega
      have n4 : ¬ m = 4 := by omega
      have n5 : ¬ m = 5 := by omega
      have n6 : ¬ m = 6 := by omega
      have n7 : ¬ m = 7 := by omega
      have n8 : ¬ m = 8 := by omega
      have n9 : ¬ m = 9 := by omega
      have n10 : ¬ m = 10 := by omega
      have n11 : ¬ m = 11 := by omega
      have n12 : ¬ m = 12 := by omega
      clear i
      go_enter Tryz.func137, Tryz.ntmps137
      go_wp2_with fail
      go_ret
      exact ⟨rfl, rfl⟩
/-- How often a rule's leap years come in so many years. -/
theorem leap_c (y b : Int) (B : Nat) (w : World) (hc : w.cell? ⟨B, 0, none⟩ = some (.int .i64 y)) (h0 : -10000000000000 < y) (h1 : y < 10000000000000) (hb : 0 < b) (hb' : b < 1000000) : Calls Tryz.prog 202 #[.int .i64 b, .pointer (some ⟨B, 0, none⟩)] w fun e w' => e = .returned (.int .i64 ((y + b - 1) / b)) ∧ ∃ q, w' = w.drewN q := by
  have m1 := carry_p (y + b - 1) b w (by omega) (by omega) hb (by omega)
  have HM : Hid _ := And.intro m1 trivial
  clear m1
  go_enter Tryz.func202, Tryz.ntmps202
  go_wp2_with (first | (go_at_call 134; refine Calls.mono HM.out.1 ?_; rintro e w' ⟨rfl, q, rfl⟩))
  go_ret
  exact ⟨rfl, _, rfl⟩
/-- The days of so many years from 2000 on. -/
theorem ahd_from (k : Int) : ahd (2000 + k) - ahd 2000 = 365 * k + (k + 4 - 1) / 4 - (k + 100 - 1) / 100 + (k + 400 - 1) / 400 := by unfold ahd; omega
set_option maxHeartbeats 400000 in
theorem from_p (k : Int) (w : World) (h0 : -10000000000000 < k) (h1 : k < 10000000000000) : Calls Tryz.prog 172 #[.int .i64 k] w fun e w' => e = .returned (.int .i64 (ahd (2000 + k) - ahd 2000)) ∧ Below w.heap.size w w' := by
  rw [ahd_from]
  have hcell : ∀ n : Nat, ((w.alloc (.cells #[.int .i64 k] 3)).drewN n).cell? ⟨w.heap.size, 0, none⟩ = some (.int .i64 k) := fun n => by
    show (w.alloc (.cells #[.int .i64 k] 3)).cell? ⟨w.heap.size, 0, none⟩ = _
    simp only [World.cell?, nw_heap]
    rfl
  have m1 := fun n : Nat => leap_c k 4 w.heap.size _ (hcell n) h0 h1 (by omega) (by omega)
  have m2 := fun n : Nat => leap_c k 100 w.heap.size _ (hcell n) h0 h1 (by omega) (by omega)
  have m3 := fun n : Nat => leap_c k 400 w.heap.size _ (hcell n) h0 h1 (by omega) (by omega)
  clear hcell
  have HM : Hid _ := And.intro m1 (And.intro m2 m3)
  clear m1 m2 m3
  have b1 : -10000000000000 ≤ (k + 4 - 1) / 4 ∧ (k + 4 - 1) / 4 ≤ 10000000000000 := by omega
  have b2 : -10000000000000 ≤ (k + 100 - 1) / 100 ∧ (k + 100 - 1) / 100 ≤ 10000000000000 := by omega
  have b3 : -10000000000000 ≤ (k + 400 - 1) / 400 ∧ (k + 400 - 1) / 400 ≤ 10000000000000 := by omega
  generalize (k + 4 - 1) / 4 = a at *
  generalize (k + 100 - 1) / 100 = b at *
  generalize (k + 400 - 1) / 400 = c at *
  obtain ⟨b11, b12⟩ := b1
  obtain ⟨b21, b22⟩ := b2
  obtain ⟨b31, b32⟩ := b3
  go_enter Tryz.func172, Tryz.ntmps172
  go_wp2_with fail
  go_quiet ((go_at_call 202; first | with_reducible exact Calls.quiet_of (HM.out.1 _) | with_reducible exact Calls.quiet_of (HM.out.2.1 _) | with_reducible exact Calls.quiet_of (HM.out.2.2 _)))
  go_wp2_with fail
  go_ret
  exact ⟨rfl, bdrewN ((Below.refl _ _).alloc (Nat.le_refl _) _) _⟩
end Go.Proofs.YtgaegajcejpmdaaGreatDoor.Dt
namespace Go.Proofs.YtgaegajcejpmdaaGreatDoor.Dt
open Go.RowKit
set_option linter.unusedVariables false

theorem ahd_in' {l : Int} (h0 : -10000000000000 < l) (h1 : l < 10000000000000) : -4000000000000000 < ahd l ∧ ahd l < 4000000000000000 := by unfold ahd; omega
theorem bk_in' {l : Int} (h0 : -10000000000000 < l) (h1 : l < 10000000000000) : -100000000000000 < bkY l ∧ bkY l < 100000000000000 := by unfold bkY; split <;> omega
set_option maxHeartbeats 800000 in
theorem days_p (y m d : Int) (w : World) (h0 : -1000000000000 < y) (h1 : y < 1000000000000) (m0 : -1000000000000 < m) (m1 : m < 1000000000000) (d0 : -1000000000000000 < d) (d1 : d < 1000000000000000) : Calls Tryz.prog 139 #[.int .i64 y, .int .i64 m, .int .i64 d] w fun e w' => e = .returned (.int .i64 (daysS y m d)) ∧ Below w.heap.size w w' := by
  have hln : -1000000000001 < lnY y ∧ lnY y < 1000000000001 := by unfold lnY; split <;> omega
  have c1 := carry_p (m - 1) 12 w (by omega) (by omega) (by omega) (by omega)
  have hdv : -1000000000000 < (m - 1) / 12 ∧ (m - 1) / 12 < 1000000000000 := by omega
  have hmd := emod_in (m - 1) (show (0 : Int) < 12 by omega)
  obtain ⟨M, hM⟩ : ∃ M : Nat, (m - 1) % 12 = M := ⟨((m - 1) % 12).toNat, by omega⟩
  have hb : ahd 2000 = 730485 := by decide
  have hR : daysS y m d = ahd (lnY y + (m - 1) / 12) - 730485 + cum (lnY y + (m - 1) / 12) M + d - 1 := by
    unfold daysS dayN
    rw [hb, hM, Int.toNat_natCast, Nat.add_sub_cancel]
  rw [hM] at c1 hmd
  clear hM
  rw [hR]
  clear hR
  have c2 := fun W : World => placeOf_p y W (by omega) (by omega)
  generalize hL1 : lnY y = L1 at *
  generalize hL2 : (m - 1) / 12 = L2 at *
  have hL : -10000000000000 < L1 + L2 ∧ L1 + L2 < 10000000000000 := by omega
  have c4 := fun W : World => from_p (L1 + L2 - 2000) W (by omega) (by omega)
  have ha := ahd_in' hL.1 hL.2
  rw [show 2000 + (L1 + L2 - 2000) = L1 + L2 by omega, hb] at c4
  have c6 := fun W : World => yearAt_p (L1 + L2) W (by omega) (by omega)
  have hk := bk_in' hL.1 hL.2
  have c7 := fun (k : Int) (W : World) => fun (p : -1000000000000000 < k) (q : k < 1000000000000000) => length_p (bkY (L1 + L2)) k W hk.1 hk.2 p q
  rw [ln_bk] at c7
  have HC : Hid _ := And.intro c1 (And.intro c2 (And.intro c4 (And.intro c6 c7)))
  clear c1 c2 c4 c6 c7
  have HCM : Hid (∀ k : Nat, k ≤ 12 → 0 ≤ cum (L1 + L2) k ∧ cum (L1 + L2) k ≤ 366) := (fun k hk => ⟨cum_nonneg _ _, cum_le _ hk⟩ : ∀ k : Nat, k ≤ 12 → 0 ≤ cum (L1 + L2) k ∧ cum (L1 + L2) k ≤ 366)
  have HLE : Hid (∀ k : Nat, cum (L1 + L2) (k + 1) = cum (L1 + L2) k + lenL (L1 + L2) ((k : Int) + 1)) := (fun k => rfl : ∀ k : Nat, cum (L1 + L2) (k + 1) = cum (L1 + L2) k + lenL (L1 + L2) ((k : Int) + 1))
  clear hb hL1 hL2
  generalize bkY (L1 + L2) = B at *
  generalize hA : ahd (L1 + L2) = A at *
  obtain ⟨hln1, hln2⟩ := hln
  obtain ⟨hdv1, hdv2⟩ := hdv
  obtain ⟨hmd1, hmd2⟩ := hmd
  obtain ⟨hL3, hL4⟩ := hL
  obtain ⟨ha1, ha2⟩ := ha
  obtain ⟨hk1, hk2⟩ := hk
  clear hA
  go_enter Tryz.func139, Tryz.ntmps139
  go_wp2_with (first | (go_at_call 134; refine Calls.mono HC.out.1 ?_; rintro e w' ⟨rfl, q, rfl⟩) | (go_at_call 136; refine Calls.mono (HC.out.2.1 _) ?_; rintro e w' ⟨rfl, rfl⟩) | (go_at_call 172; refine Calls.mono (HC.out.2.2.1 _) ?_; rintro e w' ⟨rfl, hB⟩))
  have HB : Hid _ := And.intro (show Below w.heap.size w w' from (below_drewN q).trans hB) trivial
  clear hB
  go_loopg [9, 28] M (fun g v9 v28 wr => ∃ k : Nat, v28 = .int .i64 (k : Int) ∧ k + g = M ∧ wr = w' ∧ v9 = .int .i64 (A - 730485 + d - 1 + cum (L1 + L2) k))
  case atStart => exact ⟨0, rfl, by omega, rfl, by simp [cum]⟩
  case round =>
    obtain ⟨k, rfl, hkg, hwr, rfl⟩ := hrel
    have hw3 := hwr.symm
    clear hwr
    subst hw3
    have hck := HCM.out k (by omega)
    obtain ⟨hck1, hck2⟩ := hck
    by_cases hlt : (k : Int) < (M : Int)
    · obtain ⟨g, rfl⟩ : ∃ g, gk = g + 1 := ⟨gk - 1, by omega⟩
      have hn := HLE.out k
      have hcn := HCM.out (k + 1) (by omega)
      have c7 := fun W : World => HC.out.2.2.2.2 ((k : Int) + 1) W (by omega) (by omega)
      have H7 : Hid _ := And.intro c7 trivial
      clear c7
      rw [hn] at hcn
      obtain ⟨hcn1, hcn2⟩ := hcn
      have HN : Hid _ := hn
      clear hn
      generalize lenL (L1 + L2) ((k : Int) + 1) = Q at *
      generalize cum (L1 + L2) k = C at *
      go_wp2_with (first | (go_at_call 135; refine Calls.mono (HC.out.2.2.2.1 _) ?_; rintro e w' ⟨rfl, rfl⟩) | (go_at_call 137; refine Calls.mono (H7.out.1 _) ?_; rintro e w' ⟨rfl, rfl⟩))
      go_roundg g
      case measure => omega
      case rel => exact ⟨k + 1, by simp, by omega, rfl, by rw [HN.out, Int.add_assoc]⟩
    · have hkM : k = M := by omega
      subst hkM
      go_wp2_with fail
      go_ret
      exact ⟨ret_int (by omega), HB.out.1⟩
end Go.Proofs.YtgaegajcejpmdaaGreatDoor.Dt
