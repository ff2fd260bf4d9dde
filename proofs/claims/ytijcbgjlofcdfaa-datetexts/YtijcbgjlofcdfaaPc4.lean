/- The program's dayAt. -/
import Derived.Test.YtijcbgjlofcdfaaPc3
namespace Go.Proofs.Ytijcbgjlofcdfaa
open Go.RowKit
set_option linter.unusedVariables false

theorem guess {r : Int} (h0 : 0 ≤ r) (h1 : r < 146097) : ahd (2000 + r / 366) - ahd 2000 ≤ r ∧ r < ahd (2000 + (r / 366 + 2)) - ahd 2000 := by
  unfold ahd; omega
theorem guess_top {k : Int} (h : 400 ≤ k) : 146097 ≤ ahd (2000 + k) - ahd 2000 := by unfold ahd; omega
/-- The day of a number, as it is found. -/
theorem found {n l r : Int} {j : Nat} (hj : j ≤ 11) (hn : ahd l - ahd 2000 + r = n) (h0 : 0 ≤ r - cum l j) (h1 : r - cum l j < lenL l ((j : Int) + 1)) : civL n = l ∧ ((civM n : Nat) : Int) = (j : Int) + 1 ∧ civD n = r - cum l j + 1 := by
  have : IsDay n l (j + 1) (r - cum l j + 1) := ⟨by omega, by omega, by omega, by
    rw [show (((j + 1 : Nat) : Nat) : Int) = (j : Int) + 1 by omega]; omega, by
    simp only [dayN, Nat.add_sub_cancel]; omega⟩
  obtain ⟨a, b, c⟩ := civ_of this
  exact ⟨a, by rw [b]; omega, c⟩
/-- The months' loop, its end. -/
theorem found_end {l r : Int} (h : r < yrL l) {j : Nat} (hj : j ≤ 12) (h0 : 0 ≤ r - cum l j) : j ≤ 11 := by
  by_cases c : j = 12
  · subst c; rw [cum_twelve] at h0; omega
  · omega
set_option maxHeartbeats 800000 in
theorem dayAt_p (n : Int) (w : World) (h0 : -1000000000000000 < n) (h1 : n < 1000000000000000) : Calls Try.prog 49 #[.int .i64 n] w fun e w' => e = .returned (.tuple #[.int .i64 (bkY (civL n)), .int .i64 (civM n : Nat), .int .i64 (civD n)]) ∧ Below w.heap.size w w' := by
  have c1 := carry_p n 146097 w (by omega) (by omega) (by omega) (by omega)
  have hr := emod_in n (show (0 : Int) < 146097 by omega)
  have hq : -10000000000 < n / 146097 ∧ n / 146097 < 10000000000 := by omega
  have hnr : n = 146097 * (n / 146097) + n % 146097 := by have := Int.emod_add_mul_ediv n 146097; omega
  generalize hR : n % 146097 = r at *
  generalize hQ : n / 146097 = q at *
  clear hR hQ
  obtain ⟨hr0, hr1⟩ := hr
  obtain ⟨hq0, hq1⟩ := hq
  have hg := guess hr0 hr1
  have hkb : 0 ≤ r / 366 ∧ r / 366 ≤ 399 := by omega
  have c2 := fun W : World => from_p (r / 366 + 1) W (by omega) (by omega)
  have c3 := fun W : World => from_p (r / 366) W (by omega) (by omega)
  have hk1 : r / 366 + 1 ≤ 400 := by omega
  have hmid := guess_top (k := r / 366 + 1)
  have hKb := ahd_in' (l := 2000 + r / 366) (by omega) (by omega)
  have hKb1 := ahd_in' (l := 2000 + (r / 366 + 1)) (by omega) (by omega)
  have hb : ahd 2000 = 730485 := by decide
  generalize hk : r / 366 = k at *
  have HK : Hid _ := hk
  clear hk
  have hcy : ∀ j : Int, ahd (2000 + 400 * q + j) = ahd (2000 + j) + 146097 * q := fun j => by
    rw [show 2000 + 400 * q + j = 2000 + j + 400 * q by omega, ahd_cycle]
  have fin : ∀ (K : Int) (W : World), 0 ≤ K → K ≤ 399 → ahd (2000 + K) - ahd 2000 ≤ r → r < ahd (2000 + (K + 1)) - ahd 2000 →
      ahd (2000 + 400 * q + K) - ahd 2000 + (r - (ahd (2000 + K) - ahd 2000)) = n ∧ 0 ≤ r - (ahd (2000 + K) - ahd 2000) ∧ r - (ahd (2000 + K) - ahd 2000) < yrL (2000 + 400 * q + K) := by
    intro K W k0 k1 a b
    have e1 := hcy K
    have e2 := hcy (K + 1)
    have e3 := ahd_succ (2000 + 400 * q + K)
    rw [show 2000 + 400 * q + K + 1 = 2000 + 400 * q + (K + 1) by omega] at e3
    omega
  have HF : Hid _ := And.intro fin trivial
  have HC : Hid _ := And.intro c1 (And.intro c2 c3)
  clear c1 c2 c3 fin hcy
  have key : ∃ K : Int, 0 ≤ K ∧ K ≤ 399 ∧ ahd (2000 + K) - ahd 2000 ≤ r ∧ r < ahd (2000 + (K + 1)) - ahd 2000 ∧ ((ahd (2000 + (k + 1)) - ahd 2000 ≤ r ∧ K = k + 1) ∨ (¬ ahd (2000 + (k + 1)) - ahd 2000 ≤ r ∧ K = k)) := by
    by_cases hup : ahd (2000 + (k + 1)) - ahd 2000 ≤ r
    · refine ⟨k + 1, by omega, ?_, hup, ?_, .inl ⟨hup, rfl⟩⟩
      · by_cases c : 400 ≤ k + 1
        · have := hmid c; omega
        · omega
      · rw [show k + 1 + 1 = k + 2 by omega]; omega
    · exact ⟨k, by omega, by omega, hg.1, by omega, .inr ⟨hup, rfl⟩⟩
  obtain ⟨K, K0, K1, K2, K3, hK⟩ := key
  obtain ⟨f1, f2, f3⟩ := HF.out.1 K w K0 K1 K2 K3
  have c5 := fun W : World => from_p K W (by omega) (by omega)
  have c6 := fun W : World => yearAt_p (2000 + 400 * q + K) W (by omega) (by omega)
  have hbk := bk_in' (l := 2000 + 400 * q + K) (by omega) (by omega)
  have c7 := fun (m : Int) (W : World) => fun (p : -1000000000000000 < m) (q' : m < 1000000000000000) => length_p (bkY (2000 + 400 * q + K)) m W hbk.1 hbk.2 p q'
  rw [ln_bk] at c7
  have HD : Hid _ := And.intro c5 (And.intro c6 c7)
  clear c5 c6 c7 HF hmid hnr
  have hFb := ahd_in' (l := 2000 + K) (by omega) (by omega)
  have HFE : Hid _ := f1
  clear f1
  generalize hL : 2000 + 400 * q + K = L at *
  have HL : Hid _ := hL
  clear hL
  generalize hF : ahd (2000 + K) - ahd 2000 = F at *
  have hFb1 : -10000000000000000 < F ∧ F < 10000000000000000 := by omega
  generalize hG : ahd (2000 + (k + 1)) - ahd 2000 = G at *
  have hGb1 : -10000000000000000 < G ∧ G < 10000000000000000 := by omega
  have hGF : K = k + 1 → G = F := by rintro rfl; rw [← hF, ← hG]
  clear hF hG hg hKb hKb1 hFb hb K2 K3
  obtain ⟨hFb0, hFb1⟩ := hFb1
  obtain ⟨hGb0, hGb1⟩ := hGb1
  obtain ⟨hk0, hk2⟩ := hkb
  have hdv : r / 366 = k := HK.out
  have hR2 : (r - F) = r - F := rfl
  have HCM : Hid (∀ j : Nat, j ≤ 12 → 0 ≤ cum L j ∧ cum L j ≤ 366) := (fun k hk => ⟨cum_nonneg _ _, cum_le _ hk⟩ : ∀ j : Nat, j ≤ 12 → 0 ≤ cum L j ∧ cum L j ≤ 366)
  have HLE : Hid (∀ j : Nat, cum L (j + 1) = cum L j + lenL L ((j : Int) + 1)) := (fun k => rfl : ∀ j : Nat, cum L (j + 1) = cum L j + lenL L ((j : Int) + 1))
  have HYR : Hid _ := And.intro f3 trivial
  clear f3 hR2
  have HL2 : 2000 + q * 400 + K = L := by have := HL.out; omega
  rcases hK with ⟨hup, rfl⟩ | ⟨hup, rfl⟩
  · obtain rfl := (hGF rfl).symm
    clear hGF
    go_enter Try.func49, Try.ntmps49
    go_wp2_with (first | (go_at_call 46; refine Calls.mono HC.out.1 ?_; rintro e w' ⟨rfl, q1, rfl⟩; have hb := below_drewN (w := w) q1) | (go_at_call 54; with_reducible refine Calls.mono (HC.out.2.1 _) ?_; rintro e w1 ⟨rfl, hB1⟩; have hb := hb.trans (hB1.mono hb.size)) | (go_at_call 54; with_reducible refine Calls.mono (HD.out.1 _) ?_; rintro e w1 ⟨rfl, hB1⟩; have hb := hb.trans (hB1.mono hb.size)) | (go_at_call 47; with_reducible refine Calls.mono (HD.out.2.1 _) ?_; rintro e w3 ⟨rfl, hB3⟩; rw [← hB3] at hb; clear hB3))
    have HB : Hid _ := And.intro hb trivial
    clear hb
    go_loopg [0, 3] 12 (fun g v0 v3 wr => ∃ j : Nat, j + g = 12 ∧ v3 = .int .i64 ((j : Int) + 1) ∧ v0 = .int .i64 (r - F - cum L j) ∧ 0 ≤ r - F - cum L j ∧ wr = w3)
    case atStart => exact ⟨0, rfl, rfl, by simp [cum], by simp [cum]; omega, rfl⟩
    case round =>
      obtain ⟨j, hjg, rfl, rfl, hj0, hwr⟩ := hrel
      have hw3 := hwr.symm
      clear hwr
      subst hw3
      have hj11 : j ≤ 11 := found_end HYR.out.1 (by omega) hj0
      have hck := HCM.out j (by omega)
      obtain ⟨hck1, hck2⟩ := hck
      have hn := HLE.out j
      have c7 := fun W : World => HD.out.2.2 ((j : Int) + 1) W (by omega) (by omega)
      have H7 : Hid _ := And.intro c7 trivial
      clear c7
      have hlen := len_in (l := L) (m := (j : Int) + 1) (by omega) (by omega)
      obtain ⟨hlen0, hlen1⟩ := hlen
      have HN : Hid _ := hn
      clear hn
      by_cases hlt : lenL L ((j : Int) + 1) ≤ r - F - cum L j
      · obtain ⟨g, rfl⟩ : ∃ g, gk = g + 1 := ⟨gk - 1, by omega⟩
        generalize lenL L ((j : Int) + 1) = Q at *
        generalize cum L j = C at *
        go_wp2_with (first | (go_at_call 24; refine Calls.mono (H7.out.1 _) ?_; rintro e w' ⟨rfl, rfl⟩))
        go_roundg g
        case measure => omega
        case rel => exact ⟨j + 1, by omega, by simp, by rw [HN.out]; congr 1; omega, by rw [HN.out]; omega, rfl⟩
      · obtain ⟨e1, e2, e3⟩ := found (n := n) (l := L) (r := r - F) (j := j) hj11 HFE.out hj0 (by omega)
        have HE : Hid _ := And.intro e1 (And.intro e2 e3)
        clear e1 e2 e3
        generalize lenL L ((j : Int) + 1) = Q at *
        generalize cum L j = C at *
        go_wp2_with (first | (go_at_call 24; refine Calls.mono (H7.out.1 _) ?_; rintro e w' ⟨rfl, rfl⟩))
        go_ret3
        exact ⟨by rw [HE.out.1, HE.out.2.1, HE.out.2.2]; rfl, HB.out.1⟩
  · clear hGF
    go_enter Try.func49, Try.ntmps49
    go_wp2_with (first | (go_at_call 46; refine Calls.mono HC.out.1 ?_; rintro e w' ⟨rfl, q1, rfl⟩; have hb := below_drewN (w := w) q1) | (go_at_call 54; with_reducible refine Calls.mono (HC.out.2.1 _) ?_; rintro e w1 ⟨rfl, hB1⟩; have hb := hb.trans (hB1.mono hb.size)) | (go_at_call 54; with_reducible refine Calls.mono (HD.out.1 _) ?_; rintro e w1 ⟨rfl, hB1⟩; have hb := hb.trans (hB1.mono hb.size)) | (go_at_call 47; with_reducible refine Calls.mono (HD.out.2.1 _) ?_; rintro e w3 ⟨rfl, hB3⟩; rw [← hB3] at hb; clear hB3))
    have HB : Hid _ := And.intro hb trivial
    clear hb
    go_loopg [0, 3] 12 (fun g v0 v3 wr => ∃ j : Nat, j + g = 12 ∧ v3 = .int .i64 ((j : Int) + 1) ∧ v0 = .int .i64 (r - F - cum L j) ∧ 0 ≤ r - F - cum L j ∧ wr = w3)
    case atStart => exact ⟨0, rfl, rfl, by simp [cum], by simp [cum]; omega, rfl⟩
    case round =>
      obtain ⟨j, hjg, rfl, rfl, hj0, hwr⟩ := hrel
      have hw3 := hwr.symm
      clear hwr
      subst hw3
      have hj11 : j ≤ 11 := found_end HYR.out.1 (by omega) hj0
      have hck := HCM.out j (by omega)
      obtain ⟨hck1, hck2⟩ := hck
      have hn := HLE.out j
      have c7 := fun W : World => HD.out.2.2 ((j : Int) + 1) W (by omega) (by omega)
      have H7 : Hid _ := And.intro c7 trivial
      clear c7
      have hlen := len_in (l := L) (m := (j : Int) + 1) (by omega) (by omega)
      obtain ⟨hlen0, hlen1⟩ := hlen
      have HN : Hid _ := hn
      clear hn
      by_cases hlt : lenL L ((j : Int) + 1) ≤ r - F - cum L j
      · obtain ⟨g, rfl⟩ : ∃ g, gk = g + 1 := ⟨gk - 1, by omega⟩
        generalize lenL L ((j : Int) + 1) = Q at *
        generalize cum L j = C at *
        go_wp2_with (first | (go_at_call 24; refine Calls.mono (H7.out.1 _) ?_; rintro e w' ⟨rfl, rfl⟩))
        go_roundg g
        case measure => omega
        case rel => exact ⟨j + 1, by omega, by simp, by rw [HN.out]; congr 1; omega, by rw [HN.out]; omega, rfl⟩
      · obtain ⟨e1, e2, e3⟩ := found (n := n) (l := L) (r := r - F) (j := j) hj11 HFE.out hj0 (by omega)
        have HE : Hid _ := And.intro e1 (And.intro e2 e3)
        clear e1 e2 e3
        generalize lenL L ((j : Int) + 1) = Q at *
        generalize cum L j = C at *
        go_wp2_with (first | (go_at_call 24; refine Calls.mono (H7.out.1 _) ?_; rintro e w' ⟨rfl, rfl⟩))
        go_ret3
        exact ⟨by rw [HE.out.1, HE.out.2.1, HE.out.2.2]; rfl, HB.out.1⟩
end Go.Proofs.Ytijcbgjlofcdfaa
