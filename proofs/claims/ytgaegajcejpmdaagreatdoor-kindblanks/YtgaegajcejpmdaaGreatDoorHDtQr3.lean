/- The second telling: Add. -/
import Derived.Test.YtgaegajcejpmdaaGreatDoorHJ37
namespace Go.Proofs.YtgaegajcejpmdaaGreatDoor.Dt
open Go.RowKit
set_option linter.unusedVariables false

set_option maxHeartbeats 2000000 in
theorem add_r (a : Mo) (p : Sp) (w : World) (ha : MoB a) (hp : SpB p) : Calls Tryz.prog 93 #[moV a, spV p] w fun e w' => e = .returned (moV (addM a p)) ∧ Below w.heap.size w w' := by
  obtain ⟨k, y, m, d, s, n, hz, z⟩ := a
  obtain ⟨o, ps, pn⟩ := p
  obtain ⟨y0, y1, m0, m1, d0, d1, s0, s1, n0, n1⟩ := ha
  obtain ⟨o0, o1, ps0, ps1, pn0, pn1⟩ := hp
  dsimp only at *
  have c1 := fun W : World => div_r (m - 1 + o) 12 W (by omega) (by omega) (by omega) (by omega)
  have c1m := fun W : World => mod_r (m - 1 + o) 12 W (by omega) (by omega) (by omega) (by omega)
  have c2 := fun W : World => line_r y W (by omega) (by omega)
  have hln : -10000000001 < lnY y ∧ lnY y < 10000000001 := by unfold lnY; split <;> omega
  have c3 := fun W : World => back_r (lnY y + (m - 1 + o) / 12) W (by omega) (by omega)
  have hbk0 : -1000000000000 < bkY (lnY y + (m - 1 + o) / 12) ∧ bkY (lnY y + (m - 1 + o) / 12) < 1000000000000 := by unfold bkY; split <;> omega
  have c4 := fun W : World => length_r (bkY (lnY y + (m - 1 + o) / 12)) ((m - 1 + o) % 12 + 1) W (by omega) (by omega) (by omega) (by omega)
  rw [ln_bk] at c4
  have hlen := len_in (l := lnY y + (m - 1 + o) / 12) (m := (m - 1 + o) % 12 + 1) (by omega) (by omega)
  have b1 : -100000000000 < (m - 1 + o) / 12 ∧ (m - 1 + o) / 12 < 100000000000 := by omega
  have b2 := emod_in (m - 1 + o) (show (0 : Int) < 12 by omega)
  have c5 := fun W : World => div_r (n + pn) 1000000000 W (by omega) (by omega) (by omega) (by omega)
  have c5m := fun W : World => mod_r (n + pn) 1000000000 W (by omega) (by omega) (by omega) (by omega)
  have b3 : -100000000 < (n + pn) / 1000000000 ∧ (n + pn) / 1000000000 < 100000000 := by omega
  have b4 := emod_in (n + pn) (show (0 : Int) < 1000000000 by omega)
  have c6 := fun W : World => div_r (s + ps + (n + pn) / 1000000000) 86400 W (by omega) (by omega) (by omega) (by omega)
  have c6m := fun W : World => mod_r (s + ps + (n + pn) / 1000000000) 86400 W (by omega) (by omega) (by omega) (by omega)
  have b5 : -1000000000000 < (s + ps + (n + pn) / 1000000000) / 86400 ∧ (s + ps + (n + pn) / 1000000000) / 86400 < 1000000000000 := by omega
  have b6 := emod_in (s + ps + (n + pn) / 1000000000) (show (0 : Int) < 86400 by omega)
  have hE : addM ⟨k, y, m, d, s, n, hz, z⟩ ⟨o, ps, pn⟩ =
      ⟨k, bkY (civL (daysS (bkY (lnY y + (m - 1 + o) / 12)) ((m - 1 + o) % 12 + 1) (if lenL (lnY y + (m - 1 + o) / 12) ((m - 1 + o) % 12 + 1) < d then lenL (lnY y + (m - 1 + o) / 12) ((m - 1 + o) % 12 + 1) else d) + (s + ps + (n + pn) / 1000000000) / 86400)),
        (civM (daysS (bkY (lnY y + (m - 1 + o) / 12)) ((m - 1 + o) % 12 + 1) (if lenL (lnY y + (m - 1 + o) / 12) ((m - 1 + o) % 12 + 1) < d then lenL (lnY y + (m - 1 + o) / 12) ((m - 1 + o) % 12 + 1) else d) + (s + ps + (n + pn) / 1000000000) / 86400) : Nat),
        civD (daysS (bkY (lnY y + (m - 1 + o) / 12)) ((m - 1 + o) % 12 + 1) (if lenL (lnY y + (m - 1 + o) / 12) ((m - 1 + o) % 12 + 1) < d then lenL (lnY y + (m - 1 + o) / 12) ((m - 1 + o) % 12 + 1) else d) + (s + ps + (n + pn) / 1000000000) / 86400),
        (s + ps + (n + pn) / 1000000000) % 86400, (n + pn) % 1000000000, hz, z⟩ := rfl
  rw [hE]
  clear hE
  have hdb : ∀ l : Int, -100000000000000 < l → l < 100000000000000 → ∀ (j : Nat) (D : Int), j ≤ 12 → -10000000000 ≤ D → D ≤ 10000000000 → -99999999999999999 < dayN l j D ∧ dayN l j D < 99999999999999999 := by
    intro l l0 l1 j D hj D0 D1
    unfold dayN
    have := cum_nonneg l (j - 1)
    have := cum_le l (show j - 1 ≤ 12 by omega)
    unfold ahd
    omega
  clear hdb
  generalize hO : (m - 1 + o) % 12 = O at *
  generalize hV : (m - 1 + o) / 12 = V at *
  generalize hLy : lnY y = Ly at *
  generalize hNR : (n + pn) % 1000000000 = NR at *
  generalize hNV : (n + pn) / 1000000000 = NV at *
  generalize hSR : (s + ps + NV) % 86400 = SR at *
  generalize hSV : (s + ps + NV) / 86400 = SV at *
  have hY : lnY (bkY (Ly + V)) = Ly + V := ln_bk _
  generalize lenL (Ly + V) (O + 1) = LEN at *
  obtain ⟨hlen0, hlen1⟩ := hlen
  generalize hYY : bkY (Ly + V) = Y at *
  have hC : -10000000000 < (if LEN < d then LEN else d) ∧ (if LEN < d then LEN else d) < 10000000000 := by split <;> omega
  have hdays : -500000000000000 < daysS Y (O + 1) (if LEN < d then LEN else d) ∧ daysS Y (O + 1) (if LEN < d then LEN else d) < 500000000000000 := by
    unfold daysS dayN
    rw [hY]
    have h1 : (O + 1 - 1) / 12 = 0 := by omega
    rw [h1, Int.add_zero, Nat.add_sub_cancel]
    have := cum_nonneg (Ly + V) ((O + 1 - 1) % 12).toNat
    have := cum_le (Ly + V) (show ((O + 1 - 1) % 12).toNat ≤ 12 by omega)
    have ha : -200000000000000 < ahd (Ly + V) ∧ ahd (Ly + V) < 200000000000000 := by unfold ahd; omega
    have hb : ahd 2000 = 730485 := by decide
    omega
  have c7 := fun W : World => days_r Y (O + 1) (if LEN < d then LEN else d) W hbk0.1 hbk0.2 (by omega) (by omega) (by omega) (by omega)
  generalize hCC : (if LEN < d then LEN else d) = C at *
  have c8 := fun W : World => put_r ⟨k, Y, O + 1, C, SR, NR, hz, z⟩ (daysS Y (O + 1) C + SV) W (by omega) (by omega)
  have HC : Hid _ := And.intro c1 (And.intro c1m (And.intro c2 (And.intro c3 (And.intro c4 (And.intro c5 (And.intro c5m (And.intro c6 (And.intro c6m (And.intro c7 (c8))))))))))
  clear c1 c1m c2 c3 c4 c5 c5m c6 c6m c7 c8
  generalize daysS Y (O + 1) C = DD at *
  obtain ⟨RR, hRR⟩ : ∃ RR : Mo, RR = ⟨k, bkY (civL (DD + SV)), (civM (DD + SV) : Nat), civD (DD + SV), SR, NR, hz, z⟩ := ⟨_, rfl⟩
  have HRR : Hid _ := hRR
  rw [← hRR] at HC ⊢
  clear hRR
  obtain ⟨b11, b12⟩ := b1
  obtain ⟨b21, b22⟩ := b2
  obtain ⟨b31, b32⟩ := b3
  obtain ⟨b41, b42⟩ := b4
  obtain ⟨b51, b52⟩ := b5
  obtain ⟨b61, b62⟩ := b6
  obtain ⟨hdays0, hdays1⟩ := hdays
  obtain ⟨hC0, hC1⟩ := hC
  obtain ⟨hbk1, hbk2⟩ := hbk0
  obtain ⟨hln0, hln1⟩ := hln
  clear hO hV hLy hNR hNV hSR hSV hY hYY
  have HA0 := AB.init w #[.int .i64 k, .int .i64 y, .int .i64 m, .int .i64 d, .int .i64 s, .int .i64 n, .bool hz, .int .i64 z] #[.int .i64 o, .int .i64 ps, .int .i64 pn] mo0 44 45 44
  by_cases hcut : LEN < d
  · rw [if_pos hcut] at hCC
    subst hCC
    go_enter Tryz.func93, Tryz.ntmps93
    go_wp2_with (first | (go_at_call 126; with_reducible refine Calls.mono (HC.out.2.2.1 _) ?_; rintro e w' ⟨rfl, hw⟩; subst hw) | (go_at_call 122; with_reducible refine Calls.mono (HC.out.1 _) ?_; rintro e w' ⟨rfl, hw⟩; subst hw) | (go_at_call 125; with_reducible refine Calls.mono (HC.out.2.2.2.1 _) ?_; rintro e w' ⟨rfl, hw⟩; subst hw) | (go_at_call 123; with_reducible refine Calls.mono (HC.out.2.1 _) ?_; rintro e w' ⟨rfl, hw⟩; subst hw))
    obtain ⟨U, hU, HA⟩ := AB.ex (AB.init w #[.int .i64 k, .int .i64 Y, .int .i64 (O + 1), .int .i64 d, .int .i64 s, .int .i64 n, .bool hz, .int .i64 z] #[.int .i64 o, .int .i64 ps, .int .i64 pn] mo0 44 45 44)
    rw [hU]
    clear hU HA0
    obtain ⟨⟨g0, g1, g2, g3, g4, g5, g6, g7⟩, f0, f1, f2, f3, f4, f5, f6, f7⟩ := blk8 HA.x1
    have HAH : Hid _ := HA
    clear HA
    go_quiet ((go_at_call 80; exact Calls.quiet_of_same (HC.out.2.2.2.2.1 _)))
    go_upto_region 7 with (first | (go_at_call 80; with_reducible refine Calls.mono (HC.out.2.2.2.2.1 _) ?_; rintro e w' ⟨rfl, hw⟩; subst hw))
    obtain ⟨U1, hU1, HA⟩ := AB.ex ((HAH.out.drew nq).set 3 (.int .i64 LEN))
    rw [hU1]
    clear hU1 HAH g0 g1 g2 g3 g4 g5 g6 g7 f0 f1 f2 f3 f4 f5 f6 f7
    simp only [List.setIfInBounds_toArray, List.set_cons_zero, List.set_cons_succ] at HA
    obtain ⟨⟨g0, g1, g2, g3, g4, g5, g6, g7⟩, f0, f1, f2, f3, f4, f5, f6, f7⟩ := blk8 HA.x1
    obtain ⟨p0, p1, p2⟩ := blk3 HA.x2
    have HAH : Hid _ := HA
    clear HA
    go_wp2_with fail
    go_quiet ((go_at_call 122; exact Calls.quiet_of_same (HC.out.2.2.2.2.2.1 _)))
    go_wp2_with (first | (go_at_call 123; with_reducible refine Calls.mono (HC.out.2.2.2.2.2.2.1 _) ?_; rintro e w' ⟨rfl, hw⟩; subst hw) | (go_at_call 123; with_reducible refine Calls.mono (HC.out.2.2.2.2.2.2.2.2.1 _) ?_; rintro e w' ⟨rfl, hw⟩; subst hw))
    obtain ⟨U2, hU2, HA⟩ := AB.ex (((HAH.out.drew nq).set 5 (.int .i64 NR)).set 4 (.int .i64 SR))
    rw [hU2]
    simp only [List.setIfInBounds_toArray, List.set_cons_zero, List.set_cons_succ] at HA
    clear hU2 HAH g0 g1 g2 g3 g4 g5 g6 g7 f0 f1 f2 f3 f4 f5 f6 f7 p0 p1 p2
    have hkp : ∀ W, Below U2.heap.size U2 W → (W.cell? ⟨w.heap.size, 0, none⟩ = some (.int .i64 k) ∧ W.cell? ⟨w.heap.size, 1, none⟩ = some (.int .i64 Y) ∧ W.cell? ⟨w.heap.size, 2, none⟩ = some (.int .i64 (O + 1)) ∧ W.cell? ⟨w.heap.size, 3, none⟩ = some (.int .i64 LEN) ∧ W.cell? ⟨w.heap.size, 4, none⟩ = some (.int .i64 SR) ∧ W.cell? ⟨w.heap.size, 5, none⟩ = some (.int .i64 NR) ∧ W.cell? ⟨w.heap.size, 6, none⟩ = some (.bool hz) ∧ W.cell? ⟨w.heap.size, 7, none⟩ = some (.int .i64 z)) := fun W hW => by
      obtain ⟨⟨g0, g1, g2, g3, g4, g5, g6, g7⟩, _⟩ := blk8 ((hW.block _ (lt_of HA.x1)).trans HA.x1)
      exact ⟨g0, g1, g2, g3, g4, g5, g6, g7⟩
    obtain ⟨g0, g1, g2, g3, g4, g5, g6, g7⟩ := hkp U2.drew (below_drewN 1)
    have HB : Hid (Below U2.heap.size U2 U2.drew) := below_drewN 1
    have HKP : Hid _ := And.intro hkp HA
    clear hkp
    have xr : U2.drew.heap[w.heap.size + 1 + 1]? = some (.cells mo0 44 (0, 0)) := HA.x3
    clear HA
    have hwr : IntKind.i64.wrap (DD + SV) = DD + SV := by rw [IntKind.wrap_i64]; omega
    have hst : ∀ (W : World) (v0 v1 v2 v3 v4 v5 v6 v7 : Value), (W.cell? ⟨w.heap.size, 0, none⟩ = some (.int .i64 k) ∧ W.cell? ⟨w.heap.size, 1, none⟩ = some (.int .i64 Y) ∧ W.cell? ⟨w.heap.size, 2, none⟩ = some (.int .i64 (O + 1)) ∧ W.cell? ⟨w.heap.size, 3, none⟩ = some (.int .i64 LEN) ∧ W.cell? ⟨w.heap.size, 4, none⟩ = some (.int .i64 SR) ∧ W.cell? ⟨w.heap.size, 5, none⟩ = some (.int .i64 NR) ∧ W.cell? ⟨w.heap.size, 6, none⟩ = some (.bool hz) ∧ W.cell? ⟨w.heap.size, 7, none⟩ = some (.int .i64 z)) → (((((((((W.setCell ⟨w.heap.size + 1 + 1, 0, none⟩ v0).setCell ⟨w.heap.size + 1 + 1, 1, none⟩ v1).setCell ⟨w.heap.size + 1 + 1, 2, none⟩ v2).setCell ⟨w.heap.size + 1 + 1, 3, none⟩ v3).setCell ⟨w.heap.size + 1 + 1, 4, none⟩ v4).setCell ⟨w.heap.size + 1 + 1, 5, none⟩ v5).setCell ⟨w.heap.size + 1 + 1, 6, none⟩ v6).setCell ⟨w.heap.size + 1 + 1, 7, none⟩ v7).cell? ⟨w.heap.size, 0, none⟩ = some (.int .i64 k) ∧ ((((((((W.setCell ⟨w.heap.size + 1 + 1, 0, none⟩ v0).setCell ⟨w.heap.size + 1 + 1, 1, none⟩ v1).setCell ⟨w.heap.size + 1 + 1, 2, none⟩ v2).setCell ⟨w.heap.size + 1 + 1, 3, none⟩ v3).setCell ⟨w.heap.size + 1 + 1, 4, none⟩ v4).setCell ⟨w.heap.size + 1 + 1, 5, none⟩ v5).setCell ⟨w.heap.size + 1 + 1, 6, none⟩ v6).setCell ⟨w.heap.size + 1 + 1, 7, none⟩ v7).cell? ⟨w.heap.size, 1, none⟩ = some (.int .i64 Y) ∧ ((((((((W.setCell ⟨w.heap.size + 1 + 1, 0, none⟩ v0).setCell ⟨w.heap.size + 1 + 1, 1, none⟩ v1).setCell ⟨w.heap.size + 1 + 1, 2, none⟩ v2).setCell ⟨w.heap.size + 1 + 1, 3, none⟩ v3).setCell ⟨w.heap.size + 1 + 1, 4, none⟩ v4).setCell ⟨w.heap.size + 1 + 1, 5, none⟩ v5).setCell ⟨w.heap.size + 1 + 1, 6, none⟩ v6).setCell ⟨w.heap.size + 1 + 1, 7, none⟩ v7).cell? ⟨w.heap.size, 2, none⟩ = some (.int .i64 (O + 1)) ∧ ((((((((W.setCell ⟨w.heap.size + 1 + 1, 0, none⟩ v0).setCell ⟨w.heap.size + 1 + 1, 1, none⟩ v1).setCell ⟨w.heap.size + 1 + 1, 2, none⟩ v2).setCell ⟨w.heap.size + 1 + 1, 3, none⟩ v3).setCell ⟨w.heap.size + 1 + 1, 4, none⟩ v4).setCell ⟨w.heap.size + 1 + 1, 5, none⟩ v5).setCell ⟨w.heap.size + 1 + 1, 6, none⟩ v6).setCell ⟨w.heap.size + 1 + 1, 7, none⟩ v7).cell? ⟨w.heap.size, 3, none⟩ = some (.int .i64 LEN) ∧ ((((((((W.setCell ⟨w.heap.size + 1 + 1, 0, none⟩ v0).setCell ⟨w.heap.size + 1 + 1, 1, none⟩ v1).setCell ⟨w.heap.size + 1 + 1, 2, none⟩ v2).setCell ⟨w.heap.size + 1 + 1, 3, none⟩ v3).setCell ⟨w.heap.size + 1 + 1, 4, none⟩ v4).setCell ⟨w.heap.size + 1 + 1, 5, none⟩ v5).setCell ⟨w.heap.size + 1 + 1, 6, none⟩ v6).setCell ⟨w.heap.size + 1 + 1, 7, none⟩ v7).cell? ⟨w.heap.size, 4, none⟩ = some (.int .i64 SR) ∧ ((((((((W.setCell ⟨w.heap.size + 1 + 1, 0, none⟩ v0).setCell ⟨w.heap.size + 1 + 1, 1, none⟩ v1).setCell ⟨w.heap.size + 1 + 1, 2, none⟩ v2).setCell ⟨w.heap.size + 1 + 1, 3, none⟩ v3).setCell ⟨w.heap.size + 1 + 1, 4, none⟩ v4).setCell ⟨w.heap.size + 1 + 1, 5, none⟩ v5).setCell ⟨w.heap.size + 1 + 1, 6, none⟩ v6).setCell ⟨w.heap.size + 1 + 1, 7, none⟩ v7).cell? ⟨w.heap.size, 5, none⟩ = some (.int .i64 NR) ∧ ((((((((W.setCell ⟨w.heap.size + 1 + 1, 0, none⟩ v0).setCell ⟨w.heap.size + 1 + 1, 1, none⟩ v1).setCell ⟨w.heap.size + 1 + 1, 2, none⟩ v2).setCell ⟨w.heap.size + 1 + 1, 3, none⟩ v3).setCell ⟨w.heap.size + 1 + 1, 4, none⟩ v4).setCell ⟨w.heap.size + 1 + 1, 5, none⟩ v5).setCell ⟨w.heap.size + 1 + 1, 6, none⟩ v6).setCell ⟨w.heap.size + 1 + 1, 7, none⟩ v7).cell? ⟨w.heap.size, 6, none⟩ = some (.bool hz) ∧ ((((((((W.setCell ⟨w.heap.size + 1 + 1, 0, none⟩ v0).setCell ⟨w.heap.size + 1 + 1, 1, none⟩ v1).setCell ⟨w.heap.size + 1 + 1, 2, none⟩ v2).setCell ⟨w.heap.size + 1 + 1, 3, none⟩ v3).setCell ⟨w.heap.size + 1 + 1, 4, none⟩ v4).setCell ⟨w.heap.size + 1 + 1, 5, none⟩ v5).setCell ⟨w.heap.size + 1 + 1, 6, none⟩ v6).setCell ⟨w.heap.size + 1 + 1, 7, none⟩ v7).cell? ⟨w.heap.size, 7, none⟩ = some (.int .i64 z)) := fun W v0 v1 v2 v3 v4 v5 v6 v7 h => by
      have hh : ∀ i, ((((((((W.setCell ⟨w.heap.size + 1 + 1, 0, none⟩ v0).setCell ⟨w.heap.size + 1 + 1, 1, none⟩ v1).setCell ⟨w.heap.size + 1 + 1, 2, none⟩ v2).setCell ⟨w.heap.size + 1 + 1, 3, none⟩ v3).setCell ⟨w.heap.size + 1 + 1, 4, none⟩ v4).setCell ⟨w.heap.size + 1 + 1, 5, none⟩ v5).setCell ⟨w.heap.size + 1 + 1, 6, none⟩ v6).setCell ⟨w.heap.size + 1 + 1, 7, none⟩ v7).cell? ⟨w.heap.size, i, none⟩ = W.cell? ⟨w.heap.size, i, none⟩ := fun i => by
        simp only [World.cell?]
        rw [Below.heap_setCell _ _ _ _ (by simp; omega), Below.heap_setCell _ _ _ _ (by simp; omega), Below.heap_setCell _ _ _ _ (by simp; omega), Below.heap_setCell _ _ _ _ (by simp; omega), Below.heap_setCell _ _ _ _ (by simp; omega), Below.heap_setCell _ _ _ _ (by simp; omega), Below.heap_setCell _ _ _ _ (by simp; omega), Below.heap_setCell _ _ _ _ (by simp; omega)]
      rw [hh, hh, hh, hh, hh, hh, hh, hh]
      exact h
    have HST : Hid _ := hst
    clear hst
    go_region_held3 (fun W => W.cell? ⟨w.heap.size, 0, none⟩ = some (.int .i64 k) ∧ W.cell? ⟨w.heap.size, 1, none⟩ = some (.int .i64 Y) ∧ W.cell? ⟨w.heap.size, 2, none⟩ = some (.int .i64 (O + 1)) ∧ W.cell? ⟨w.heap.size, 3, none⟩ = some (.int .i64 LEN) ∧ W.cell? ⟨w.heap.size, 4, none⟩ = some (.int .i64 SR) ∧ W.cell? ⟨w.heap.size, 5, none⟩ = some (.int .i64 NR) ∧ W.cell? ⟨w.heap.size, 6, none⟩ = some (.bool hz) ∧ W.cell? ⟨w.heap.size, 7, none⟩ = some (.int .i64 z)) (first | with_reducible exact ⟨g0, g1, g2, g3, g4, g5, g6, g7⟩ | with_reducible exact HST.out _ _ _ _ _ _ _ _ _ ⟨g0, g1, g2, g3, g4, g5, g6, g7⟩ | fail) (first
      | (go_at_call 84; (with_reducible refine Calls.mono (HC.out.2.2.2.2.2.2.2.2.2.1 _) ?_); rintro e w9 ⟨rfl, hw⟩; subst hw)
      | (go_at_call 122; (with_reducible refine Calls.mono (HC.out.2.2.2.2.2.2.2.1 _) ?_); rintro e w9 ⟨rfl, hw⟩; subst hw)
      | (go_at_call 83; (with_reducible refine Calls.mono (HC.out.2.2.2.2.2.2.2.2.2.2 _) ?_); rintro e w9 ⟨rfl, hb9⟩; have hbb := HB.out.trans (hb9.mono HB.out.size); have xr9 := (hb9.block _ (lt_of xr)).trans xr; obtain ⟨⟨r0, r1, r2, r3, r4, r5, r6, r7⟩, t0, t1, t2, t3, t4, t5, t6, t7⟩ := blk8 xr9; clear HB g0 g1 g2 g3 g4 g5 g6 g7; obtain ⟨g0, g1, g2, g3, g4, g5, g6, g7⟩ := HKP.out.1 _ hbb; have HB : Hid _ := hbb; have HE : Hid _ := And.intro hbb xr9; clear hb9 hbb xr9)
      | fail)
    all_goals
      go_wp2_with fail
      obtain ⟨U3, hU3, hx3, hb3, _⟩ := put8 (N := w.heap.size) (X := w.heap.size + 1 + 1) (HKP.out.2.hb.trans (HE.out.1.mono HKP.out.2.hb.size)) (by omega) HE.out.2 (.int .i64 RR.k) (.int .i64 RR.y) (.int .i64 RR.m) (.int .i64 RR.d) (.int .i64 RR.s) (.int .i64 RR.n) (.bool RR.hz) (.int .i64 RR.z)
      rw [hU3]
      obtain ⟨⟨k0, k1, k2, k3, k4, k5, k6, k7⟩, _⟩ := blk8 hx3
      exact bodyPost_ret (v := moV RR) (by simp [results, Tryz.results93, go_sem, k0, k1, k2, k3, k4, k5, k6, k7]) rfl ⟨rfl, hb3⟩
  · rw [if_neg hcut] at hCC
    subst hCC
    go_enter Tryz.func93, Tryz.ntmps93
    go_wp2_with (first | (go_at_call 126; with_reducible refine Calls.mono (HC.out.2.2.1 _) ?_; rintro e w' ⟨rfl, hw⟩; subst hw) | (go_at_call 122; with_reducible refine Calls.mono (HC.out.1 _) ?_; rintro e w' ⟨rfl, hw⟩; subst hw) | (go_at_call 125; with_reducible refine Calls.mono (HC.out.2.2.2.1 _) ?_; rintro e w' ⟨rfl, hw⟩; subst hw) | (go_at_call 123; with_reducible refine Calls.mono (HC.out.2.1 _) ?_; rintro e w' ⟨rfl, hw⟩; subst hw))
    obtain ⟨U, hU, HA⟩ := AB.ex (AB.init w #[.int .i64 k, .int .i64 Y, .int .i64 (O + 1), .int .i64 d, .int .i64 s, .int .i64 n, .bool hz, .int .i64 z] #[.int .i64 o, .int .i64 ps, .int .i64 pn] mo0 44 45 44)
    rw [hU]
    clear hU HA0
    obtain ⟨⟨g0, g1, g2, g3, g4, g5, g6, g7⟩, f0, f1, f2, f3, f4, f5, f6, f7⟩ := blk8 HA.x1
    have HAH : Hid _ := HA
    clear HA
    go_quiet ((go_at_call 80; exact Calls.quiet_of_same (HC.out.2.2.2.2.1 _)))
    go_upto_region 7 with fail
    obtain ⟨U1, hU1, HA⟩ := AB.ex (HAH.out.drew nq)
    rw [hU1]
    clear hU1 HAH g0 g1 g2 g3 g4 g5 g6 g7 f0 f1 f2 f3 f4 f5 f6 f7
    obtain ⟨⟨g0, g1, g2, g3, g4, g5, g6, g7⟩, f0, f1, f2, f3, f4, f5, f6, f7⟩ := blk8 HA.x1
    obtain ⟨p0, p1, p2⟩ := blk3 HA.x2
    have HAH : Hid _ := HA
    clear HA
    go_wp2_with fail
    go_quiet ((go_at_call 122; exact Calls.quiet_of_same (HC.out.2.2.2.2.2.1 _)))
    go_wp2_with (first | (go_at_call 123; with_reducible refine Calls.mono (HC.out.2.2.2.2.2.2.1 _) ?_; rintro e w' ⟨rfl, hw⟩; subst hw) | (go_at_call 123; with_reducible refine Calls.mono (HC.out.2.2.2.2.2.2.2.2.1 _) ?_; rintro e w' ⟨rfl, hw⟩; subst hw))
    obtain ⟨U2, hU2, HA⟩ := AB.ex (((HAH.out.drew nq).set 5 (.int .i64 NR)).set 4 (.int .i64 SR))
    rw [hU2]
    simp only [List.setIfInBounds_toArray, List.set_cons_zero, List.set_cons_succ] at HA
    clear hU2 HAH g0 g1 g2 g3 g4 g5 g6 g7 f0 f1 f2 f3 f4 f5 f6 f7 p0 p1 p2
    have hkp : ∀ W, Below U2.heap.size U2 W → (W.cell? ⟨w.heap.size, 0, none⟩ = some (.int .i64 k) ∧ W.cell? ⟨w.heap.size, 1, none⟩ = some (.int .i64 Y) ∧ W.cell? ⟨w.heap.size, 2, none⟩ = some (.int .i64 (O + 1)) ∧ W.cell? ⟨w.heap.size, 3, none⟩ = some (.int .i64 d) ∧ W.cell? ⟨w.heap.size, 4, none⟩ = some (.int .i64 SR) ∧ W.cell? ⟨w.heap.size, 5, none⟩ = some (.int .i64 NR) ∧ W.cell? ⟨w.heap.size, 6, none⟩ = some (.bool hz) ∧ W.cell? ⟨w.heap.size, 7, none⟩ = some (.int .i64 z)) := fun W hW => by
      obtain ⟨⟨g0, g1, g2, g3, g4, g5, g6, g7⟩, _⟩ := blk8 ((hW.block _ (lt_of HA.x1)).trans HA.x1)
      exact ⟨g0, g1, g2, g3, g4, g5, g6, g7⟩
    obtain ⟨g0, g1, g2, g3, g4, g5, g6, g7⟩ := hkp U2.drew (below_drewN 1)
    have HB : Hid (Below U2.heap.size U2 U2.drew) := below_drewN 1
    have HKP : Hid _ := And.intro hkp HA
    clear hkp
    have xr : U2.drew.heap[w.heap.size + 1 + 1]? = some (.cells mo0 44 (0, 0)) := HA.x3
    clear HA
    have hwr : IntKind.i64.wrap (DD + SV) = DD + SV := by rw [IntKind.wrap_i64]; omega
    have hst : ∀ (W : World) (v0 v1 v2 v3 v4 v5 v6 v7 : Value), (W.cell? ⟨w.heap.size, 0, none⟩ = some (.int .i64 k) ∧ W.cell? ⟨w.heap.size, 1, none⟩ = some (.int .i64 Y) ∧ W.cell? ⟨w.heap.size, 2, none⟩ = some (.int .i64 (O + 1)) ∧ W.cell? ⟨w.heap.size, 3, none⟩ = some (.int .i64 d) ∧ W.cell? ⟨w.heap.size, 4, none⟩ = some (.int .i64 SR) ∧ W.cell? ⟨w.heap.size, 5, none⟩ = some (.int .i64 NR) ∧ W.cell? ⟨w.heap.size, 6, none⟩ = some (.bool hz) ∧ W.cell? ⟨w.heap.size, 7, none⟩ = some (.int .i64 z)) → (((((((((W.setCell ⟨w.heap.size + 1 + 1, 0, none⟩ v0).setCell ⟨w.heap.size + 1 + 1, 1, none⟩ v1).setCell ⟨w.heap.size + 1 + 1, 2, none⟩ v2).setCell ⟨w.heap.size + 1 + 1, 3, none⟩ v3).setCell ⟨w.heap.size + 1 + 1, 4, none⟩ v4).setCell ⟨w.heap.size + 1 + 1, 5, none⟩ v5).setCell ⟨w.heap.size + 1 + 1, 6, none⟩ v6).setCell ⟨w.heap.size + 1 + 1, 7, none⟩ v7).cell? ⟨w.heap.size, 0, none⟩ = some (.int .i64 k) ∧ ((((((((W.setCell ⟨w.heap.size + 1 + 1, 0, none⟩ v0).setCell ⟨w.heap.size + 1 + 1, 1, none⟩ v1).setCell ⟨w.heap.size + 1 + 1, 2, none⟩ v2).setCell ⟨w.heap.size + 1 + 1, 3, none⟩ v3).setCell ⟨w.heap.size + 1 + 1, 4, none⟩ v4).setCell ⟨w.heap.size + 1 + 1, 5, none⟩ v5).setCell ⟨w.heap.size + 1 + 1, 6, none⟩ v6).setCell ⟨w.heap.size + 1 + 1, 7, none⟩ v7).cell? ⟨w.heap.size, 1, none⟩ = some (.int .i64 Y) ∧ ((((((((W.setCell ⟨w.heap.size + 1 + 1, 0, none⟩ v0).setCell ⟨w.heap.size + 1 + 1, 1, none⟩ v1).setCell ⟨w.heap.size + 1 + 1, 2, none⟩ v2).setCell ⟨w.heap.size + 1 + 1, 3, none⟩ v3).setCell ⟨w.heap.size + 1 + 1, 4, none⟩ v4).setCell ⟨w.heap.size + 1 + 1, 5, none⟩ v5).setCell ⟨w.heap.size + 1 + 1, 6, none⟩ v6).setCell ⟨w.heap.size + 1 + 1, 7, none⟩ v7).cell? ⟨w.heap.size, 2, none⟩ = some (.int .i64 (O + 1)) ∧ ((((((((W.setCell ⟨w.heap.size + 1 + 1, 0, none⟩ v0).setCell ⟨w.heap.size + 1 + 1, 1, none⟩ v1).setCell ⟨w.heap.size + 1 + 1, 2, none⟩ v2).setCell ⟨w.heap.size + 1 + 1, 3, none⟩ v3).setCell ⟨w.heap.size + 1 + 1, 4, none⟩ v4).setCell ⟨w.heap.size + 1 + 1, 5, none⟩ v5).setCell ⟨w.heap.size + 1 + 1, 6, none⟩ v6).setCell ⟨w.heap.size + 1 + 1, 7, none⟩ v7).cell? ⟨w.heap.size, 3, none⟩ = some (.int .i64 d) ∧ ((((((((W.setCell ⟨w.heap.size + 1 + 1, 0, none⟩ v0).setCell ⟨w.heap.size + 1 + 1, 1, none⟩ v1).setCell ⟨w.heap.size + 1 + 1, 2, none⟩ v2).setCell ⟨w.heap.size + 1 + 1, 3, none⟩ v3).setCell ⟨w.heap.size + 1 + 1, 4, none⟩ v4).setCell ⟨w.heap.size + 1 + 1, 5, none⟩ v5).setCell ⟨w.heap.size + 1 + 1, 6, none⟩ v6).setCell ⟨w.heap.size + 1 + 1, 7, none⟩ v7).cell? ⟨w.heap.size, 4, none⟩ = some (.int .i64 SR) ∧ ((((((((W.setCell ⟨w.heap.size + 1 + 1, 0, none⟩ v0).setCell ⟨w.heap.size + 1 + 1, 1, none⟩ v1).setCell ⟨w.heap.size + 1 + 1, 2, none⟩ v2).setCell ⟨w.heap.size + 1 + 1, 3, none⟩ v3).setCell ⟨w.heap.size + 1 + 1, 4, none⟩ v4).setCell ⟨w.heap.size + 1 + 1, 5, none⟩ v5).setCell ⟨w.heap.size + 1 + 1, 6, none⟩ v6).setCell ⟨w.heap.size + 1 + 1, 7, none⟩ v7).cell? ⟨w.heap.size, 5, none⟩ = some (.int .i64 NR) ∧ ((((((((W.setCell ⟨w.heap.size + 1 + 1, 0, none⟩ v0).setCell ⟨w.heap.size + 1 + 1, 1, none⟩ v1).setCell ⟨w.heap.size + 1 + 1, 2, none⟩ v2).setCell ⟨w.heap.size + 1 + 1, 3, none⟩ v3).setCell ⟨w.heap.size + 1 + 1, 4, none⟩ v4).setCell ⟨w.heap.size + 1 + 1, 5, none⟩ v5).setCell ⟨w.heap.size + 1 + 1, 6, none⟩ v6).setCell ⟨w.heap.size + 1 + 1, 7, none⟩ v7).cell? ⟨w.heap.size, 6, none⟩ = some (.bool hz) ∧ ((((((((W.setCell ⟨w.heap.size + 1 + 1, 0, none⟩ v0).setCell ⟨w.heap.size + 1 + 1, 1, none⟩ v1).setCell ⟨w.heap.size + 1 + 1, 2, none⟩ v2).setCell ⟨w.heap.size + 1 + 1, 3, none⟩ v3).setCell ⟨w.heap.size + 1 + 1, 4, none⟩ v4).setCell ⟨w.heap.size + 1 + 1, 5, none⟩ v5).setCell ⟨w.heap.size + 1 + 1, 6, none⟩ v6).setCell ⟨w.heap.size + 1 + 1, 7, none⟩ v7).cell? ⟨w.heap.size, 7, none⟩ = some (.int .i64 z)) := fun W v0 v1 v2 v3 v4 v5 v6 v7 h => by
      have hh : ∀ i, ((((((((W.setCell ⟨w.heap.size + 1 + 1, 0, none⟩ v0).setCell ⟨w.heap.size + 1 + 1, 1, none⟩ v1).setCell ⟨w.heap.size + 1 + 1, 2, none⟩ v2).setCell ⟨w.heap.size + 1 + 1, 3, none⟩ v3).setCell ⟨w.heap.size + 1 + 1, 4, none⟩ v4).setCell ⟨w.heap.size + 1 + 1, 5, none⟩ v5).setCell ⟨w.heap.size + 1 + 1, 6, none⟩ v6).setCell ⟨w.heap.size + 1 + 1, 7, none⟩ v7).cell? ⟨w.heap.size, i, none⟩ = W.cell? ⟨w.heap.size, i, none⟩ := fun i => by
        simp only [World.cell?]
        rw [Below.heap_setCell _ _ _ _ (by simp; omega), Below.heap_setCell _ _ _ _ (by simp; omega), Below.heap_setCell _ _ _ _ (by simp; omega), Below.heap_setCell _ _ _ _ (by simp; omega), Below.heap_setCell _ _ _ _ (by simp; omega), Below.heap_setCell _ _ _ _ (by simp; omega), Below.heap_setCell _ _ _ _ (by simp; omega), Below.heap_setCell _ _ _ _ (by simp; omega)]
      rw [hh, hh, hh, hh, hh, hh, hh, hh]
      exact h
    have HST : Hid _ := hst
    clear hst
    go_region_held3 (fun W => W.cell? ⟨w.heap.size, 0, none⟩ = some (.int .i64 k) ∧ W.cell? ⟨w.heap.size, 1, none⟩ = some (.int .i64 Y) ∧ W.cell? ⟨w.heap.size, 2, none⟩ = some (.int .i64 (O + 1)) ∧ W.cell? ⟨w.heap.size, 3, none⟩ = some (.int .i64 d) ∧ W.cell? ⟨w.heap.size, 4, none⟩ = some (.int .i64 SR) ∧ W.cell? ⟨w.heap.size, 5, none⟩ = some (.int .i64 NR) ∧ W.cell? ⟨w.heap.size, 6, none⟩ = some (.bool hz) ∧ W.cell? ⟨w.heap.size, 7, none⟩ = some (.int .i64 z)) (first | with_reducible exact ⟨g0, g1, g2, g3, g4, g5, g6, g7⟩ | with_reducible exact HST.out _ _ _ _ _ _ _ _ _ ⟨g0, g1, g2, g3, g4, g5, g6, g7⟩ | fail) (first
      | (go_at_call 84; (with_reducible refine Calls.mono (HC.out.2.2.2.2.2.2.2.2.2.1 _) ?_); rintro e w9 ⟨rfl, hw⟩; subst hw)
      | (go_at_call 122; (with_reducible refine Calls.mono (HC.out.2.2.2.2.2.2.2.1 _) ?_); rintro e w9 ⟨rfl, hw⟩; subst hw)
      | (go_at_call 83; (with_reducible refine Calls.mono (HC.out.2.2.2.2.2.2.2.2.2.2 _) ?_); rintro e w9 ⟨rfl, hb9⟩; have hbb := HB.out.trans (hb9.mono HB.out.size); have xr9 := (hb9.block _ (lt_of xr)).trans xr; obtain ⟨⟨r0, r1, r2, r3, r4, r5, r6, r7⟩, t0, t1, t2, t3, t4, t5, t6, t7⟩ := blk8 xr9; clear HB g0 g1 g2 g3 g4 g5 g6 g7; obtain ⟨g0, g1, g2, g3, g4, g5, g6, g7⟩ := HKP.out.1 _ hbb; have HB : Hid _ := hbb; have HE : Hid _ := And.intro hbb xr9; clear hb9 hbb xr9)
      | fail)
    all_goals
      go_wp2_with fail
      obtain ⟨U3, hU3, hx3, hb3, _⟩ := put8 (N := w.heap.size) (X := w.heap.size + 1 + 1) (HKP.out.2.hb.trans (HE.out.1.mono HKP.out.2.hb.size)) (by omega) HE.out.2 (.int .i64 RR.k) (.int .i64 RR.y) (.int .i64 RR.m) (.int .i64 RR.d) (.int .i64 RR.s) (.int .i64 RR.n) (.bool RR.hz) (.int .i64 RR.z)
      rw [hU3]
      obtain ⟨⟨k0, k1, k2, k3, k4, k5, k6, k7⟩, _⟩ := blk8 hx3
      exact bodyPost_ret (v := moV RR) (by simp [results, Tryz.results93, go_sem, k0, k1, k2, k3, k4, k5, k6, k7]) rfl ⟨rfl, hb3⟩
end Go.Proofs.YtgaegajcejpmdaaGreatDoor.Dt
