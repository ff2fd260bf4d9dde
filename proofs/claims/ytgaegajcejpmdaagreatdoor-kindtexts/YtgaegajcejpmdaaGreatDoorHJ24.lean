/- Joined: HDtQr1, HDtQr3, HDtQr2, HDtQr4, HDtRr1, HDtRr2, HDtRr3, HDtRr4, HDtRr5, HDtRr6, HDtRr7, HDtRr10, HDtRr8, HDtRr9. -/
import Derived.Test.YtgaegajcejpmdaaGreatDoorHJ23
import Derived.Test.YtgaegajcejpmdaaGreatDoorHJ20
import Derived.BigQuiet
import Derived.Test.YtgaegajcejpmdaaGreatDoorHJ6
namespace Go.Proofs.YtgaegajcejpmdaaGreatDoor.Dt
open Go.RowKit
set_option linter.unusedVariables false

/-- A box and a result's place. -/
structure AB2 (w U : World) (c z : Array Value) (t v : TypeId) : Prop where
  x1 : U.heap[w.heap.size]? = some (.cells c t (0, 0))
  x2 : U.heap[w.heap.size + 1]? = some (.cells z v (0, 0))
  hb : Below w.heap.size w U
theorem AB2.init (w : World) (c z : Array Value) (t v : TypeId) : AB2 w ((w.alloc (.cells c t)).alloc (.cells z v)) c z t v := by
  obtain ⟨a, b, e⟩ := box2 w (.cells c t) (.cells z v)
  exact ⟨a, b, e⟩
theorem AB2.set {w U : World} {c z : Array Value} {t v : TypeId} (h : AB2 w U c z t v) (i : Nat) (x : Value) : AB2 w (U.setCell ⟨w.heap.size, i, none⟩ x) (c.setIfInBounds i x) z t v :=
  ⟨bset h.x1 x, (Below.heap_setCell _ _ _ _ (by simp)).trans h.x2, h.hb.setCell (p := ⟨w.heap.size, i, none⟩) (Nat.le_refl _) x⟩
theorem AB2.ex {w U : World} {c z : Array Value} {t v : TypeId} (h : AB2 w U c z t v) : ∃ U', U = U' ∧ AB2 w U' c z t v := ⟨U, rfl, h⟩
theorem found_yr {B r : Int} {j : Nat} (hr : r < ahd (B + 400) - ahd B) (hj : j ≤ 400) (h0 : 0 ≤ r - (ahd (B + j) - ahd B)) : j ≤ 399 := by
  by_cases c : j = 400
  · subst c
    have : (B + ((400 : Nat) : Int)) = B + 400 := rfl
    rw [this] at h0
    omega
  · omega
set_option maxHeartbeats 2000000 in
theorem put_r (a : Mo) (n : Int) (w : World) (h0 : -1000000000000000 < n) (h1 : n < 1000000000000000) : Calls Tryz.prog 83 #[moV a, .int .i64 n] w fun e w' => e = .returned (moV ⟨a.k, bkY (civL n), (civM n : Nat), civD n, a.s, a.n, a.hz, a.z⟩) ∧ Below w.heap.size w w' := by
  obtain ⟨ak, ay, am, ad, as_, an, ah, az⟩ := a
  dsimp only
  have c1 := fun W : World => div_r n 146097 W (by omega) (by omega) (by omega) (by omega)
  have c2 := fun W : World => mod_r n 146097 W (by omega) (by omega) (by omega) (by omega)
  have hr := emod_in n (show (0 : Int) < 146097 by omega)
  have hq : -10000000000 < n / 146097 ∧ n / 146097 < 10000000000 := by omega
  have hnr : n = 146097 * (n / 146097) + n % 146097 := by have := Int.emod_add_mul_ediv n 146097; omega
  generalize hR : n % 146097 = r at *
  generalize hQ : n / 146097 = q at *
  clear hR hQ
  obtain ⟨hr0, hr1⟩ := hr
  obtain ⟨hq0, hq1⟩ := hq
  have hb2 : ahd (2000 + 400 * q) = ahd 2000 + 146097 * q := by rw [ahd_cycle]
  have hb4 : r < ahd (2000 + 400 * q + 400) - ahd (2000 + 400 * q) := by
    have : 2000 + 400 * q + 400 = 2000 + 400 * (q + 1) := by omega
    rw [this, ahd_cycle, ahd_cycle]
    omega
  obtain ⟨B, hB⟩ : ∃ B, 2000 + 400 * q = B := ⟨_, rfl⟩
  have hBb : -5000000000000 < B ∧ B < 5000000000000 := by omega
  rw [hB] at hb2 hb4
  have HNR : Hid _ := And.intro hnr (And.intro hb2 hb4)
  have hB' : 2000 + 400 * q = B := hB
  have HBB : Hid _ := hB
  clear hnr hb2 hb4
  have c3 := fun (j : Nat) (W : World) (hj : j ≤ 400) => leap_r (B + j) W (by omega) (by omega)
  have HC : Hid _ := And.intro c1 (And.intro c2 c3)
  clear c1 c2 c3 hB
  obtain ⟨hBb0, hBb1⟩ := hBb
  have HS : Hid (∀ j : Nat, ahd (B + ((j + 1 : Nat) : Int)) = ahd (B + j) + yrL (B + j)) := (fun j => by rw [show B + ((j + 1 : Nat) : Int) = B + j + 1 by omega, ahd_succ] : ∀ j : Nat, ahd (B + ((j + 1 : Nat) : Int)) = ahd (B + j) + yrL (B + j))
  have HA0 := AB2.init w #[.int .i64 ak, .int .i64 ay, .int .i64 am, .int .i64 ad, .int .i64 as_, .int .i64 an, .bool ah, .int .i64 az] mo0 44 44
  obtain ⟨U, hU, HA⟩ := AB2.ex HA0
  have HU : Hid _ := And.intro hU HA
  clear hU HA HA0
  go_enter Tryz.func83, Tryz.ntmps83
  go_wp2_with (first | (go_at_call 122; with_reducible refine Calls.mono (HC.out.1 _) ?_; rintro e w' ⟨rfl, hw⟩; subst hw) | (go_at_call 123; with_reducible refine Calls.mono (HC.out.2.1 _) ?_; rintro e w' ⟨rfl, hw⟩; subst hw))
  go_loopg [5, 6] 400 (fun g v5 v6 wr => ∃ (j : Nat) (D : Int), j + g = 400 ∧ v5 = .int .i64 (B + (j : Int)) ∧ v6 = .int .i64 D ∧ D = r - (ahd (B + (j : Int)) - ahd B) ∧ 0 ≤ D ∧ D < 146097 ∧ AB2 w wr #[.int .i64 ak, .int .i64 ay, .int .i64 am, .int .i64 ad, .int .i64 as_, .int .i64 an, .bool ah, .int .i64 az] mo0 44 44)
  case atStart => exact ⟨0, r, rfl, by simp, rfl, by simp, hr0, hr1, by rw [HU.out.1]; exact HU.out.2⟩
  case round =>
    obtain ⟨j, D, hjg, rfl, rfl, hD, hD0, hD1, HA⟩ := hrel
    have hj : j ≤ 399 := found_yr HNR.out.2.2 (by omega) (by rw [← hD]; exact hD0)
    obtain ⟨g, rfl⟩ : ∃ g, gk = g + 1 := ⟨gk - 1, by omega⟩
    have c3 := fun W : World => HC.out.2.2 j W (by omega)
    have hs := HS.out j
    have hyr : yrL (B + (j : Int)) = if lpL (B + (j : Int)) = true then 366 else 365 := rfl
    obtain ⟨⟨g0, g1, g2, g3, g4, g5, g6, g7⟩, f0, f1, f2, f3, f4, f5, f6, f7⟩ := blk8 HA.x1
    generalize lpL (B + (j : Int)) = lp at *
    have HX : Hid _ := And.intro hD (And.intro hs (And.intro hyr HA))
    have HLP : Hid _ := c3
    clear hD hs hyr HA c3
    cases lp
    · by_cases hlt : D < 365
      · have d1 : decide (D < 365) = true := by simpa using hlt
        have hLb : -6000000000000 < B + (j : Int) ∧ B + (j : Int) < 6000000000000 := by omega
        have q1 := fun W : World => back_r (B + (j : Int)) W (by omega) (by omega)
        have hyl : D < yrL (B + (j : Int)) := by rw [HX.out.2.2.1]; simpa using hlt
        have hsum : ahd (B + (j : Int)) - ahd 2000 + D = n := by
          have a1 := HNR.out.1
          have a2 := HNR.out.2.1
          have a3 := HX.out.1
          omega
        have hbk : -10000000000000 < bkY (B + (j : Int)) ∧ bkY (B + (j : Int)) < 10000000000000 := by unfold bkY; split <;> omega
        have q2 := fun (m : Int) (W : World) (p : -1000000000000000 < m) (q : m < 1000000000000000) => length_r (bkY (B + (j : Int))) m W (by omega) (by omega) p q
        rw [ln_bk] at q2
        generalize B + (j : Int) = L at *
        have HT : Hid _ := And.intro q1 (And.intro q2 (And.intro hsum hyl))
        clear q1 q2 hsum hyl
        obtain ⟨hbk0, hbk1⟩ := hbk
        obtain ⟨hL0, hL1⟩ := hLb
        generalize hY : bkY L = Y at *
        have HY : Hid _ := hY
        clear hY
        go_wp2_with (first | (go_at_call 124; with_reducible refine Calls.mono (HLP.out _) ?_; rintro e w' ⟨rfl, hw⟩; subst hw) | (go_at_call 125; with_reducible refine Calls.mono (HT.out.1 _) ?_; rintro e w' ⟨rfl, hw⟩; subst hw))
        have HA2 := (HX.out.2.2.2.set 1 (.int .i64 Y)).set 2 (.int .i64 1)
        simp only [List.setIfInBounds_toArray, List.set_cons_zero, List.set_cons_succ] at HA2
        go_loopg [6] 11 (fun g v6 wx => ∃ (i : Nat) (E : Int), i + g = 11 ∧ v6 = .int .i64 E ∧ E = D - cum L i ∧ 0 ≤ E ∧ E < 400 ∧ AB2 w wx #[.int .i64 ak, .int .i64 Y, .int .i64 ((i : Int) + 1), .int .i64 ad, .int .i64 as_, .int .i64 an, .bool ah, .int .i64 az] mo0 44 44)
        case atStart => exact ⟨0, D, rfl, rfl, by simp [cum], hD0, by omega, HA2⟩
        case round =>
          obtain ⟨i, E, hig, rfl, hE, hE0, hE1, HA⟩ := hrel
          clear HA2
          obtain ⟨⟨g0, g1, g2, g3, g4, g5, g6, g7⟩, f0, f1, f2, f3, f4, f5, f6, f7⟩ := blk8 HA.x1
          obtain ⟨⟨r0', r1', r2', r3', r4', r5', r6', r7'⟩, t0', t1', t2', t3', t4', t5', t6', t7'⟩ := blk8 HA.x2
          have hlen := len_in (l := L) (m := (i : Int) + 1) (by omega) (by omega)
          have q3 := fun W : World => HT.out.2.1 ((i : Int) + 1) W (by omega) (by omega)
          have hcs : cum L (i + 1) = cum L i + lenL L ((i : Int) + 1) := rfl
          have hc12 := cum_twelve L
          obtain ⟨LN, hLN⟩ : ∃ LN, lenL L ((i : Int) + 1) = LN := ⟨_, rfl⟩
          rw [hLN] at hlen q3 hcs
          obtain ⟨hl0, hl1⟩ := hlen
          have HZ : Hid _ := And.intro hE (And.intro hcs (And.intro hc12 (And.intro HA (And.intro hLN q3))))
          clear hE hcs hc12 HA hLN q3
          have hi1 : (i : Int) ≤ 11 := by omega
          by_cases hge : LN ≤ E
          · have dd : decide (LN ≤ E) = true := by simpa using hge
            have dd2 : decide (E < LN) = false := by simp; omega
            have hi : i ≤ 10 := by
              rcases Nat.lt_or_ge i 11 with h | h
              · omega
              · have h11 : i = 11 := by omega
                have a1 := HZ.out.1
                have a2 := HZ.out.2.1
                have a3 := HZ.out.2.2.1
                have a4 := HT.out.2.2.2
                rw [h11] at a1 a2
                rw [a3] at a2
                omega
            obtain ⟨g', rfl⟩ : ∃ g', gk = g' + 1 := ⟨gk - 1, by omega⟩
            go_wp2_with (go_at_call 80; with_reducible refine Calls.mono (HZ.out.2.2.2.2.2 _) ?_; rintro e w' ⟨rfl, hw⟩; subst hw)
            go_roundg g'
            case measure => omega
            case rel =>
              have hx := HZ.out.2.2.2.1.set 2 (.int .i64 ((i : Int) + 1 + 1))
              simp only [List.setIfInBounds_toArray, List.set_cons_zero, List.set_cons_succ] at hx
              refine ⟨i + 1, E - LN, by omega, rfl, ?_, by omega, by omega, ?_⟩
              · have a1 := HZ.out.1
                have a2 := HZ.out.2.1
                omega
              · rw [show ((i + 1 : Nat) : Int) = (i : Int) + 1 by omega]
                exact hx
          · have dd : decide (LN ≤ E) = false := by simpa using hge
            have dd2 : decide (E < LN) = true := by simp; omega
            go_wp2_with (go_at_call 80; with_reducible refine Calls.mono (HZ.out.2.2.2.2.2 _) ?_; rintro e w' ⟨rfl, hw⟩; subst hw)
            have HA3 := HZ.out.2.2.2.1.set 3 (.int .i64 (E + 1))
            simp only [List.setIfInBounds_toArray, List.set_cons_zero, List.set_cons_succ] at HA3
            obtain ⟨U2, hU2, hx2, hb2, _⟩ := put8 (X := w.heap.size + 1) HA3.hb (by omega) HA3.x2 (.int .i64 ak) (.int .i64 Y) (.int .i64 ((i : Int) + 1)) (.int .i64 (E + 1)) (.int .i64 as_) (.int .i64 an) (.bool ah) (.int .i64 az)
            rw [hU2]
            obtain ⟨⟨k0, k1, k2, k3, k4, k5, k6, k7⟩, _⟩ := blk8 hx2
            obtain ⟨z1, z2, z3⟩ := found (n := n) (l := L) (r := D) (j := i) (by omega) HT.out.2.2.1 (by rw [← HZ.out.1]; exact hE0) (by rw [← HZ.out.1, HZ.out.2.2.2.2.1]; omega)
            refine bodyPost_ret (v := moV ⟨ak, Y, (i : Int) + 1, E + 1, as_, an, ah, az⟩) (by simp [results, Tryz.results83, go_sem, k0, k1, k2, k3, k4, k5, k6, k7]) rfl ⟨?_, hb2⟩
            rw [z1, z2, z3, HY.out, HZ.out.1]
      · have d1 : decide (D < 365) = false := by simpa using hlt
        go_wp2_with (go_at_call 124; with_reducible refine Calls.mono (HLP.out _) ?_; rintro e w' ⟨rfl, hw⟩; subst hw)
        go_roundg g
        case measure => omega
        case rel =>
          refine ⟨j + 1, D - 365, by omega, by simp [Int.add_assoc], rfl, ?_, by omega, by omega, HX.out.2.2.2⟩
          have a1 := HX.out.1
          have a2 := HX.out.2.1
          have a3 := HX.out.2.2.1
          simp at a3
          omega
    · by_cases hlt : D < 366
      · have d1 : decide (D < 366) = true := by simpa using hlt
        have hLb : -6000000000000 < B + (j : Int) ∧ B + (j : Int) < 6000000000000 := by omega
        have q1 := fun W : World => back_r (B + (j : Int)) W (by omega) (by omega)
        have hyl : D < yrL (B + (j : Int)) := by rw [HX.out.2.2.1]; simpa using hlt
        have hsum : ahd (B + (j : Int)) - ahd 2000 + D = n := by
          have a1 := HNR.out.1
          have a2 := HNR.out.2.1
          have a3 := HX.out.1
          omega
        have hbk : -10000000000000 < bkY (B + (j : Int)) ∧ bkY (B + (j : Int)) < 10000000000000 := by unfold bkY; split <;> omega
        have q2 := fun (m : Int) (W : World) (p : -1000000000000000 < m) (q : m < 1000000000000000) => length_r (bkY (B + (j : Int))) m W (by omega) (by omega) p q
        rw [ln_bk] at q2
        generalize B + (j : Int) = L at *
        have HT : Hid _ := And.intro q1 (And.intro q2 (And.intro hsum hyl))
        clear q1 q2 hsum hyl
        obtain ⟨hbk0, hbk1⟩ := hbk
        obtain ⟨hL0, hL1⟩ := hLb
        generalize hY : bkY L = Y at *
        have HY : Hid _ := hY
        clear hY
        go_wp2_with (first | (go_at_call 124; with_reducible refine Calls.mono (HLP.out _) ?_; rintro e w' ⟨rfl, hw⟩; subst hw) | (go_at_call 125; with_reducible refine Calls.mono (HT.out.1 _) ?_; rintro e w' ⟨rfl, hw⟩; subst hw))
        have HA2 := (HX.out.2.2.2.set 1 (.int .i64 Y)).set 2 (.int .i64 1)
        simp only [List.setIfInBounds_toArray, List.set_cons_zero, List.set_cons_succ] at HA2
        go_loopg [6] 11 (fun g v6 wx => ∃ (i : Nat) (E : Int), i + g = 11 ∧ v6 = .int .i64 E ∧ E = D - cum L i ∧ 0 ≤ E ∧ E < 400 ∧ AB2 w wx #[.int .i64 ak, .int .i64 Y, .int .i64 ((i : Int) + 1), .int .i64 ad, .int .i64 as_, .int .i64 an, .bool ah, .int .i64 az] mo0 44 44)
        case atStart => exact ⟨0, D, rfl, rfl, by simp [cum], hD0, by omega, HA2⟩
        case round =>
          obtain ⟨i, E, hig, rfl, hE, hE0, hE1, HA⟩ := hrel
          clear HA2
          obtain ⟨⟨g0, g1, g2, g3, g4, g5, g6, g7⟩, f0, f1, f2, f3, f4, f5, f6, f7⟩ := blk8 HA.x1
          obtain ⟨⟨r0', r1', r2', r3', r4', r5', r6', r7'⟩, t0', t1', t2', t3', t4', t5', t6', t7'⟩ := blk8 HA.x2
          have hlen := len_in (l := L) (m := (i : Int) + 1) (by omega) (by omega)
          have q3 := fun W : World => HT.out.2.1 ((i : Int) + 1) W (by omega) (by omega)
          have hcs : cum L (i + 1) = cum L i + lenL L ((i : Int) + 1) := rfl
          have hc12 := cum_twelve L
          obtain ⟨LN, hLN⟩ : ∃ LN, lenL L ((i : Int) + 1) = LN := ⟨_, rfl⟩
          rw [hLN] at hlen q3 hcs
          obtain ⟨hl0, hl1⟩ := hlen
          have HZ : Hid _ := And.intro hE (And.intro hcs (And.intro hc12 (And.intro HA (And.intro hLN q3))))
          clear hE hcs hc12 HA hLN q3
          have hi1 : (i : Int) ≤ 11 := by omega
          by_cases hge : LN ≤ E
          · have dd : decide (LN ≤ E) = true := by simpa using hge
            have dd2 : decide (E < LN) = false := by simp; omega
            have hi : i ≤ 10 := by
              rcases Nat.lt_or_ge i 11 with h | h
              · omega
              · have h11 : i = 11 := by omega
                have a1 := HZ.out.1
                have a2 := HZ.out.2.1
                have a3 := HZ.out.2.2.1
                have a4 := HT.out.2.2.2
                rw [h11] at a1 a2
                rw [a3] at a2
                omega
            obtain ⟨g', rfl⟩ : ∃ g', gk = g' + 1 := ⟨gk - 1, by omega⟩
            go_wp2_with (go_at_call 80; with_reducible refine Calls.mono (HZ.out.2.2.2.2.2 _) ?_; rintro e w' ⟨rfl, hw⟩; subst hw)
            go_roundg g'
            case measure => omega
            case rel =>
              have hx := HZ.out.2.2.2.1.set 2 (.int .i64 ((i : Int) + 1 + 1))
              simp only [List.setIfInBounds_toArray, List.set_cons_zero, List.set_cons_succ] at hx
              refine ⟨i + 1, E - LN, by omega, rfl, ?_, by omega, by omega, ?_⟩
              · have a1 := HZ.out.1
                have a2 := HZ.out.2.1
                omega
              · rw [show ((i + 1 : Nat) : Int) = (i : Int) + 1 by omega]
                exact hx
          · have dd : decide (LN ≤ E) = false := by simpa using hge
            have dd2 : decide (E < LN) = true := by simp; omega
            go_wp2_with (go_at_call 80; with_reducible refine Calls.mono (HZ.out.2.2.2.2.2 _) ?_; rintro e w' ⟨rfl, hw⟩; subst hw)
            have HA3 := HZ.out.2.2.2.1.set 3 (.int .i64 (E + 1))
            simp only [List.setIfInBounds_toArray, List.set_cons_zero, List.set_cons_succ] at HA3
            obtain ⟨U2, hU2, hx2, hb2, _⟩ := put8 (X := w.heap.size + 1) HA3.hb (by omega) HA3.x2 (.int .i64 ak) (.int .i64 Y) (.int .i64 ((i : Int) + 1)) (.int .i64 (E + 1)) (.int .i64 as_) (.int .i64 an) (.bool ah) (.int .i64 az)
            rw [hU2]
            obtain ⟨⟨k0, k1, k2, k3, k4, k5, k6, k7⟩, _⟩ := blk8 hx2
            obtain ⟨z1, z2, z3⟩ := found (n := n) (l := L) (r := D) (j := i) (by omega) HT.out.2.2.1 (by rw [← HZ.out.1]; exact hE0) (by rw [← HZ.out.1, HZ.out.2.2.2.2.1]; omega)
            refine bodyPost_ret (v := moV ⟨ak, Y, (i : Int) + 1, E + 1, as_, an, ah, az⟩) (by simp [results, Tryz.results83, go_sem, k0, k1, k2, k3, k4, k5, k6, k7]) rfl ⟨?_, hb2⟩
            rw [z1, z2, z3, HY.out, HZ.out.1]
      · have d1 : decide (D < 366) = false := by simpa using hlt
        go_wp2_with (go_at_call 124; with_reducible refine Calls.mono (HLP.out _) ?_; rintro e w' ⟨rfl, hw⟩; subst hw)
        go_roundg g
        case measure => omega
        case rel =>
          refine ⟨j + 1, D - 366, by omega, by simp [Int.add_assoc], rfl, ?_, by omega, by omega, HX.out.2.2.2⟩
          have a1 := HX.out.1
          have a2 := HX.out.2.1
          have a3 := HX.out.2.2.1
          simp at a3
          omega
end Go.Proofs.YtgaegajcejpmdaaGreatDoor.Dt
namespace Go.Proofs.YtgaegajcejpmdaaGreatDoor.Dt
open Go.RowKit
set_option linter.unusedVariables false

end Go.Proofs.YtgaegajcejpmdaaGreatDoor.Dt
namespace Go.Proofs.YtgaegajcejpmdaaGreatDoor.Dt
open Go.RowKit
set_option linter.unusedVariables false

theorem order_r (a x b y : Int) (w : World) : Calls Tryz.prog 94 #[.int .i64 a, .int .i64 x, .int .i64 b, .int .i64 y] w fun e w' => e = .returned (.int .i64 (ordS a x b y)) ∧ w' = w := by
  unfold ordS
  by_cases h1 : a < b
  · rw [if_pos (.inl h1)]
    go_enter Tryz.func94, Tryz.ntmps94
    go_wp2_with fail
    go_ret
    exact ⟨rfl, rfl⟩
  · by_cases h2 : a = b
    · subst h2
      by_cases h3 : x < y
      · rw [if_pos (.inr ⟨rfl, h3⟩)]
        go_enter Tryz.func94, Tryz.ntmps94
        go_wp2_with fail
        go_ret
        exact ⟨rfl, rfl⟩
      · rw [if_neg (by omega)]
        by_cases h4 : x = y
        · subst h4
          rw [if_pos ⟨rfl, rfl⟩]
          go_enter Tryz.func94, Tryz.ntmps94
          go_wp2_with fail
          go_ret
          exact ⟨rfl, rfl⟩
        · rw [if_neg (fun q => h4 q.2)]
          go_enter Tryz.func94, Tryz.ntmps94
          go_wp2_with fail
          go_ret
          exact ⟨rfl, rfl⟩
    · rw [if_neg (by omega), if_neg (fun q => h2 q.1)]
      go_enter Tryz.func94, Tryz.ntmps94
      go_wp2_with fail
      go_ret
      exact ⟨rfl, rfl⟩
theorem days_bd' {y m d : Int} (y0 : -10000000000 < y) (y1 : y < 10000000000) (m0 : -10000000000 < m) (m1 : m < 10000000000) (d0 : -10000000000 < d) (d1 : d < 10000000000) : -50000000000000 < daysS y m d ∧ daysS y m d < 50000000000000 := by
  unfold daysS dayN
  have hl : -20000000000 < lnY y + (m - 1) / 12 ∧ lnY y + (m - 1) / 12 < 20000000000 := by unfold lnY; split <;> omega
  generalize lnY y + (m - 1) / 12 = l at *
  rw [Nat.add_sub_cancel]
  have := cum_nonneg l ((m - 1) % 12).toNat
  have := cum_le l (show ((m - 1) % 12).toNat ≤ 12 by omega)
  have ha : -20000000000000 < ahd l ∧ ahd l < 20000000000000 := by unfold ahd; omega
  have hb : ahd 2000 = 730485 := by decide
  omega
set_option maxHeartbeats 400000 in
theorem seconds_r (a : Mo) (z : Int) (w : World) (ha : MoB a) (z0 : -1000000 < z) (z1 : z < 1000000) : Calls Tryz.prog 95 #[moV a, .int .i64 z] w fun e w' => e = .returned (.int .i64 (linS a z)) ∧ Below w.heap.size w w' := by
  obtain ⟨k, y, m, d, s, n, hz, zz⟩ := a
  obtain ⟨y0, y1, m0, m1, d0, d1, s0, s1, n0, n1⟩ := ha
  dsimp only at *
  have q1 := fun W : World => days_r y m d W (by omega) (by omega) (by omega) (by omega) (by omega) (by omega)
  have hb := days_bd' y0 y1 m0 m1 d0 d1
  unfold linS
  dsimp only
  have HC : Hid _ := And.intro q1 trivial
  clear q1
  generalize daysS y m d = D at *
  obtain ⟨hb0, hb1⟩ := hb
  go_enter Tryz.func95, Tryz.ntmps95
  go_wp2_with fail
  go_quiet ((go_at_call 84; exact Calls.quiet_of_same (HC.out.1 _)))
  go_wp2_with fail
  go_ret
  exact ⟨rfl, bdrewN ((Below.refl _ _).alloc (Nat.le_refl _) _) _⟩
set_option maxHeartbeats 2000000 in
theorem cmp_r1 (a b : Mo) (w : World) (ha : MoL a) (hb : MoL b) (hcase : a.k ≠ b.k ∨ a.hz = b.hz ∨ a.hz = true) : Calls Tryz.prog 53 #[moV a, moV b] w fun e w' => e = .returned (.int .i64 (cmpM a b)) ∧ Below w.heap.size w w' := by
  obtain ⟨x1, x2, hb0⟩ := box2 w (.cells (moC a) 44) (.cells (moC b) 44)
  have q0 := fun W : World => seconds_r a a.z W ha.b ha.z0 ha.z1
  have q1 := fun W : World => seconds_r b b.z W hb.b hb.z0 hb.z1
  have q2 := fun W : World => order_r (linS a a.z) a.n (linS b b.z) b.n W
  have q3 := fun W : World => seconds_r b 840 W hb.b (by omega) (by omega)
  have q4 := fun W : World => order_r (linS a a.z) a.n (linS b 840) b.n W
  have q5 := fun W : World => seconds_r b (-840) W hb.b (by omega) (by omega)
  have q6 := fun W : World => order_r (linS a a.z) a.n (linS b (-840)) b.n W
  have hF : a.k = b.k → a.hz = b.hz → cmpM a b = ordS (linS a a.z) a.n (linS b b.z) b.n := cmp_eq
  have hG : ¬ a.k = b.k → cmpM a b = 2 := fun h => by unfold cmpM; rw [if_pos h]
  have hE : a.k = b.k → a.hz = true → b.hz = false → cmpM a b = if ordS (linS a a.z) a.n (linS b 840) b.n = ordS (linS a a.z) a.n (linS b (-840)) b.n ∧ ordS (linS a a.z) a.n (linS b 840) b.n ≠ 0 then ordS (linS a a.z) a.n (linS b 840) b.n else 2 := fun h1 h2 h3 => cmp_mix h1 h2 h3
  generalize ordS (linS a a.z) a.n (linS b b.z) b.n = R0 at *
  generalize ordS (linS a a.z) a.n (linS b 840) b.n = R1 at *
  generalize ordS (linS a a.z) a.n (linS b (-840)) b.n = R2 at *
  generalize linS a a.z = LA at *
  generalize linS b b.z = LB at *
  generalize linS b 840 = LC at *
  generalize linS b (-840) = LD at *
  have HC : Hid _ := And.intro q0 (And.intro q1 (And.intro q2 (And.intro q3 (And.intro q4 (And.intro q5 (And.intro q6 hb0))))))
  clear q0 q1 q2 q3 q4 q5 q6 hb0 ha hb
  generalize cmpM a b = R at *
  have HE : Hid _ := And.intro hE (And.intro hF hG)
  clear hE hF hG
  generalize hU : ((w.alloc (.cells (moC a) 44)).alloc (.cells (moC b) 44)) = U at *
  have hkp : ∀ W, Below U.heap.size U W → (W.cell? ⟨w.heap.size, 0, none⟩ = some (.int .i64 a.k) ∧ W.cell? ⟨w.heap.size, 1, none⟩ = some (.int .i64 a.y) ∧ W.cell? ⟨w.heap.size, 2, none⟩ = some (.int .i64 a.m) ∧ W.cell? ⟨w.heap.size, 3, none⟩ = some (.int .i64 a.d) ∧ W.cell? ⟨w.heap.size, 4, none⟩ = some (.int .i64 a.s) ∧ W.cell? ⟨w.heap.size, 5, none⟩ = some (.int .i64 a.n) ∧ W.cell? ⟨w.heap.size, 6, none⟩ = some (.bool a.hz) ∧ W.cell? ⟨w.heap.size, 7, none⟩ = some (.int .i64 a.z) ∧ W.cell? ⟨w.heap.size + 1, 0, none⟩ = some (.int .i64 b.k) ∧ W.cell? ⟨w.heap.size + 1, 1, none⟩ = some (.int .i64 b.y) ∧ W.cell? ⟨w.heap.size + 1, 2, none⟩ = some (.int .i64 b.m) ∧ W.cell? ⟨w.heap.size + 1, 3, none⟩ = some (.int .i64 b.d) ∧ W.cell? ⟨w.heap.size + 1, 4, none⟩ = some (.int .i64 b.s) ∧ W.cell? ⟨w.heap.size + 1, 5, none⟩ = some (.int .i64 b.n) ∧ W.cell? ⟨w.heap.size + 1, 6, none⟩ = some (.bool b.hz) ∧ W.cell? ⟨w.heap.size + 1, 7, none⟩ = some (.int .i64 b.z)) := fun W hW => by
    obtain ⟨⟨g0, g1, g2, g3, g4, g5, g6, g7⟩, _⟩ := blk8 ((hW.block _ (lt_of x1)).trans x1)
    obtain ⟨⟨h0, h1, h2, h3, h4, h5, h6, h7⟩, _⟩ := blk8 ((hW.block _ (lt_of x2)).trans x2)
    exact ⟨g0, g1, g2, g3, g4, g5, g6, g7, h0, h1, h2, h3, h4, h5, h6, h7⟩
  have HKP : Hid _ := hkp
  clear hkp x1 x2
  have HU : Hid _ := hU
  clear hU
  by_cases hk : a.k = b.k
  · have hkk : (a.k == b.k) = true := by simpa using hk
    have hkn : (a.k != b.k) = false := by simpa using hk
    by_cases hz : a.hz = b.hz
    · obtain rfl := HE.out.2.1 hk hz
      have hzz : (a.hz == b.hz) = true := by simpa using hz
      clear hk hz HE hcase
      go_enter Tryz.func53, Tryz.ntmps53
      go_wp2_with fail
      have hU := HU.out
      rw [hU]
      clear hU
      obtain ⟨g0, g1, g2, g3, g4, g5, g6, g7, h0, h1, h2, h3, h4, h5, h6, h7⟩ := HKP.out U.drew (below_drewN 1)
      have HB : Hid (Below U.heap.size U U.drew) := below_drewN 1
      go_region_held3 (fun W => W.cell? ⟨w.heap.size, 0, none⟩ = some (.int .i64 a.k) ∧ W.cell? ⟨w.heap.size, 1, none⟩ = some (.int .i64 a.y) ∧ W.cell? ⟨w.heap.size, 2, none⟩ = some (.int .i64 a.m) ∧ W.cell? ⟨w.heap.size, 3, none⟩ = some (.int .i64 a.d) ∧ W.cell? ⟨w.heap.size, 4, none⟩ = some (.int .i64 a.s) ∧ W.cell? ⟨w.heap.size, 5, none⟩ = some (.int .i64 a.n) ∧ W.cell? ⟨w.heap.size, 6, none⟩ = some (.bool a.hz) ∧ W.cell? ⟨w.heap.size, 7, none⟩ = some (.int .i64 a.z) ∧ W.cell? ⟨w.heap.size + 1, 0, none⟩ = some (.int .i64 b.k) ∧ W.cell? ⟨w.heap.size + 1, 1, none⟩ = some (.int .i64 b.y) ∧ W.cell? ⟨w.heap.size + 1, 2, none⟩ = some (.int .i64 b.m) ∧ W.cell? ⟨w.heap.size + 1, 3, none⟩ = some (.int .i64 b.d) ∧ W.cell? ⟨w.heap.size + 1, 4, none⟩ = some (.int .i64 b.s) ∧ W.cell? ⟨w.heap.size + 1, 5, none⟩ = some (.int .i64 b.n) ∧ W.cell? ⟨w.heap.size + 1, 6, none⟩ = some (.bool b.hz) ∧ W.cell? ⟨w.heap.size + 1, 7, none⟩ = some (.int .i64 b.z)) (first | exact ⟨g0, g1, g2, g3, g4, g5, g6, g7, h0, h1, h2, h3, h4, h5, h6, h7⟩ | fail) (first
        | (go_at_call 95; (with_reducible refine Calls.mono (HC.out.1 _) ?_); rintro e w1 ⟨rfl, hb1⟩; have hbb := HB.out.trans (hb1.mono HB.out.size); clear HB g0 g1 g2 g3 g4 g5 g6 g7 h0 h1 h2 h3 h4 h5 h6 h7; obtain ⟨g0, g1, g2, g3, g4, g5, g6, g7, h0, h1, h2, h3, h4, h5, h6, h7⟩ := HKP.out _ hbb; have HB : Hid _ := hbb; clear hbb hb1)
        | (go_at_call 95; (with_reducible refine Calls.mono (HC.out.2.1 _) ?_); rintro e w1 ⟨rfl, hb1⟩; have hbb := HB.out.trans (hb1.mono HB.out.size); clear HB g0 g1 g2 g3 g4 g5 g6 g7 h0 h1 h2 h3 h4 h5 h6 h7; obtain ⟨g0, g1, g2, g3, g4, g5, g6, g7, h0, h1, h2, h3, h4, h5, h6, h7⟩ := HKP.out _ hbb; have HB : Hid _ := hbb; clear hbb hb1)
        | (go_at_call 94; (with_reducible refine Calls.mono (HC.out.2.2.1 _) ?_); rintro e w3 ⟨rfl, hw3⟩; subst hw3)
        | fail)
      go_wp2_with fail
      go_ret
      exact ⟨rfl, HC.out.2.2.2.2.2.2.2.trans (HB.out.mono HC.out.2.2.2.2.2.2.2.size)⟩
    · have haz : a.hz = true := by
        rcases hcase with q | q | q
        · exact absurd hk q
        · exact absurd q hz
        · exact q
      have hbz : b.hz = false := by
        cases hq : b.hz
        · rfl
        · rw [haz, hq] at hz; exact absurd rfl hz
      have HR : Hid _ := HE.out.1 hk haz hbz
      clear hk hz HE hcase
      obtain ⟨ak, ay, am, ad, as_, an, ah, az⟩ := a
      obtain ⟨bk, byy, bm, bd, bs, bn, bh, bz⟩ := b
      dsimp only at *
      subst haz hbz
      go_enter Tryz.func53, Tryz.ntmps53
      go_wp2_with fail
      have hU := HU.out
      rw [hU]
      clear hU
      obtain ⟨g0, g1, g2, g3, g4, g5, g6, g7, h0, h1, h2, h3, h4, h5, h6, h7⟩ := HKP.out U.drew (below_drewN 1)
      have HB : Hid (Below U.heap.size U U.drew) := below_drewN 1
      go_region_held3 (fun W => W.cell? ⟨w.heap.size, 0, none⟩ = some (.int .i64 ak) ∧ W.cell? ⟨w.heap.size, 1, none⟩ = some (.int .i64 ay) ∧ W.cell? ⟨w.heap.size, 2, none⟩ = some (.int .i64 am) ∧ W.cell? ⟨w.heap.size, 3, none⟩ = some (.int .i64 ad) ∧ W.cell? ⟨w.heap.size, 4, none⟩ = some (.int .i64 as_) ∧ W.cell? ⟨w.heap.size, 5, none⟩ = some (.int .i64 an) ∧ W.cell? ⟨w.heap.size, 6, none⟩ = some (.bool true) ∧ W.cell? ⟨w.heap.size, 7, none⟩ = some (.int .i64 az) ∧ W.cell? ⟨w.heap.size + 1, 0, none⟩ = some (.int .i64 bk) ∧ W.cell? ⟨w.heap.size + 1, 1, none⟩ = some (.int .i64 byy) ∧ W.cell? ⟨w.heap.size + 1, 2, none⟩ = some (.int .i64 bm) ∧ W.cell? ⟨w.heap.size + 1, 3, none⟩ = some (.int .i64 bd) ∧ W.cell? ⟨w.heap.size + 1, 4, none⟩ = some (.int .i64 bs) ∧ W.cell? ⟨w.heap.size + 1, 5, none⟩ = some (.int .i64 bn) ∧ W.cell? ⟨w.heap.size + 1, 6, none⟩ = some (.bool false) ∧ W.cell? ⟨w.heap.size + 1, 7, none⟩ = some (.int .i64 bz)) (first | exact ⟨g0, g1, g2, g3, g4, g5, g6, g7, h0, h1, h2, h3, h4, h5, h6, h7⟩ | fail) (first
        | (go_at_call 95; (with_reducible refine Calls.mono (HC.out.1 _) ?_); rintro e w1 ⟨rfl, hb1⟩; have hbb := HB.out.trans (hb1.mono HB.out.size); clear HB g0 g1 g2 g3 g4 g5 g6 g7 h0 h1 h2 h3 h4 h5 h6 h7; obtain ⟨g0, g1, g2, g3, g4, g5, g6, g7, h0, h1, h2, h3, h4, h5, h6, h7⟩ := HKP.out _ hbb; have HB : Hid _ := hbb; clear hbb hb1)
        | (go_at_call 95; (with_reducible refine Calls.mono (HC.out.2.2.2.1 _) ?_); rintro e w1 ⟨rfl, hb1⟩; have hbb := HB.out.trans (hb1.mono HB.out.size); clear HB g0 g1 g2 g3 g4 g5 g6 g7 h0 h1 h2 h3 h4 h5 h6 h7; obtain ⟨g0, g1, g2, g3, g4, g5, g6, g7, h0, h1, h2, h3, h4, h5, h6, h7⟩ := HKP.out _ hbb; have HB : Hid _ := hbb; clear hbb hb1)
        | (go_at_call 94; (with_reducible refine Calls.mono (HC.out.2.2.2.2.1 _) ?_); rintro e w3 ⟨rfl, hw3⟩; subst hw3)
        | fail)
      go_wp2_with fail
      have HB2 : Hid (Below U.heap.size U w3.drew) := bdrewN HB.out 1
      clear HB g0 g1 g2 g3 g4 g5 g6 g7 h0 h1 h2 h3 h4 h5 h6 h7
      obtain ⟨g0, g1, g2, g3, g4, g5, g6, g7, h0, h1, h2, h3, h4, h5, h6, h7⟩ := HKP.out w3.drew HB2.out
      have HB : Hid _ := HB2.out
      go_region_held3 (fun W => W.cell? ⟨w.heap.size, 0, none⟩ = some (.int .i64 ak) ∧ W.cell? ⟨w.heap.size, 1, none⟩ = some (.int .i64 ay) ∧ W.cell? ⟨w.heap.size, 2, none⟩ = some (.int .i64 am) ∧ W.cell? ⟨w.heap.size, 3, none⟩ = some (.int .i64 ad) ∧ W.cell? ⟨w.heap.size, 4, none⟩ = some (.int .i64 as_) ∧ W.cell? ⟨w.heap.size, 5, none⟩ = some (.int .i64 an) ∧ W.cell? ⟨w.heap.size, 6, none⟩ = some (.bool true) ∧ W.cell? ⟨w.heap.size, 7, none⟩ = some (.int .i64 az) ∧ W.cell? ⟨w.heap.size + 1, 0, none⟩ = some (.int .i64 bk) ∧ W.cell? ⟨w.heap.size + 1, 1, none⟩ = some (.int .i64 byy) ∧ W.cell? ⟨w.heap.size + 1, 2, none⟩ = some (.int .i64 bm) ∧ W.cell? ⟨w.heap.size + 1, 3, none⟩ = some (.int .i64 bd) ∧ W.cell? ⟨w.heap.size + 1, 4, none⟩ = some (.int .i64 bs) ∧ W.cell? ⟨w.heap.size + 1, 5, none⟩ = some (.int .i64 bn) ∧ W.cell? ⟨w.heap.size + 1, 6, none⟩ = some (.bool false) ∧ W.cell? ⟨w.heap.size + 1, 7, none⟩ = some (.int .i64 bz)) (first | exact ⟨g0, g1, g2, g3, g4, g5, g6, g7, h0, h1, h2, h3, h4, h5, h6, h7⟩ | fail) (first
        | (go_at_call 95; (with_reducible refine Calls.mono (HC.out.1 _) ?_); rintro e w1 ⟨rfl, hb1⟩; have hbb := HB.out.trans (hb1.mono HB.out.size); clear HB g0 g1 g2 g3 g4 g5 g6 g7 h0 h1 h2 h3 h4 h5 h6 h7; obtain ⟨g0, g1, g2, g3, g4, g5, g6, g7, h0, h1, h2, h3, h4, h5, h6, h7⟩ := HKP.out _ hbb; have HB : Hid _ := hbb; clear hbb hb1)
        | (go_at_call 95; (with_reducible refine Calls.mono (HC.out.2.2.2.2.2.1 _) ?_); rintro e w1 ⟨rfl, hb1⟩; have hbb := HB.out.trans (hb1.mono HB.out.size); clear HB g0 g1 g2 g3 g4 g5 g6 g7 h0 h1 h2 h3 h4 h5 h6 h7; obtain ⟨g0, g1, g2, g3, g4, g5, g6, g7, h0, h1, h2, h3, h4, h5, h6, h7⟩ := HKP.out _ hbb; have HB : Hid _ := hbb; clear hbb hb1)
        | (go_at_call 94; (with_reducible refine Calls.mono (HC.out.2.2.2.2.2.2.1 _) ?_); rintro e w3 ⟨rfl, hw3⟩; subst hw3)
        | fail)
      by_cases hq : R1 = R2
      · have hqb : (R1 == R2) = true := by simpa using hq
        by_cases hq0 : R1 = 0
        · have hq0b : (R1 != 0) = false := by simpa using hq0
          have hR : R = 2 := by rw [HR.out, if_neg (fun q => q.2 hq0)]
          clear hq hq0
          go_wp2_with fail
          go_ret
          exact ⟨ret_int hR.symm, HC.out.2.2.2.2.2.2.2.trans (HB.out.mono HC.out.2.2.2.2.2.2.2.size)⟩
        · have hq0b : (R1 != 0) = true := by simpa using hq0
          have hR : R = R1 := by rw [HR.out, if_pos ⟨hq, hq0⟩]
          have HRR : Hid _ := hR
          clear hq hq0 hR
          go_wp2_with fail
          go_ret
          exact ⟨ret_int HRR.out.symm, HC.out.2.2.2.2.2.2.2.trans (HB.out.mono HC.out.2.2.2.2.2.2.2.size)⟩
      · have hqb : (R1 == R2) = false := by simpa using hq
        have hR : R = 2 := by rw [HR.out, if_neg (fun q => hq q.1)]
        clear hq
        go_wp2_with fail
        go_ret
        exact ⟨ret_int hR.symm, HC.out.2.2.2.2.2.2.2.trans (HB.out.mono HC.out.2.2.2.2.2.2.2.size)⟩
  · obtain rfl := HE.out.2.2 hk
    have hkk : (a.k == b.k) = false := by simpa using hk
    have hkn : (a.k != b.k) = true := by simpa using hk
    clear hk HE hcase
    go_enter Tryz.func53, Tryz.ntmps53
    go_wp2_with fail
    go_ret
    refine ⟨rfl, ?_⟩
    rw [HU.out]
    exact HC.out.2.2.2.2.2.2.2
set_option maxHeartbeats 1000000 in
theorem cmp_r (a b : Mo) (w : World) (ha : MoL a) (hb : MoL b) : Calls Tryz.prog 53 #[moV a, moV b] w fun e w' => e = .returned (.int .i64 (cmpM a b)) ∧ Below w.heap.size w w' := by
  by_cases hcase : a.k ≠ b.k ∨ a.hz = b.hz ∨ a.hz = true
  · exact cmp_r1 a b w ha hb hcase
  · have hk : a.k = b.k := Classical.byContradiction fun q => hcase (.inl q)
    have hz : a.hz ≠ b.hz := fun q => hcase (.inr (.inl q))
    have haz : a.hz = false := by
      cases q : a.hz
      · rfl
      · exact absurd (.inr (.inr q)) hcase
    have hbz : b.hz = true := by
      cases q : b.hz
      · rw [haz, q] at hz; exact absurd rfl hz
      · rfl
    have q1 := fun W : World => cmp_r1 b a W hb ha (.inr (.inr hbz))
    have hturn := cmp_turn b a
    have hin := cmp_in b a
    obtain ⟨x1, x2, hb0⟩ := box2 w (.cells (moC a) 44) (.cells (moC b) 44)
    generalize cmpM b a = R1 at *
    generalize cmpM a b = R at *
    have HC : Hid _ := And.intro q1 (And.intro hturn hb0)
    have hkk : (a.k == b.k) = true := by simpa using hk
    have hkn : (a.k != b.k) = false := by simpa using hk
    clear hcase hk hz q1 hturn ha hb x1 x2 hb0
    obtain ⟨ak, ay, am, ad, as_, an, ah, az⟩ := a
    obtain ⟨bk, byy, bm, bd, bs, bn, bh, bz⟩ := b
    dsimp only at *
    subst haz hbz
    have hR1 : -1 ≤ R1 ∧ R1 ≤ 2 := by omega
    obtain ⟨hR10, hR11⟩ := hR1
    clear hin
    by_cases h2 : R1 = 2
    · have hR : R = 2 := by rw [HC.out.2.1, if_pos h2]
      have h2b : (R1 == 2) = true := by simpa using h2
      have HR : Hid _ := hR
      clear h2 hR
      go_enter Tryz.func53, Tryz.ntmps53
      go_wp2_with fail
      refine Calls.mono (HC.out.1 _) ?_
      rintro e w1 ⟨rfl, hb1⟩
      have HB : Hid _ := HC.out.2.2.trans (hb1.mono HC.out.2.2.size)
      clear hb1
      go_wp2_with fail
      go_ret
      exact ⟨ret_int HR.out.symm, HB.out⟩
    · have hR : R = -R1 := by rw [HC.out.2.1, if_neg h2]
      have h2b : (R1 == 2) = false := by simpa using h2
      have HR : Hid _ := hR
      clear h2 hR
      go_enter Tryz.func53, Tryz.ntmps53
      go_wp2_with fail
      refine Calls.mono (HC.out.1 _) ?_
      rintro e w1 ⟨rfl, hb1⟩
      have HB : Hid _ := HC.out.2.2.trans (hb1.mono HC.out.2.2.size)
      clear hb1
      go_wp2_with fail
      go_ret
      exact ⟨ret_int HR.out.symm, HB.out⟩
end Go.Proofs.YtgaegajcejpmdaaGreatDoor.Dt
namespace Go.Proofs.YtgaegajcejpmdaaGreatDoor.Dt
open Go.RowKit
set_option linter.unusedVariables false

structure CB (w U : World) (a b : Sp) : Prop where
  x1 : U.heap[w.heap.size]? = some (.cells (spC a) 45 (0, 0))
  x2 : U.heap[w.heap.size + 1]? = some (.cells (spC b) 45 (0, 0))
  x3 : U.heap[w.heap.size + 1 + 1]? = some (.cells #[.int .i64 1696, .int .i64 1697, .int .i64 1903, .int .i64 1903] 3 (0, 0))
  x4 : U.heap[w.heap.size + 1 + 1 + 1]? = some (.cells #[.int .i64 9, .int .i64 2, .int .i64 3, .int .i64 7] 3 (0, 0))
  hb : Below w.heap.size w U
theorem CB.below {w U U' : World} {a b : Sp} (h : CB w U a b) (hb : Below U.heap.size U U') : CB w U' a b :=
  ⟨(hb.block _ (lt_of h.x1)).trans h.x1, (hb.block _ (lt_of h.x2)).trans h.x2, (hb.block _ (lt_of h.x3)).trans h.x3, (hb.block _ (lt_of h.x4)).trans h.x4, h.hb.trans (hb.mono h.hb.size)⟩
theorem CB.init (w : World) (a b : Sp) : CB w ((((w.alloc (.cells (spC a) 45)).alloc (.cells (spC b) 45)).alloc (.cells #[.int .i64 1696, .int .i64 1697, .int .i64 1903, .int .i64 1903] 3)).alloc (.cells #[.int .i64 9, .int .i64 2, .int .i64 3, .int .i64 7] 3)) a b := by
  obtain ⟨x1, x2, x3, hb⟩ := box3 w (.cells (spC a) 45) (.cells (spC b) 45) (.cells #[.int .i64 1696, .int .i64 1697, .int .i64 1903, .int .i64 1903] 3)
  have hs : (((w.alloc (.cells (spC a) 45)).alloc (.cells (spC b) 45)).alloc (.cells #[.int .i64 1696, .int .i64 1697, .int .i64 1903, .int .i64 1903] 3)).heap.size = w.heap.size + 3 := by simp
  generalize (((w.alloc (.cells (spC a) 45)).alloc (.cells (spC b) 45)).alloc (.cells #[.int .i64 1696, .int .i64 1697, .int .i64 1903, .int .i64 1903] 3)) = V at *
  have hn := nw_heap V (.cells #[.int .i64 9, .int .i64 2, .int .i64 3, .int .i64 7] 3)
  have hv : Below V.heap.size V (V.alloc (.cells #[.int .i64 9, .int .i64 2, .int .i64 3, .int .i64 7] 3)) := (Below.refl _ _).alloc (Nat.le_refl _) _
  rw [hs] at hn
  exact ⟨(hv.block _ (lt_of x1)).trans x1, (hv.block _ (lt_of x2)).trans x2, (hv.block _ (lt_of x3)).trans x3, hn, hb.trans (hv.mono hb.size)⟩
end Go.Proofs.YtgaegajcejpmdaaGreatDoor.Dt
namespace Go.Proofs.YtgaegajcejpmdaaGreatDoor.Dt
open Go.RowKit
set_option linter.unusedVariables false

/-- The reader's block: a text, a place, whether it is none. -/
def RdAt (w : World) (X : Nat) (s : ByteArray) (p : Nat) (b : Bool) : Prop := w.heap[X]? = some (.cells #[.string s, .int .i64 (p : Int), .bool b] 103 (0, 0))
theorem RdAt.cells {w : World} {X : Nat} {s : ByteArray} {p : Nat} {b : Bool} (h : RdAt w X s p b) : w.cell? ⟨X, 0, none⟩ = some (.string s) ∧ w.cell? ⟨X, 1, none⟩ = some (.int .i64 (p : Int)) ∧ w.cell? ⟨X, 2, none⟩ = some (.bool b) ∧ w.frozen? ⟨X, 0, none⟩ = false ∧ w.frozen? ⟨X, 1, none⟩ = false ∧ w.frozen? ⟨X, 2, none⟩ = false := by
  unfold RdAt at h
  refine ⟨?_, ?_, ?_, ?_, ?_, ?_⟩ <;> simp [World.cell?, World.frozen?, h]
theorem RdAt.drew {w : World} {X : Nat} {s : ByteArray} {p : Nat} {b : Bool} (h : RdAt w X s p b) (q : Nat) : RdAt (w.drewN q) X s p b := h
theorem RdAt.at {w : World} {X : Nat} {s : ByteArray} {p : Nat} {b : Bool} (h : RdAt w X s p b) (p' : Nat) : RdAt (w.setCell ⟨X, 1, none⟩ (.int .i64 (p' : Int))) X s p' b := by
  have := bset (i := 1) h (.int .i64 (p' : Int))
  simp only [List.setIfInBounds_toArray, List.set_cons_zero, List.set_cons_succ] at this
  exact this
theorem RdAt.bad {w : World} {X : Nat} {s : ByteArray} {p : Nat} {b : Bool} (h : RdAt w X s p b) (b' : Bool) : RdAt (w.setCell ⟨X, 2, none⟩ (.bool b')) X s p b' := by
  have := bset (i := 2) h (.bool b')
  simp only [List.setIfInBounds_toArray, List.set_cons_zero, List.set_cons_succ] at this
  exact this
/-- A byte stands here. -/
def isB (l : List Int) (p : Nat) (c : Int) : Bool := decide ((l.drop p).head? = some c)
theorem isB_no {s : ByteArray} {p : Nat} (h : s.size ≤ p) (c : Int) : isB (bl s) p c = false := by
  unfold isB
  rw [List.drop_eq_nil_of_le (by rw [bl_len]; exact h)]
  rfl
theorem isB_at {s : ByteArray} {p : Nat} (h : p < s.size) (c : Int) : isB (bl s) p c = (((s[p]'h).toNat : Int) == c) := by
  unfold isB
  rw [bl_drop s p h]
  rw [Bool.eq_iff_iff]
  simp
set_option maxHeartbeats 800000 in
theorem is_r (X : Nat) (s : ByteArray) (p : Nat) (b : Bool) (c : Int) (w : World) (hx : RdAt w X s p b) (hs : s.size ≤ maxLen) : Calls Tryz.prog 72 #[.pointer (some ⟨X, 0, none⟩), .int .u8 c] w fun e w' => e = .returned (.bool (isB (bl s) p c)) ∧ ∃ q, w' = w.drewN q := by
  unfold maxLen at hs
  obtain ⟨g0, g1, g2, _⟩ := hx.cells
  by_cases hlt : p < s.size
  · have hd : decide ((p : Int) < (s.size : Int)) = true := by simp; omega
    rw [isB_at hlt]
    go_enter Tryz.func72, Tryz.ntmps72
    go_wp2_with fail
    go_quiet (fail)
    go_wp2_with fail
    go_ret
    exact ⟨rfl, _, rfl⟩
  · have hd : decide ((p : Int) < (s.size : Int)) = false := by simp; omega
    rw [isB_no (by omega)]
    go_enter Tryz.func72, Tryz.ntmps72
    go_wp2_with fail
    go_quiet (fail)
    go_wp2_with fail
    go_ret
    exact ⟨rfl, _, rfl⟩
/-- What a step of the reader leaves: it moves on, or is bad; nothing else turns. -/
structure RP (X : Nat) (s : ByteArray) (b : Bool) (w w' : World) (p' : Nat) (b' : Bool) : Prop where
  x : RdAt w' X s p' b'
  le : p' ≤ s.size
  fr : Fro (fun i => i = X) w w'
  st : b = true → b' = true
theorem tk_is (s : ByteArray) (p : Nat) (c : Int) : tkB c ((bl s).drop p) = if isB (bl s) p c = true then some ((bl s).drop (p + 1)) else none := by
  unfold tkB isB
  simp only [decide_eq_true_eq]
  split
  · rw [List.tail_drop]
  · rfl
def TkP (X : Nat) (s : ByteArray) (p : Nat) (b : Bool) (c : Int) (w : World) (e : Ending) (w' : World) : Prop := ∃ p' b', e = .returned (.tuple #[]) ∧ RP X s b w w' p' b' ∧ (∀ r, tkB c ((bl s).drop p) = some r → b' = b ∧ r = (bl s).drop p') ∧ (tkB c ((bl s).drop p) = none → b' = true)
set_option maxHeartbeats 800000 in
theorem take_r (X : Nat) (s : ByteArray) (p : Nat) (b : Bool) (c : Int) (w : World) (hx : RdAt w X s p b) (hs : s.size ≤ maxLen) (hp : p ≤ s.size) : Calls Tryz.prog 73 #[.pointer (some ⟨X, 0, none⟩), .int .u8 c] w fun e w' => TkP X s p b c w e w' := by
  have q1 := is_r X s p b c w hx hs
  have ht := tk_is s p c
  unfold maxLen at hs
  have hpl : isB (bl s) p c = true → p < s.size := fun h => by
    rcases Nat.lt_or_ge p s.size with h1 | h1
    · exact h1
    · rw [isB_no h1] at h; exact absurd h (by simp)
  generalize hI : isB (bl s) p c = I at *
  clear hI
  have HX : Hid _ := And.intro hx (And.intro q1 (And.intro hpl ht))
  clear hx q1 hpl ht
  cases I
  · go_enter Tryz.func73, Tryz.ntmps73
    go_wp2_with fail
    refine Calls.mono HX.out.2.1 ?_
    rintro e w1 ⟨rfl, q, rfl⟩
    have hx1 := HX.out.1.drew q
    obtain ⟨g0, g1, g2, f0, f1, f2⟩ := hx1.cells
    have HY : Hid _ := hx1
    clear hx1
    go_wp2_with fail
    have hb := RdAt.bad (w := w.drewN q) (X := X) (s := s) (p := p) (b := b) HY.out true
    refine bodyPost_ret (v := .tuple #[]) (by simp [results, Tryz.results73, go_sem]) rfl ?_
    exact ⟨p, true, rfl, ⟨hb, hp, ((Fro.refl (fun i => i = X) w).drewN q).set (Or.inl rfl) _, fun _ => rfl⟩, fun r hr => by rw [HX.out.2.2.2] at hr; simp at hr, fun _ => rfl⟩
  · have hlt := HX.out.2.2.1 rfl
    go_enter Tryz.func73, Tryz.ntmps73
    go_wp2_with fail
    refine Calls.mono HX.out.2.1 ?_
    rintro e w1 ⟨rfl, q, rfl⟩
    have hx1 := HX.out.1.drew q
    obtain ⟨g0, g1, g2, f0, f1, f2⟩ := hx1.cells
    have HY : Hid _ := hx1
    clear hx1
    go_wp2_with fail
    have hb := RdAt.at (w := w.drewN q) (X := X) (s := s) (p := p) (b := b) HY.out (p + 1)
    refine bodyPost_end (v := .tuple #[]) (by simp [results, Tryz.results73, go_sem]) rfl ?_
    exact ⟨p + 1, b, rfl, ⟨hb, hlt, ((Fro.refl (fun i => i = X) w).drewN q).set (Or.inl rfl) _, fun h => h⟩, fun r hr => by rw [HX.out.2.2.2] at hr; simp at hr; exact ⟨rfl, hr.symm⟩, fun hr => by rw [HX.out.2.2.2] at hr; simp at hr⟩
end Go.Proofs.YtgaegajcejpmdaaGreatDoor.Dt
namespace Go.Proofs.YtgaegajcejpmdaaGreatDoor.Dt
open Go.RowKit
set_option linter.unusedVariables false

theorem dr_get (s : ByteArray) (p j : Nat) (h : p + j < s.size) (h' : j < ((bl s).drop p).length) : ((bl s).drop p)[j] = ((s[p + j]'h).toNat : Int) := by
  rw [List.getElem_drop, bl_get s (p + j) h (by rw [bl_len]; exact h)]
theorem drew2 (w : World) (a b : Nat) : (w.drewN a).drewN b = w.drewN (a + b) := by
  simp [World.drewN, Nat.add_comm, Nat.add_left_comm]
theorem dr_len (s : ByteArray) (p : Nat) : ((bl s).drop p).length = s.size - p := by rw [List.length_drop, bl_len]
set_option maxHeartbeats 2000000 in
theorem digits_r (X : Nat) (s : ByteArray) (p : Nat) (b : Bool) (w : World) (hx : RdAt w X s p b) (hs : s.size ≤ maxLen) (hp : p ≤ s.size) : Calls Tryz.prog 75 #[.pointer (some ⟨X, 0, none⟩)] w fun e w' => e = .returned (.int .i64 (dgs ((bl s).drop p) : Nat)) ∧ ∃ q, w' = w.drewN q := by
  unfold maxLen at hs
  have hK := dgs_len ((bl s).drop p)
  rw [dr_len] at hK
  have HG : Hid (∀ j, j < dgs ((bl s).drop p) → ∀ h : p + j < s.size, 48 ≤ ((s[p + j]'h).toNat : Int) ∧ ((s[p + j]'h).toNat : Int) ≤ 57) := (fun j hj h => by
    have := dgs_get ((bl s).drop p) j hj
    rw [dr_get s p j h] at this
    simpa [isD] using this : ∀ j, j < dgs ((bl s).drop p) → ∀ h : p + j < s.size, 48 ≤ ((s[p + j]'h).toNat : Int) ∧ ((s[p + j]'h).toNat : Int) ≤ 57)
  have HE : Hid (∀ h : p + dgs ((bl s).drop p) < s.size, ¬ (48 ≤ ((s[p + dgs ((bl s).drop p)]'h).toNat : Int) ∧ ((s[p + dgs ((bl s).drop p)]'h).toNat : Int) ≤ 57)) := (fun h => by
    have hl : dgs ((bl s).drop p) < ((bl s).drop p).length := by rw [dr_len]; omega
    have := dgs_stop ((bl s).drop p) hl
    rw [dr_get s p _ h] at this
    intro q
    simp [isD, q.1, q.2] at this : ∀ h : p + dgs ((bl s).drop p) < s.size, ¬ (48 ≤ ((s[p + dgs ((bl s).drop p)]'h).toNat : Int) ∧ ((s[p + dgs ((bl s).drop p)]'h).toNat : Int) ≤ 57))
  generalize dgs ((bl s).drop p) = K at *
  have HX : Hid _ := hx
  clear hx
  go_enter Tryz.func75, Tryz.ntmps75
  go_wp2_with fail
  go_loopg [3] K (fun g v3 wr => ∃ (n q : Nat), n + g = K ∧ v3 = .int .i64 (n : Int) ∧ wr = w.drewN q)
  case atStart => exact ⟨0, 0, by omega, rfl, rfl⟩
  case round =>
    obtain ⟨n, q, hn, rfl, rfl⟩ := hrel
    obtain ⟨g0, g1, g2, _⟩ := (RdAt.drew (w := w) (X := X) (s := s) (p := p) (b := b) HX.out q).cells
    obtain ⟨gg0, gg1, gg2, _⟩ := RdAt.cells (w := w) (X := X) (s := s) (p := p) (b := b) HX.out
    obtain ⟨P, hP⟩ : ∃ P : Nat, p + n = P := ⟨_, rfl⟩
    have hsum : (p : Int) + (n : Int) = (P : Int) := by omega
    have hwr : IntKind.i64.wrap ((p : Int) + (n : Int)) = (P : Int) := by rw [IntKind.wrap_i64]; omega
    have hP1 : P ≤ s.size := by omega
    by_cases hlt : n < K
    · obtain ⟨g, rfl⟩ : ∃ g, gk = g + 1 := ⟨gk - 1, by omega⟩
      have hps : P < s.size := by omega
      subst hP
      obtain ⟨c0, c1⟩ := HG.out n hlt hps
      generalize hQ : p + n = P at *
      have k1 : decide ((P : Int) < (s.size : Int)) = true := by simp; omega
      generalize hC : s[P] = C at *
      have k2 : decide ((48 : Int) ≤ (C.toNat : Int)) = true := by simp; omega
      have k3 : decide ((C.toNat : Int) ≤ (57 : Int)) = true := by simp; omega
      have HQ : Hid _ := And.intro hQ hn
      clear hQ hn
      go_wp2_with fail
      go_quiet (fail)
      go_wp2_with fail
      go_roundg g
      case measure => omega
      case rel => exact ⟨n + 1, _, by have := HQ.out.2; omega, by simp, rfl⟩
    · have hnK : n = K := by omega
      subst hnK
      subst hP
      have HE2 := HE.out
      clear hlt hn
      by_cases hps : p + n < s.size
      · have hq := HE2 hps
        generalize hQ : p + n = P at *
        have k1 : decide ((P : Int) < (s.size : Int)) = true := by simp; omega
        generalize hC : s[P] = C at *
        by_cases c0 : (48 : Int) ≤ (C.toNat : Int)
        · have k2 : decide ((48 : Int) ≤ (C.toNat : Int)) = true := by simp; omega
          have k3 : decide ((C.toNat : Int) ≤ (57 : Int)) = false := by simp; omega
          clear HE2 hq hQ
          go_wp2_with fail
          go_quiet (fail)
          go_wp2_with fail
          go_ret
          exact ⟨rfl, _, drew2 _ _ _⟩
        · have k2 : decide ((48 : Int) ≤ (C.toNat : Int)) = false := by simp; omega
          clear HE2 hq hQ
          go_wp2_with fail
          go_quiet (fail)
          go_wp2_with fail
          go_ret
          exact ⟨rfl, _, drew2 _ _ _⟩
      · generalize hQ : p + n = P at *
        have k1 : decide ((P : Int) < (s.size : Int)) = false := by simp; omega
        clear HE2 hQ
        go_wp2_with fail
        go_quiet (fail)
        go_wp2_with fail
        go_ret
        exact ⟨rfl, _, drew2 _ _ _⟩
end Go.Proofs.YtgaegajcejpmdaaGreatDoor.Dt
namespace Go.Proofs.YtgaegajcejpmdaaGreatDoor.Dt
open Go.RowKit
set_option linter.unusedVariables false

/-- A number that is bad from the first on. -/
def NbP (X : Nat) (s : ByteArray) (p : Nat) (w : World) (e : Ending) (w' : World) : Prop := e = .returned (.int .i64 0) ∧ RP X s true w w' p true
set_option maxHeartbeats 800000 in
theorem number_bad (X : Nat) (s : ByteArray) (p : Nat) (n : Int) (w : World) (hx : RdAt w X s p true) (hp : p ≤ s.size) : Calls Tryz.prog 76 #[.pointer (some ⟨X, 0, none⟩), .int .i64 n] w fun e w' => NbP X s p w e w' := by
  obtain ⟨g0, g1, g2, f0, f1, f2⟩ := hx.cells
  have HX : Hid _ := hx
  clear hx
  go_enter Tryz.func76, Tryz.ntmps76
  go_wp2_with fail
  go_ret
  exact ⟨rfl, RdAt.bad (w := w) (X := X) (s := s) (p := p) (b := true) HX.out true, hp, (Fro.refl (fun i => i = X) w).set (Or.inl rfl) _, fun _ => rfl⟩
def NmP (X : Nat) (s : ByteArray) (p n : Nat) (w : World) (e : Ending) (w' : World) : Prop :=
  (dgs ((bl s).drop p) < n ∧ e = .returned (.int .i64 0) ∧ RP X s false w w' p true) ∨
  (n ≤ dgs ((bl s).drop p) ∧ e = .returned (.int .i64 (dvl (((bl s).drop p).take n))) ∧ RP X s false w w' (p + n) false)
set_option maxHeartbeats 2000000 in
theorem number_ok (X : Nat) (s : ByteArray) (p n : Nat) (w : World) (hx : RdAt w X s p false) (hs : s.size ≤ maxLen) (hp : p ≤ s.size) (hn : n ≤ 9) : Calls Tryz.prog 76 #[.pointer (some ⟨X, 0, none⟩), .int .i64 (n : Int)] w fun e w' => NmP X s p n w e w' := by
  have q1 := digits_r X s p false w hx hs hp
  have hK := dgs_len ((bl s).drop p)
  rw [dr_len] at hK
  have HG : Hid (∀ j, j < dgs ((bl s).drop p) → ∀ h : p + j < s.size, (48 ≤ ((s[p + j]'h).toNat : Int) ∧ ((s[p + j]'h).toNat : Int) ≤ 57) ∧ dvl (((bl s).drop p).take (j + 1)) = 10 * dvl (((bl s).drop p).take j) + (((s[p + j]'h).toNat : Int) - 48)) := (fun j hj h => by
    have hl : j < ((bl s).drop p).length := by rw [dr_len]; omega
    have := dgs_get ((bl s).drop p) j hj
    rw [dr_get s p j h] at this
    refine ⟨by simpa [isD] using this, ?_⟩
    rw [dvl_take hl, dr_get s p j h] : ∀ j, j < dgs ((bl s).drop p) → ∀ h : p + j < s.size, (48 ≤ ((s[p + j]'h).toNat : Int) ∧ ((s[p + j]'h).toNat : Int) ≤ 57) ∧ dvl (((bl s).drop p).take (j + 1)) = 10 * dvl (((bl s).drop p).take j) + (((s[p + j]'h).toNat : Int) - 48))
  have HV : Hid (∀ j, j ≤ dgs ((bl s).drop p) → j ≤ 9 → 0 ≤ dvl (((bl s).drop p).take j) ∧ dvl (((bl s).drop p).take j) < 1000000000) := (fun j hj h9 => dvl_bd hj h9 : ∀ j, j ≤ dgs ((bl s).drop p) → j ≤ 9 → 0 ≤ dvl (((bl s).drop p).take j) ∧ dvl (((bl s).drop p).take j) < 1000000000)
  unfold maxLen at hs
  obtain ⟨g0, g1, g2, f0, f1, f2⟩ := hx.cells
  have HX : Hid _ := And.intro hx q1
  clear hx q1
  obtain ⟨K, hKK⟩ : ∃ K, dgs ((bl s).drop p) = K := ⟨_, rfl⟩
  have HKK : Hid _ := hKK
  rw [hKK] at hK HX HG HV
  clear hKK
  by_cases hlt : K < n
  · have k1 : decide ((K : Int) < (n : Int)) = true := by simp; omega
    go_enter Tryz.func76, Tryz.ntmps76
    go_wp2_with fail
    refine Calls.mono HX.out.2 ?_
    rintro e w1 ⟨rfl, q, rfl⟩
    obtain ⟨g0, g1, g2, f0, f1, f2⟩ := RdAt.cells (w := w.drewN q) (X := X) (s := s) (p := p) (b := false) HX.out.1
    go_wp2_with fail
    go_ret
    exact .inl ⟨by rw [HKK.out]; exact hlt, rfl, RdAt.bad (w := w.drewN q) (X := X) (s := s) (p := p) (b := false) HX.out.1 true, hp, ((Fro.refl (fun i => i = X) w).drewN q).set (Or.inl rfl) _, fun _ => rfl⟩
  · have k1 : decide ((K : Int) < (n : Int)) = false := by simp; omega
    go_enter Tryz.func76, Tryz.ntmps76
    go_wp2_with fail
    refine Calls.mono HX.out.2 ?_
    rintro e w1 ⟨rfl, q, rfl⟩
    go_wp2_with fail
    clear g0 g1 g2 f0 f1 f2
    go_loopg [5, 6] n (fun g v5 v6 wr => ∃ (i : Nat) (V : Int), i + g = n ∧ v6 = .int .i64 (i : Int) ∧ v5 = .int .i64 V ∧ V = dvl (((bl s).drop p).take i) ∧ RdAt wr X s (p + i) false ∧ Fro (fun i => i = X) w wr)
    case atStart => exact ⟨0, 0, by omega, rfl, rfl, by simp [dvl], HX.out.1, (Fro.refl (fun i => i = X) w).drewN q⟩
    case round =>
      obtain ⟨i, V, hig, rfl, rfl, hV, hx, hfr⟩ := hrel
      have hVb := HV.out i (by omega) (by omega)
      rw [← hV] at hVb
      obtain ⟨hV0, hV1⟩ := hVb
      obtain ⟨g0, g1, g2, f0, f1, f2⟩ := hx.cells
      obtain ⟨P, hP⟩ : ∃ P : Nat, p + i = P := ⟨_, rfl⟩
      have HY : Hid _ := And.intro hx (And.intro hfr hV)
      clear hx hfr hV
      by_cases hin : i < n
      · obtain ⟨g, rfl⟩ : ∃ g, gk = g + 1 := ⟨gk - 1, by omega⟩
        have k2 : decide ((i : Int) < (n : Int)) = true := by simp; omega
        have hps : p + i < s.size := by omega
        obtain ⟨⟨c0, c1⟩, hnx⟩ := HG.out i (by omega) hps
        rw [← HY.out.2.2] at hnx
        generalize hC : s[p + i] = C at *
        rw [hP] at g1 hps
        have hC' : s[P]'hps = C := by subst hP; exact hC
        have HNX : Hid _ := And.intro hnx hP
        clear hnx hC hP
        have m1 : IntKind.i64.wrap (10 * V) = 10 * V := by rw [IntKind.wrap_i64]; omega
        have m2 : IntKind.u8.wrap ((C.toNat : Int) - 48) = (C.toNat : Int) - 48 := by rw [IntKind.wrap_u8]; omega
        have m3 : IntKind.i64.wrap ((C.toNat : Int) - 48) = (C.toNat : Int) - 48 := by rw [IntKind.wrap_i64]; omega
        have m4 : IntKind.i64.wrap (10 * V + ((C.toNat : Int) - 48)) = 10 * V + ((C.toNat : Int) - 48) := by rw [IntKind.wrap_i64]; omega
        go_wp2_with fail
        go_quiet (fail)
        obtain ⟨g0', g1', g2', f0', f1', f2'⟩ := RdAt.cells (w := wr.drewN nq) (X := X) (s := s) (p := p + i) (b := false) HY.out.1
        rw [HNX.out.2] at g1'
        go_wp2_with fail
        go_roundg g
        case measure => omega
        case rel =>
          refine ⟨i + 1, _, by omega, by simp, rfl, HNX.out.1.symm, ?_, (HY.out.2.1.drewN nq).set (Or.inl rfl) _⟩
          have hz := RdAt.at (w := wr.drewN nq) (X := X) (s := s) (p := p + i) (b := false) HY.out.1 (p + (i + 1))
          have e1 : ((p + (i + 1) : Nat) : Int) = (P : Int) + 1 := by have := HNX.out.2; omega
          unfold RdAt at hz ⊢
          rw [e1] at hz ⊢
          exact hz
      · obtain rfl : i = n := by omega
        have k2 : decide ((i : Int) < (i : Int)) = false := by simp
        go_wp2_with fail
        go_ret
        exact .inr ⟨by rw [HKK.out]; omega, ret_int HY.out.2.2, HY.out.1, by omega, HY.out.2.1, fun h => absurd h (by simp)⟩
end Go.Proofs.YtgaegajcejpmdaaGreatDoor.Dt
namespace Go.Proofs.YtgaegajcejpmdaaGreatDoor.Dt
open Go.RowKit
set_option linter.unusedVariables false

def InP (X : Nat) (s : ByteArray) (p : Nat) (b : Bool) (lo hi : Int) (w : World) (e : Ending) (w' : World) : Prop :=
  ∃ (p' : Nat) (b' : Bool) (v : Int), e = .returned (.int .i64 v) ∧ RP X s b w w' p' b' ∧ 0 ≤ v ∧ v < 100 ∧
    (b = false → (∀ x r, inB lo hi ((bl s).drop p) = some (x, r) → b' = false ∧ v = x ∧ r = (bl s).drop p') ∧ (inB lo hi ((bl s).drop p) = none → b' = true))
theorem RP.bad {X : Nat} {s : ByteArray} {b : Bool} {w w' : World} {p' : Nat} {b' : Bool} (h : RP X s b w w' p' b') : RP X s b w (w'.setCell ⟨X, 2, none⟩ (.bool true)) p' true :=
  ⟨RdAt.bad h.x true, h.le, h.fr.set (Or.inl rfl) _, fun _ => rfl⟩
set_option maxHeartbeats 800000 in
theorem in_r (X : Nat) (s : ByteArray) (p : Nat) (b : Bool) (lo hi : Int) (w : World) (hx : RdAt w X s p b) (hs : s.size ≤ maxLen) (hp : p ≤ s.size) : Calls Tryz.prog 79 #[.pointer (some ⟨X, 0, none⟩), .int .i64 lo, .int .i64 hi] w fun e w' => InP X s p b lo hi w e w' := by
  cases b
  · have q1 := number_ok X s p 2 w hx hs hp (by omega)
    have HQ : Hid _ := q1
    clear q1 hx
    go_enter Tryz.func79, Tryz.ntmps79
    go_wp2_with fail
    refine Calls.mono HQ.out ?_
    rintro e w1 (⟨hd, rfl, hr⟩ | ⟨hd, rfl, hr⟩)
    · have hnone : inB lo hi ((bl s).drop p) = none := by unfold inB nmB; rw [if_pos hd]; rfl
      obtain ⟨g0, g1, g2, f0, f1, f2⟩ := hr.x.cells
      have HR : Hid _ := And.intro hr hnone
      clear hr hnone hd
      cases d1 : decide (0 < lo)
      · cases d2 : decide (hi < 0)
        · go_wp2_with fail
          go_ret
          exact ⟨p, true, 0, rfl, HR.out.1, by omega, by omega, fun _ => ⟨fun x r h => by rw [HR.out.2] at h; simp at h, fun _ => rfl⟩⟩
        · go_wp2_with fail
          go_ret
          exact ⟨p, true, 0, rfl, HR.out.1.bad, by omega, by omega, fun _ => ⟨fun x r h => by rw [HR.out.2] at h; simp at h, fun _ => rfl⟩⟩
      · go_wp2_with fail
        go_ret
        exact ⟨p, true, 0, rfl, HR.out.1.bad, by omega, by omega, fun _ => ⟨fun x r h => by rw [HR.out.2] at h; simp at h, fun _ => rfl⟩⟩
    · have hv := nm_in (n := 2) (l := (bl s).drop p) (x := (dvl (((bl s).drop p).take 2), ((bl s).drop p).drop 2)) (by unfold nmB; rw [if_neg (by omega)])
      have hin : inB lo hi ((bl s).drop p) = if dvl (((bl s).drop p).take 2) < lo ∨ hi < dvl (((bl s).drop p).take 2) then none else some (dvl (((bl s).drop p).take 2), (bl s).drop (p + 2)) := by
        unfold inB nmB
        rw [if_neg (by omega), Option.bind_some, List.drop_drop]
      dsimp only at hv
      generalize dvl (((bl s).drop p).take 2) = v at *
      obtain ⟨hv0, hv1⟩ := hv
      have hv2 : v < 100 := by simpa using hv1
      obtain ⟨g0, g1, g2, f0, f1, f2⟩ := hr.x.cells
      have HR : Hid _ := And.intro hr hin
      clear hr hin hd hv1
      by_cases e1 : v < lo
      · have d1 : decide (v < lo) = true := by simpa using e1
        have hno : inB lo hi ((bl s).drop p) = none := by rw [HR.out.2, if_pos (.inl e1)]
        have HN : Hid _ := hno
        clear hno
        go_wp2_with fail
        go_ret
        exact ⟨p + 2, true, v, rfl, HR.out.1.bad, hv0, hv2, fun _ => ⟨fun x r h => by rw [HN.out] at h; simp at h, fun _ => rfl⟩⟩
      · have d1 : decide (v < lo) = false := by simpa using e1
        by_cases e2 : hi < v
        · have d2 : decide (hi < v) = true := by simpa using e2
          have hno : inB lo hi ((bl s).drop p) = none := by rw [HR.out.2, if_pos (.inr e2)]
          have HN : Hid _ := hno
          clear hno
          go_wp2_with fail
          go_ret
          exact ⟨p + 2, true, v, rfl, HR.out.1.bad, hv0, hv2, fun _ => ⟨fun x r h => by rw [HN.out] at h; simp at h, fun _ => rfl⟩⟩
        · have d2 : decide (hi < v) = false := by simpa using e2
          have hno : inB lo hi ((bl s).drop p) = some (v, (bl s).drop (p + 2)) := by rw [HR.out.2, if_neg (by omega)]
          have HN : Hid _ := hno
          clear hno
          go_wp2_with fail
          go_ret
          exact ⟨p + 2, false, v, rfl, HR.out.1, hv0, hv2, fun _ => ⟨fun x r h => by rw [HN.out] at h; simp at h; exact ⟨rfl, h.1, h.2.symm⟩, fun h => by rw [HN.out] at h; simp at h⟩⟩
  · have q1 := number_bad X s p 2 w hx hp
    have HQ : Hid _ := q1
    clear q1 hx
    go_enter Tryz.func79, Tryz.ntmps79
    go_wp2_with fail
    refine Calls.mono HQ.out ?_
    rintro e w1 ⟨rfl, hr⟩
    obtain ⟨g0, g1, g2, f0, f1, f2⟩ := hr.x.cells
    have HR : Hid _ := hr
    clear hr
    cases d1 : decide (0 < lo)
    · cases d2 : decide (hi < 0)
      · go_wp2_with fail
        go_ret
        exact ⟨p, true, 0, rfl, HR.out, by omega, by omega, fun h => absurd h (by simp)⟩
      · go_wp2_with fail
        go_ret
        exact ⟨p, true, 0, rfl, HR.out.bad, by omega, by omega, fun h => absurd h (by simp)⟩
    · go_wp2_with fail
      go_ret
      exact ⟨p, true, 0, rfl, HR.out.bad, by omega, by omega, fun h => absurd h (by simp)⟩
end Go.Proofs.YtgaegajcejpmdaaGreatDoor.Dt
namespace Go.Proofs.YtgaegajcejpmdaaGreatDoor.Dt
open Go.RowKit
set_option linter.unusedVariables false

theorem yr_is (s : ByteArray) (p p1 : Nat) (neg : Bool) (h : isB (bl s) p 45 = neg) (hp : p1 = if neg = true then p + 1 else p) : yrB ((bl s).drop p) =
    if dgs ((bl s).drop p1) < 4 ∨ 9 < dgs ((bl s).drop p1) ∨ (4 < dgs ((bl s).drop p1) ∧ isB (bl s) p1 48 = true) then none
    else if dvl (((bl s).drop p1).take (dgs ((bl s).drop p1))) = 0 then none
    else some (if neg = true then - dvl (((bl s).drop p1).take (dgs ((bl s).drop p1))) else dvl (((bl s).drop p1).take (dgs ((bl s).drop p1))), (bl s).drop (p1 + dgs ((bl s).drop p1))) := by
  have ht : (if ((bl s).drop p).head? = some 45 then ((bl s).drop p).tail else (bl s).drop p) = (bl s).drop p1 := by
    unfold isB at h
    cases neg
    · rw [if_neg (by simpa using h), hp]; rfl
    · rw [if_pos (by simpa using h), hp, List.tail_drop]; rfl
  have hneg : (((bl s).drop p).head? = some 45) = (neg = true) := by
    unfold isB at h
    rw [← h]; simp
  unfold yrB
  dsimp only
  rw [ht]
  have h48 : (isB (bl s) p1 48 = true) = (((bl s).drop p1).head? = some 48) := by unfold isB; simp
  simp only [h48]
  split
  · rfl
  · unfold nmB
    rw [if_neg (Nat.lt_irrefl _), Option.bind_some, List.drop_drop]
    dsimp only
    split
    · rfl
    · simp only [hneg]
def YrP (X : Nat) (s : ByteArray) (p : Nat) (w : World) (e : Ending) (w' : World) : Prop :=
  ∃ (p' : Nat) (b' : Bool) (v : Int), e = .returned (.int .i64 v) ∧ RP X s false w w' p' b' ∧ -1000000000 < v ∧ v < 1000000000 ∧
    (∀ x r, yrB ((bl s).drop p) = some (x, r) → b' = false ∧ v = x ∧ r = (bl s).drop p') ∧ (yrB ((bl s).drop p) = none → b' = true)
set_option maxHeartbeats 2000000 in
theorem year_r (X : Nat) (s : ByteArray) (p : Nat) (w : World) (hx : RdAt w X s p false) (hs : s.size ≤ maxLen) (hp : p ≤ s.size) : Calls Tryz.prog 78 #[.pointer (some ⟨X, 0, none⟩)] w fun e w' => YrP X s p w e w' := by
  have q1 := is_r X s p false 45 w hx hs
  have hpl : isB (bl s) p 45 = true → p < s.size := fun h => by
    rcases Nat.lt_or_ge p s.size with h1 | h1
    · exact h1
    · rw [isB_no h1] at h; exact absurd h (by simp)
  have hnum := hs
  unfold maxLen at hnum
  have hyr := fun neg h => yr_is s p (if neg = true then p + 1 else p) neg h rfl
  obtain ⟨neg, hneg⟩ : ∃ neg, isB (bl s) p 45 = neg := ⟨_, rfl⟩
  have hY := hyr neg hneg
  rw [hneg] at q1 hpl
  clear hyr hneg
  have HX : Hid _ := And.intro hx (And.intro q1 hY)
  clear hx q1 hY
  cases neg
  · have hp1 : p ≤ s.size := hp
    go_enter Tryz.func78, Tryz.ntmps78
    go_wp2_with fail
    refine Calls.mono HX.out.2.1 ?_
    rintro e w1 ⟨rfl, q, rfl⟩
    obtain ⟨g0, g1, g2, f0, f1, f2⟩ := RdAt.cells (w := w) (X := X) (s := s) (p := p) (b := false) HX.out.1
    go_upto_region 4 with fail
    obtain ⟨W, hW⟩ : ∃ W, (w.drewN q) = W := ⟨_, rfl⟩
    rw [hW]
    have hx1 : RdAt W X s p false := by rw [← hW]; exact HX.out.1
    have hfr : Fro (fun i => i = X) w W := by rw [← hW]; exact (Fro.refl (fun i => i = X) w).drewN q
    clear hW g0 g1 g2 f0 f1 f2
    obtain ⟨YL, hYL⟩ : ∃ YL, yrB ((bl s).drop p) = YL := ⟨_, rfl⟩
    have hY : YL = if dgs ((bl s).drop (p)) < 4 ∨ 9 < dgs ((bl s).drop (p)) ∨ (4 < dgs ((bl s).drop (p)) ∧ isB (bl s) (p) 48 = true) then none else if dvl (((bl s).drop (p)).take (dgs ((bl s).drop (p)))) = 0 then none else some (dvl (((bl s).drop (p)).take (dgs ((bl s).drop (p)))), (bl s).drop (p + dgs ((bl s).drop (p)))) := by rw [← hYL]; exact HX.out.2.2
    have HYL : Hid _ := hYL
    clear hYL
    obtain ⟨P, hP⟩ : ∃ P : Nat, p = P := ⟨_, rfl⟩
    rw [hP] at hY hx1 hp1
    have hcast : (p : Int) = (P : Int) := by omega
    have q2 := digits_r X s P false W hx1 hs hp1
    have hKl := dgs_len ((bl s).drop P)
    rw [dr_len] at hKl
    have q3 := fun (W' : World) (h : RdAt W' X s P false) (h9 : dgs ((bl s).drop P) ≤ 9) => number_ok X s P (dgs ((bl s).drop P)) W' h hs hp1 h9
    have h48 : ∀ h : P < s.size, isB (bl s) P 48 = (((s[P]'h).toNat : Int) == 48) := fun h => isB_at h 48
    have hvb : dgs ((bl s).drop P) ≤ 9 → 0 ≤ dvl (((bl s).drop P).take (dgs ((bl s).drop P))) ∧ dvl (((bl s).drop P).take (dgs ((bl s).drop P))) < 1000000000 := fun h => dvl_bd (Nat.le_refl _) h
    unfold NmP at q3
    obtain ⟨v, hv⟩ : ∃ v, dvl (((bl s).drop P).take (dgs ((bl s).drop P))) = v := ⟨_, rfl⟩
    rw [hv] at hY hvb q3
    clear hv
    generalize dgs ((bl s).drop P) = K at *
    obtain ⟨g0, g1, g2, f0, f1, f2⟩ := hx1.cells
    have HZ : Hid _ := And.intro hx1 (And.intro hfr (And.intro hY (And.intro q2 q3)))
    clear hx1 hfr hY q2 q3
    go_wp2_with fail
    refine Calls.mono HZ.out.2.2.2.1 ?_
    rintro e w2 ⟨rfl, q', rfl⟩
    by_cases c1 : K < 4
    · have d1 : decide ((K : Int) < 4) = true := by simp; omega
      have hno : yrB ((bl s).drop p) = none := by rw [HYL.out, HZ.out.2.2.1, if_pos (.inl c1)]
      have HN : Hid _ := hno
      clear hno
      go_wp2_with fail
      go_quiet (fail)
      go_wp2_with fail
      go_ret
      exact ⟨P, true, 1, rfl, ⟨RdAt.bad (X := X) (s := s) (p := P) (b := false) (RdAt.drew (X := X) (s := s) (p := P) (b := false) HZ.out.1 _) true, hp1, (HZ.out.2.1.drewN _).set (Or.inl rfl) _, fun _ => rfl⟩, by omega, by omega, fun x r h => by rw [HN.out] at h; simp at h, fun _ => rfl⟩
    · have d1 : decide ((K : Int) < 4) = false := by simp; omega
      by_cases c2 : 9 < K
      · have d2 : decide (9 < (K : Int)) = true := by simp; omega
        have hno : yrB ((bl s).drop p) = none := by rw [HYL.out, HZ.out.2.2.1, if_pos (.inr (.inl c2))]
        have HN : Hid _ := hno
        clear hno
        go_wp2_with fail
        go_quiet (fail)
        go_wp2_with fail
        go_ret
        exact ⟨P, true, 1, rfl, ⟨RdAt.bad (X := X) (s := s) (p := P) (b := false) (RdAt.drew (X := X) (s := s) (p := P) (b := false) HZ.out.1 _) true, hp1, (HZ.out.2.1.drewN _).set (Or.inl rfl) _, fun _ => rfl⟩, by omega, by omega, fun x r h => by rw [HN.out] at h; simp at h, fun _ => rfl⟩
      · have d2 : decide (9 < (K : Int)) = false := by simp; omega
        obtain ⟨hvb0, hvb1⟩ := hvb (by omega)
        by_cases c3 : 4 < K
        · have d3 : decide (4 < (K : Int)) = true := by simp; omega
          have hPs : P < s.size := by omega
          have h48' := h48 hPs
          generalize hC : s[P] = C at *
          by_cases c4 : isB (bl s) P 48 = true
          · have d4 : ((C.toNat : Int) == 48) = true := by rw [← h48']; exact c4
            have hno : yrB ((bl s).drop p) = none := by rw [HYL.out, HZ.out.2.2.1, if_pos (.inr (.inr ⟨c3, c4⟩))]
            have HN : Hid _ := hno
            clear hno h48 h48' c4
            go_wp2_with fail
            go_quiet (fail)
            go_wp2_with fail
            go_ret
            exact ⟨P, true, 1, rfl, ⟨RdAt.bad (X := X) (s := s) (p := P) (b := false) (RdAt.drew (X := X) (s := s) (p := P) (b := false) HZ.out.1 _) true, hp1, (HZ.out.2.1.drewN _).set (Or.inl rfl) _, fun _ => rfl⟩, by omega, by omega, fun x r h => by rw [HN.out] at h; simp at h, fun _ => rfl⟩
          · have d4 : ((C.toNat : Int) == 48) = false := by rw [← h48']; simpa using c4
            have HNN : Hid _ := (fun q => q.elim c1 (fun q => q.elim c2 (fun q => c4 q.2)) : ¬ (K < 4 ∨ 9 < K ∨ (4 < K ∧ isB (bl s) P 48 = true)))
            clear h48 h48' c4
            go_wp2_with fail
            go_quiet (fail)
            go_wp2_with fail
            refine Calls.mono (HZ.out.2.2.2.2 _ (RdAt.drew (X := X) (s := s) (p := P) (b := false) HZ.out.1 _) (by omega)) ?_
            rintro e w3 (⟨hd, rfl, hr⟩ | ⟨hd, rfl, hr⟩)
            · exact absurd hd (by omega)
            · obtain ⟨g0', g1', g2', f0', f1', f2'⟩ := hr.x.cells
              have HRR : Hid _ := hr
              clear hr hd
              by_cases hv0 : v = 0
              · have kv : (v == 0) = true := by simpa using hv0
                have hno : yrB ((bl s).drop p) = none := by rw [HYL.out, HZ.out.2.2.1, if_neg HNN.out, if_pos hv0]
                have HN : Hid _ := hno
                clear hno
                go_wp2_with fail
                go_ret
                exact ⟨P + K, true, _, rfl, ⟨(RP.bad HRR.out).x, HRR.out.le, (HZ.out.2.1.drewN _).trans (RP.bad HRR.out).fr, fun _ => rfl⟩, by omega, by omega, fun x r h => by rw [HN.out] at h; simp at h, fun _ => rfl⟩
              · have kv : (v == 0) = false := by simpa using hv0
                have hsm : yrB ((bl s).drop p) = some (v, (bl s).drop (P + K)) := by rw [HYL.out, HZ.out.2.2.1, if_neg HNN.out, if_neg hv0]
                have HN : Hid _ := hsm
                clear hsm
                go_wp2_with fail
                go_ret
                exact ⟨P + K, false, _, rfl, ⟨HRR.out.x, HRR.out.le, (HZ.out.2.1.drewN _).trans HRR.out.fr, fun h => absurd h (by simp)⟩, by omega, by omega, fun x r h => by rw [HN.out] at h; simp at h; exact ⟨rfl, h.1, h.2.symm⟩, fun h => by rw [HN.out] at h; simp at h⟩
        · have d3 : decide (4 < (K : Int)) = false := by simp; omega
          have HNN : Hid _ := (fun q => q.elim c1 (fun q => q.elim c2 (fun q => c3 q.1)) : ¬ (K < 4 ∨ 9 < K ∨ (4 < K ∧ isB (bl s) P 48 = true)))
          clear h48
          go_wp2_with fail
          go_quiet (fail)
          go_wp2_with fail
          refine Calls.mono (HZ.out.2.2.2.2 _ (RdAt.drew (X := X) (s := s) (p := P) (b := false) HZ.out.1 _) (by omega)) ?_
          rintro e w3 (⟨hd, rfl, hr⟩ | ⟨hd, rfl, hr⟩)
          · exact absurd hd (by omega)
          · obtain ⟨g0', g1', g2', f0', f1', f2'⟩ := hr.x.cells
            have HRR : Hid _ := hr
            clear hr hd
            by_cases hv0 : v = 0
            · have kv : (v == 0) = true := by simpa using hv0
              have hno : yrB ((bl s).drop p) = none := by rw [HYL.out, HZ.out.2.2.1, if_neg HNN.out, if_pos hv0]
              have HN : Hid _ := hno
              clear hno
              go_wp2_with fail
              go_ret
              exact ⟨P + K, true, _, rfl, ⟨(RP.bad HRR.out).x, HRR.out.le, (HZ.out.2.1.drewN _).trans (RP.bad HRR.out).fr, fun _ => rfl⟩, by omega, by omega, fun x r h => by rw [HN.out] at h; simp at h, fun _ => rfl⟩
            · have kv : (v == 0) = false := by simpa using hv0
              have hsm : yrB ((bl s).drop p) = some (v, (bl s).drop (P + K)) := by rw [HYL.out, HZ.out.2.2.1, if_neg HNN.out, if_neg hv0]
              have HN : Hid _ := hsm
              clear hsm
              go_wp2_with fail
              go_ret
              exact ⟨P + K, false, _, rfl, ⟨HRR.out.x, HRR.out.le, (HZ.out.2.1.drewN _).trans HRR.out.fr, fun h => absurd h (by simp)⟩, by omega, by omega, fun x r h => by rw [HN.out] at h; simp at h; exact ⟨rfl, h.1, h.2.symm⟩, fun h => by rw [HN.out] at h; simp at h⟩
  · have hp1 : p + 1 ≤ s.size := hpl rfl
    go_enter Tryz.func78, Tryz.ntmps78
    go_wp2_with fail
    refine Calls.mono HX.out.2.1 ?_
    rintro e w1 ⟨rfl, q, rfl⟩
    obtain ⟨g0, g1, g2, f0, f1, f2⟩ := RdAt.cells (w := w) (X := X) (s := s) (p := p) (b := false) HX.out.1
    go_upto_region 4 with fail
    obtain ⟨W, hW⟩ : ∃ W, (w.drewN q).setCell ⟨X, 1, none⟩ (.int .i64 ((p : Int) + 1)) = W := ⟨_, rfl⟩
    rw [hW]
    have hx1 : RdAt W X s (p + 1) false := by rw [← hW]; exact RdAt.at (w := w.drewN q) (X := X) (s := s) (p := p) (b := false) HX.out.1 (p + 1)
    have hfr : Fro (fun i => i = X) w W := by rw [← hW]; exact ((Fro.refl (fun i => i = X) w).drewN q).set (Or.inl rfl) _
    clear hW g0 g1 g2 f0 f1 f2
    obtain ⟨YL, hYL⟩ : ∃ YL, yrB ((bl s).drop p) = YL := ⟨_, rfl⟩
    have hY : YL = if dgs ((bl s).drop (p + 1)) < 4 ∨ 9 < dgs ((bl s).drop (p + 1)) ∨ (4 < dgs ((bl s).drop (p + 1)) ∧ isB (bl s) (p + 1) 48 = true) then none else if dvl (((bl s).drop (p + 1)).take (dgs ((bl s).drop (p + 1)))) = 0 then none else some (- dvl (((bl s).drop (p + 1)).take (dgs ((bl s).drop (p + 1)))), (bl s).drop (p + 1 + dgs ((bl s).drop (p + 1)))) := by rw [← hYL]; exact HX.out.2.2
    have HYL : Hid _ := hYL
    clear hYL
    obtain ⟨P, hP⟩ : ∃ P : Nat, p + 1 = P := ⟨_, rfl⟩
    rw [hP] at hY hx1 hp1
    have hcast : (p : Int) + 1 = (P : Int) := by omega
    have q2 := digits_r X s P false W hx1 hs hp1
    have hKl := dgs_len ((bl s).drop P)
    rw [dr_len] at hKl
    have q3 := fun (W' : World) (h : RdAt W' X s P false) (h9 : dgs ((bl s).drop P) ≤ 9) => number_ok X s P (dgs ((bl s).drop P)) W' h hs hp1 h9
    have h48 : ∀ h : P < s.size, isB (bl s) P 48 = (((s[P]'h).toNat : Int) == 48) := fun h => isB_at h 48
    have hvb : dgs ((bl s).drop P) ≤ 9 → 0 ≤ dvl (((bl s).drop P).take (dgs ((bl s).drop P))) ∧ dvl (((bl s).drop P).take (dgs ((bl s).drop P))) < 1000000000 := fun h => dvl_bd (Nat.le_refl _) h
    unfold NmP at q3
    obtain ⟨v, hv⟩ : ∃ v, dvl (((bl s).drop P).take (dgs ((bl s).drop P))) = v := ⟨_, rfl⟩
    rw [hv] at hY hvb q3
    clear hv
    generalize dgs ((bl s).drop P) = K at *
    obtain ⟨g0, g1, g2, f0, f1, f2⟩ := hx1.cells
    have HZ : Hid _ := And.intro hx1 (And.intro hfr (And.intro hY (And.intro q2 q3)))
    clear hx1 hfr hY q2 q3
    go_wp2_with fail
    refine Calls.mono HZ.out.2.2.2.1 ?_
    rintro e w2 ⟨rfl, q', rfl⟩
    by_cases c1 : K < 4
    · have d1 : decide ((K : Int) < 4) = true := by simp; omega
      have hno : yrB ((bl s).drop p) = none := by rw [HYL.out, HZ.out.2.2.1, if_pos (.inl c1)]
      have HN : Hid _ := hno
      clear hno
      go_wp2_with fail
      go_quiet (fail)
      go_wp2_with fail
      go_ret
      exact ⟨P, true, 1, rfl, ⟨RdAt.bad (X := X) (s := s) (p := P) (b := false) (RdAt.drew (X := X) (s := s) (p := P) (b := false) HZ.out.1 _) true, hp1, (HZ.out.2.1.drewN _).set (Or.inl rfl) _, fun _ => rfl⟩, by omega, by omega, fun x r h => by rw [HN.out] at h; simp at h, fun _ => rfl⟩
    · have d1 : decide ((K : Int) < 4) = false := by simp; omega
      by_cases c2 : 9 < K
      · have d2 : decide (9 < (K : Int)) = true := by simp; omega
        have hno : yrB ((bl s).drop p) = none := by rw [HYL.out, HZ.out.2.2.1, if_pos (.inr (.inl c2))]
        have HN : Hid _ := hno
        clear hno
        go_wp2_with fail
        go_quiet (fail)
        go_wp2_with fail
        go_ret
        exact ⟨P, true, 1, rfl, ⟨RdAt.bad (X := X) (s := s) (p := P) (b := false) (RdAt.drew (X := X) (s := s) (p := P) (b := false) HZ.out.1 _) true, hp1, (HZ.out.2.1.drewN _).set (Or.inl rfl) _, fun _ => rfl⟩, by omega, by omega, fun x r h => by rw [HN.out] at h; simp at h, fun _ => rfl⟩
      · have d2 : decide (9 < (K : Int)) = false := by simp; omega
        obtain ⟨hvb0, hvb1⟩ := hvb (by omega)
        by_cases c3 : 4 < K
        · have d3 : decide (4 < (K : Int)) = true := by simp; omega
          have hPs : P < s.size := by omega
          have h48' := h48 hPs
          generalize hC : s[P] = C at *
          by_cases c4 : isB (bl s) P 48 = true
          · have d4 : ((C.toNat : Int) == 48) = true := by rw [← h48']; exact c4
            have hno : yrB ((bl s).drop p) = none := by rw [HYL.out, HZ.out.2.2.1, if_pos (.inr (.inr ⟨c3, c4⟩))]
            have HN : Hid _ := hno
            clear hno h48 h48' c4
            go_wp2_with fail
            go_quiet (fail)
            go_wp2_with fail
            go_ret
            exact ⟨P, true, 1, rfl, ⟨RdAt.bad (X := X) (s := s) (p := P) (b := false) (RdAt.drew (X := X) (s := s) (p := P) (b := false) HZ.out.1 _) true, hp1, (HZ.out.2.1.drewN _).set (Or.inl rfl) _, fun _ => rfl⟩, by omega, by omega, fun x r h => by rw [HN.out] at h; simp at h, fun _ => rfl⟩
          · have d4 : ((C.toNat : Int) == 48) = false := by rw [← h48']; simpa using c4
            have HNN : Hid _ := (fun q => q.elim c1 (fun q => q.elim c2 (fun q => c4 q.2)) : ¬ (K < 4 ∨ 9 < K ∨ (4 < K ∧ isB (bl s) P 48 = true)))
            clear h48 h48' c4
            go_wp2_with fail
            go_quiet (fail)
            go_wp2_with fail
            refine Calls.mono (HZ.out.2.2.2.2 _ (RdAt.drew (X := X) (s := s) (p := P) (b := false) HZ.out.1 _) (by omega)) ?_
            rintro e w3 (⟨hd, rfl, hr⟩ | ⟨hd, rfl, hr⟩)
            · exact absurd hd (by omega)
            · obtain ⟨g0', g1', g2', f0', f1', f2'⟩ := hr.x.cells
              have HRR : Hid _ := hr
              clear hr hd
              by_cases hv0 : v = 0
              · have kv : (v == 0) = true := by simpa using hv0
                have hno : yrB ((bl s).drop p) = none := by rw [HYL.out, HZ.out.2.2.1, if_neg HNN.out, if_pos hv0]
                have HN : Hid _ := hno
                clear hno
                go_wp2_with fail
                go_ret
                exact ⟨P + K, true, _, rfl, ⟨(RP.bad HRR.out).x, HRR.out.le, (HZ.out.2.1.drewN _).trans (RP.bad HRR.out).fr, fun _ => rfl⟩, by omega, by omega, fun x r h => by rw [HN.out] at h; simp at h, fun _ => rfl⟩
              · have kv : (v == 0) = false := by simpa using hv0
                have hsm : yrB ((bl s).drop p) = some (-v, (bl s).drop (P + K)) := by rw [HYL.out, HZ.out.2.2.1, if_neg HNN.out, if_neg hv0]
                have HN : Hid _ := hsm
                clear hsm
                go_wp2_with fail
                go_ret
                exact ⟨P + K, false, _, rfl, ⟨HRR.out.x, HRR.out.le, (HZ.out.2.1.drewN _).trans HRR.out.fr, fun h => absurd h (by simp)⟩, by omega, by omega, fun x r h => by rw [HN.out] at h; simp at h; exact ⟨rfl, h.1, h.2.symm⟩, fun h => by rw [HN.out] at h; simp at h⟩
        · have d3 : decide (4 < (K : Int)) = false := by simp; omega
          have HNN : Hid _ := (fun q => q.elim c1 (fun q => q.elim c2 (fun q => c3 q.1)) : ¬ (K < 4 ∨ 9 < K ∨ (4 < K ∧ isB (bl s) P 48 = true)))
          clear h48
          go_wp2_with fail
          go_quiet (fail)
          go_wp2_with fail
          refine Calls.mono (HZ.out.2.2.2.2 _ (RdAt.drew (X := X) (s := s) (p := P) (b := false) HZ.out.1 _) (by omega)) ?_
          rintro e w3 (⟨hd, rfl, hr⟩ | ⟨hd, rfl, hr⟩)
          · exact absurd hd (by omega)
          · obtain ⟨g0', g1', g2', f0', f1', f2'⟩ := hr.x.cells
            have HRR : Hid _ := hr
            clear hr hd
            by_cases hv0 : v = 0
            · have kv : (v == 0) = true := by simpa using hv0
              have hno : yrB ((bl s).drop p) = none := by rw [HYL.out, HZ.out.2.2.1, if_neg HNN.out, if_pos hv0]
              have HN : Hid _ := hno
              clear hno
              go_wp2_with fail
              go_ret
              exact ⟨P + K, true, _, rfl, ⟨(RP.bad HRR.out).x, HRR.out.le, (HZ.out.2.1.drewN _).trans (RP.bad HRR.out).fr, fun _ => rfl⟩, by omega, by omega, fun x r h => by rw [HN.out] at h; simp at h, fun _ => rfl⟩
            · have kv : (v == 0) = false := by simpa using hv0
              have hsm : yrB ((bl s).drop p) = some (-v, (bl s).drop (P + K)) := by rw [HYL.out, HZ.out.2.2.1, if_neg HNN.out, if_neg hv0]
              have HN : Hid _ := hsm
              clear hsm
              go_wp2_with fail
              go_ret
              exact ⟨P + K, false, _, rfl, ⟨HRR.out.x, HRR.out.le, (HZ.out.2.1.drewN _).trans HRR.out.fr, fun h => absurd h (by simp)⟩, by omega, by omega, fun x r h => by rw [HN.out] at h; simp at h; exact ⟨rfl, h.1, h.2.symm⟩, fun h => by rw [HN.out] at h; simp at h⟩
end Go.Proofs.YtgaegajcejpmdaaGreatDoor.Dt
namespace Go.Proofs.YtgaegajcejpmdaaGreatDoor.Dt
open Go.RowKit
set_option linter.unusedVariables false

def FrQ (X : Nat) (s : ByteArray) (p : Nat) (b : Bool) (w : World) (e : Ending) (w' : World) : Prop :=
  ∃ (p' : Nat) (b' : Bool) (v : Int), e = .returned (.int .i64 v) ∧ RP X s b w w' p' b' ∧ 0 ≤ v ∧ v < 1000000000 ∧
    (b = false → (∀ x r, frB ((bl s).drop p) = some (x, r) → b' = false ∧ v = x ∧ r = (bl s).drop p') ∧ (frB ((bl s).drop p) = none → b' = true))
theorem fr_is (s : ByteArray) (p : Nat) : frB ((bl s).drop p) = if isB (bl s) p 46 = true then (if dgs ((bl s).drop (p + 1)) < 1 ∨ 9 < dgs ((bl s).drop (p + 1)) then none else some (dvl (((bl s).drop (p + 1)).take (dgs ((bl s).drop (p + 1)))) * 10 ^ (9 - dgs ((bl s).drop (p + 1))), (bl s).drop (p + 1 + dgs ((bl s).drop (p + 1))))) else some (0, (bl s).drop p) := by
  have h46 : (isB (bl s) p 46 = true) = (((bl s).drop p).head? = some 46) := by unfold isB; simp
  simp only [h46]
  unfold frB
  rw [List.tail_drop]
  split
  · split
    · rfl
    · unfold nmB
      rw [if_neg (Nat.lt_irrefl _), Option.map_some, List.drop_drop]
  · rfl
theorem le_pow (V : Int) (h : 0 ≤ V) (n : Nat) : V ≤ V * 10 ^ n := by
  have h1 : (1 : Int) ≤ 10 ^ n := Int.pow_pos (by omega)
  have := Int.mul_le_mul_of_nonneg_left h1 h
  omega
set_option maxHeartbeats 2000000 in
theorem fraction_r (X : Nat) (s : ByteArray) (p : Nat) (b : Bool) (w : World) (hx : RdAt w X s p b) (hs : s.size ≤ maxLen) (hp : p ≤ s.size) : Calls Tryz.prog 77 #[.pointer (some ⟨X, 0, none⟩)] w fun e w' => FrQ X s p b w e w' := by
  have hnum := hs
  unfold maxLen at hnum
  obtain ⟨g0, g1, g2, f0, f1, f2⟩ := hx.cells
  cases b
  · have q1 := is_r X s p false 46 w hx hs
    have hpl : isB (bl s) p 46 = true → p < s.size := fun h => by
      rcases Nat.lt_or_ge p s.size with h1 | h1
      · exact h1
      · rw [isB_no h1] at h; exact absurd h (by simp)
    have hf := fr_is s p
    generalize isB (bl s) p 46 = I at *
    have HX : Hid _ := And.intro hx (And.intro q1 hf)
    clear hx q1 hf
    cases I
    · go_enter Tryz.func77, Tryz.ntmps77
      go_wp2_with fail
      refine Calls.mono HX.out.2.1 ?_
      rintro e w1 ⟨rfl, q, rfl⟩
      go_wp2_with fail
      go_ret
      exact ⟨p, false, 0, rfl, ⟨HX.out.1, hp, (Fro.refl (fun i => i = X) w).drewN q, fun h => h⟩, by omega, by omega, fun _ => ⟨fun x r h => by rw [HX.out.2.2] at h; simp at h; exact ⟨rfl, h.1, h.2.symm⟩, fun h => by rw [HX.out.2.2] at h; simp at h⟩⟩
    · have hp1 : p + 1 ≤ s.size := hpl rfl
      go_enter Tryz.func77, Tryz.ntmps77
      go_wp2_with fail
      refine Calls.mono HX.out.2.1 ?_
      rintro e w1 ⟨rfl, q, rfl⟩
      go_upto_region 4 with fail
      obtain ⟨W, hW⟩ : ∃ W, (w.drewN q).setCell ⟨X, 1, none⟩ (.int .i64 ((p : Int) + 1)) = W := ⟨_, rfl⟩
      rw [hW]
      have hx1 : RdAt W X s (p + 1) false := by rw [← hW]; exact RdAt.at (w := w.drewN q) (X := X) (s := s) (p := p) (b := false) HX.out.1 (p + 1)
      have hfr : Fro (fun i => i = X) w W := by rw [← hW]; exact ((Fro.refl (fun i => i = X) w).drewN q).set (Or.inl rfl) _
      clear hW g0 g1 g2 f0 f1 f2
      have hY : frB ((bl s).drop p) = if dgs ((bl s).drop (p + 1)) < 1 ∨ 9 < dgs ((bl s).drop (p + 1)) then none else some (dvl (((bl s).drop (p + 1)).take (dgs ((bl s).drop (p + 1)))) * 10 ^ (9 - dgs ((bl s).drop (p + 1))), (bl s).drop (p + 1 + dgs ((bl s).drop (p + 1)))) := HX.out.2.2
      obtain ⟨P, hP⟩ : ∃ P : Nat, p + 1 = P := ⟨_, rfl⟩
      rw [hP] at hY hx1 hp1
      have q2 := digits_r X s P false W hx1 hs hp1
      have q3 := fun (W' : World) (h : RdAt W' X s P false) (h9 : dgs ((bl s).drop P) ≤ 9) => number_ok X s P (dgs ((bl s).drop P)) W' h hs hp1 h9
      unfold NmP at q3
      have hvb : dgs ((bl s).drop P) ≤ 9 → 0 ≤ dvl (((bl s).drop P).take (dgs ((bl s).drop P))) ∧ dvl (((bl s).drop P).take (dgs ((bl s).drop P))) < 1000000000 := fun h => dvl_bd (Nat.le_refl _) h
      obtain ⟨v, hv⟩ : ∃ v, dvl (((bl s).drop P).take (dgs ((bl s).drop P))) = v := ⟨_, rfl⟩
      rw [hv] at hY hvb q3
      clear hv
      have hKl := dgs_len ((bl s).drop P)
      rw [dr_len] at hKl
      generalize dgs ((bl s).drop P) = K at *
      obtain ⟨g0, g1, g2, f0, f1, f2⟩ := hx1.cells
      have HZ : Hid _ := And.intro hx1 (And.intro hfr (And.intro hY (And.intro q2 q3)))
      clear hx1 hfr hY q2 q3
      go_wp2_with fail
      refine Calls.mono HZ.out.2.2.2.1 ?_
      rintro e w2 ⟨rfl, q', rfl⟩
      by_cases c1 : K < 1
      · have d1 : decide ((K : Int) < 1) = true := by simp; omega
        have hno : frB ((bl s).drop p) = none := by rw [HZ.out.2.2.1, if_pos (.inl c1)]
        have HN : Hid _ := hno
        clear hno
        go_wp2_with fail
        go_ret
        exact ⟨P, true, 0, rfl, ⟨RdAt.bad (X := X) (s := s) (p := P) (b := false) (RdAt.drew (X := X) (s := s) (p := P) (b := false) HZ.out.1 _) true, hp1, (HZ.out.2.1.drewN _).set (Or.inl rfl) _, fun _ => rfl⟩, by omega, by omega, fun _ => ⟨fun x r h => by rw [HN.out] at h; simp at h, fun _ => rfl⟩⟩
      · have d1 : decide ((K : Int) < 1) = false := by simp; omega
        by_cases c2 : 9 < K
        · have d2 : decide (9 < (K : Int)) = true := by simp; omega
          have hno : frB ((bl s).drop p) = none := by rw [HZ.out.2.2.1, if_pos (.inr c2)]
          have HN : Hid _ := hno
          clear hno
          go_wp2_with fail
          go_ret
          exact ⟨P, true, 0, rfl, ⟨RdAt.bad (X := X) (s := s) (p := P) (b := false) (RdAt.drew (X := X) (s := s) (p := P) (b := false) HZ.out.1 _) true, hp1, (HZ.out.2.1.drewN _).set (Or.inl rfl) _, fun _ => rfl⟩, by omega, by omega, fun _ => ⟨fun x r h => by rw [HN.out] at h; simp at h, fun _ => rfl⟩⟩
        · have d2 : decide (9 < (K : Int)) = false := by simp; omega
          have hsm : frB ((bl s).drop p) = some (v * 10 ^ (9 - K), (bl s).drop (P + K)) := by rw [HZ.out.2.2.1, if_neg (by omega)]
          have hFb := fr_in hsm
          dsimp only at hFb
          obtain ⟨F, hF⟩ : ∃ F, v * 10 ^ (9 - K) = F := ⟨_, rfl⟩
          rw [hF] at hsm hFb
          obtain ⟨hF0, hF1⟩ := hFb
          have HN : Hid _ := And.intro hsm hF
          clear hsm hF
          obtain ⟨hv0, hv1⟩ := hvb (by omega)
          go_wp2_with fail
          refine Calls.mono (HZ.out.2.2.2.2 _ (RdAt.drew (X := X) (s := s) (p := P) (b := false) HZ.out.1 _) (by omega)) ?_
          rintro e w3 (⟨hd, rfl, hr⟩ | ⟨hd, rfl, hr⟩)
          · exact absurd hd (by omega)
          · have HRR : Hid _ := hr
            clear hr hd g0 g1 g2 f0 f1 f2
            go_wp2_with fail
            go_loopg [4, 5] (9 - K) (fun g v4 v5 wr => ∃ (i : Nat) (V : Int), i + g = 9 ∧ v5 = .int .i64 (i : Int) ∧ v4 = .int .i64 V ∧ 0 ≤ V ∧ V * 10 ^ (9 - i) = F ∧ wr = w3)
            case atStart => exact ⟨K, v, by omega, rfl, rfl, hv0, HN.out.2, rfl⟩
            case round =>
              obtain ⟨i, V, hig, rfl, rfl, hV0, hVF, rfl⟩ := hrel
              have hVle := le_pow V hV0 (9 - i)
              rw [hVF] at hVle
              by_cases hlt : i < 9
              · obtain ⟨g, rfl⟩ : ∃ g, gk = g + 1 := ⟨gk - 1, by omega⟩
                have k1 : decide ((i : Int) < 9) = true := by simp; omega
                have hst : 10 * V * 10 ^ (9 - (i + 1)) = F := by
                  rw [← hVF, show 9 - i = 9 - (i + 1) + 1 by omega, Int.pow_succ, Int.mul_comm 10 V, Int.mul_assoc, Int.mul_comm 10]
                have HS : Hid _ := hst
                clear hst hVF
                go_wp2_with fail
                go_roundg g
                case measure => omega
                case rel => exact ⟨i + 1, 10 * V, by omega, by simp, rfl, by omega, HS.out, rfl⟩
              · obtain rfl : i = 9 := by omega
                have hVF' : V = F := by simpa using hVF
                have HV : Hid _ := hVF'
                clear hVF hVF'
                go_wp2_with fail
                go_ret
                exact ⟨P + K, false, V, rfl, ⟨HRR.out.x, HRR.out.le, (HZ.out.2.1.drewN _).trans HRR.out.fr, fun h => h⟩, hV0, by omega, fun _ => ⟨fun x r h => by rw [HN.out.1] at h; simp at h; exact ⟨rfl, HV.out.trans h.1, h.2.symm⟩, fun h => by rw [HN.out.1] at h; simp at h⟩⟩
  · have HX : Hid _ := hx
    clear hx
    go_enter Tryz.func77, Tryz.ntmps77
    go_wp2_with fail
    go_ret
    exact ⟨p, true, 0, rfl, ⟨HX.out, hp, Fro.refl _ _, fun _ => rfl⟩, by omega, by omega, fun h => absurd h (by simp)⟩
end Go.Proofs.YtgaegajcejpmdaaGreatDoor.Dt
namespace Go.Proofs.YtgaegajcejpmdaaGreatDoor.Dt
open Go.RowKit
set_option linter.unusedVariables false

/-- A step that told a value: what it makes of the place, of bad, of the value. -/
def StV {α : Type} (o : Option (α × List Int)) (s : ByteArray) (p' : Nat) (b' : Bool) (v : α) : Prop :=
  (∀ x r, o = some (x, r) → b' = false ∧ v = x ∧ r = (bl s).drop p') ∧ (o = none → b' = true)
/-- A step that told none. -/
def StT (o : Option (List Int)) (s : ByteArray) (p' : Nat) (b b' : Bool) : Prop :=
  (∀ r, o = some r → b' = b ∧ r = (bl s).drop p') ∧ (o = none → b' = true)
def ClQ (X : Nat) (s : ByteArray) (p : Nat) (b : Bool) (w : World) (e : Ending) (w' : World) : Prop :=
  ∃ (p' : Nat) (b' : Bool) (v f : Int), e = .returned (.tuple #[.int .i64 v, .int .i64 f]) ∧ RP X s b w w' p' b' ∧ 0 ≤ v ∧ v < 1000000 ∧ 0 ≤ f ∧ f < 1000000000 ∧
    (b = false → StV (clB ((bl s).drop p)) s p' b' (v, f))
theorem RP.trans {X : Nat} {s : ByteArray} {b b1 b2 : Bool} {w w1 w2 : World} {p1 p2 : Nat} (h : RP X s b w w1 p1 b1) (k : RP X s b1 w1 w2 p2 b2) : RP X s b w w2 p2 b2 :=
  ⟨k.x, k.le, h.fr.trans k.fr, fun e => k.st (h.st e)⟩
theorem cl_ch {s : ByteArray} {p p1 p2 p3 p4 p5 p6 : Nat} {b1 b2 b3 b4 b5 b6 b7 : Bool} {h m n f : Int}
    (k1 : StV (inB 0 24 ((bl s).drop p)) s p1 b1 h) (k2 : StT (tkB 58 ((bl s).drop p1)) s p2 b1 b2) (k3 : b2 = false → StV (inB 0 59 ((bl s).drop p2)) s p3 b3 m)
    (k4 : StT (tkB 58 ((bl s).drop p3)) s p4 b3 b4) (k5 : b4 = false → StV (inB 0 59 ((bl s).drop p4)) s p5 b5 n) (k6 : b5 = false → StV (frB ((bl s).drop p5)) s p6 b6 f)
    (t2 : b1 = true → b2 = true) (t3 : b2 = true → b3 = true) (t4 : b3 = true → b4 = true) (t5 : b4 = true → b5 = true) (t6 : b5 = true → b6 = true)
    (h7 : b7 = if h = 24 ∧ (0 < m ∨ 0 < n ∨ 0 < f) then true else b6) : StV (clB ((bl s).drop p)) s p6 b7 (3600 * h + 60 * m + n, f) := by
  have t7 : b6 = true → b7 = true := fun e => by rw [h7]; split <;> simp [e]
  unfold clB
  cases e1 : inB 0 24 ((bl s).drop p) with
  | none => exact ⟨fun x r e => by simp at e, fun _ => t7 (t6 (t5 (t4 (t3 (t2 (k1.2 e1))))))⟩
  | some x1 =>
  obtain ⟨rfl, rfl, hr1⟩ := k1.1 x1.1 x1.2 e1
  rw [Option.bind_some, hr1]
  cases e2 : tkB 58 ((bl s).drop p1) with
  | none => exact ⟨fun x r e => by simp at e, fun _ => t7 (t6 (t5 (t4 (t3 (k2.2 e2)))))⟩
  | some x2 =>
  obtain ⟨rfl, hr2⟩ := k2.1 x2 e2
  rw [Option.bind_some, hr2]
  cases e3 : inB 0 59 ((bl s).drop p2) with
  | none => exact ⟨fun x r e => by simp at e, fun _ => t7 (t6 (t5 (t4 ((k3 rfl).2 e3))))⟩
  | some x3 =>
  obtain ⟨rfl, rfl, hr3⟩ := (k3 rfl).1 x3.1 x3.2 e3
  rw [Option.bind_some, hr3]
  cases e4 : tkB 58 ((bl s).drop p3) with
  | none => exact ⟨fun x r e => by simp at e, fun _ => t7 (t6 (t5 (k4.2 e4)))⟩
  | some x4 =>
  obtain ⟨rfl, hr4⟩ := k4.1 x4 e4
  rw [Option.bind_some, hr4]
  cases e5 : inB 0 59 ((bl s).drop p4) with
  | none => exact ⟨fun x r e => by simp at e, fun _ => t7 (t6 ((k5 rfl).2 e5))⟩
  | some x5 =>
  obtain ⟨rfl, rfl, hr5⟩ := (k5 rfl).1 x5.1 x5.2 e5
  rw [Option.bind_some, hr5]
  cases e6 : frB ((bl s).drop p5) with
  | none => exact ⟨fun x r e => by simp at e, fun _ => t7 ((k6 rfl).2 e6)⟩
  | some x6 =>
  obtain ⟨rfl, rfl, hr6⟩ := (k6 rfl).1 x6.1 x6.2 e6
  rw [Option.bind_some]
  rw [h7]
  split
  · exact ⟨fun x r e => by simp at e, fun _ => rfl⟩
  · refine ⟨fun x r e => ?_, fun e => by simp at e⟩
    simp only [Option.some.injEq, Prod.mk.injEq] at e
    exact ⟨rfl, e.1, e.2.symm.trans hr6⟩
set_option maxHeartbeats 2000000 in
theorem clock_r (X : Nat) (s : ByteArray) (p : Nat) (b : Bool) (w : World) (hx : RdAt w X s p b) (hs : s.size ≤ maxLen) (hp : p ≤ s.size) : Calls Tryz.prog 81 #[.pointer (some ⟨X, 0, none⟩)] w fun e w' => ClQ X s p b w e w' := by
  have HX : Hid _ := hx
  clear hx
  go_enter Tryz.func81, Tryz.ntmps81
  go_wp2_with fail
  refine Calls.mono (in_r X s p b 0 24 _ HX.out hs hp) ?_
  rintro e w1 ⟨p1, b1, h, rfl, r1, h0, h1, k1⟩
  have H1 : Hid _ := And.intro r1 k1
  clear r1 k1
  go_wp2_with fail
  refine Calls.mono (take_r X s p1 b1 58 _ H1.out.1.x hs H1.out.1.le) ?_
  rintro e w2 ⟨p2, b2, rfl, r2, k2⟩
  have H2 : Hid _ := And.intro r2 k2
  clear r2 k2
  go_wp2_with fail
  refine Calls.mono (in_r X s p2 b2 0 59 _ H2.out.1.x hs H2.out.1.le) ?_
  rintro e w3 ⟨p3, b3, m, rfl, r3, m0, m1, k3⟩
  have H3 : Hid _ := And.intro r3 k3
  clear r3 k3
  go_wp2_with fail
  refine Calls.mono (take_r X s p3 b3 58 _ H3.out.1.x hs H3.out.1.le) ?_
  rintro e w4 ⟨p4, b4, rfl, r4, k4⟩
  have H4 : Hid _ := And.intro r4 k4
  clear r4 k4
  go_wp2_with fail
  refine Calls.mono (in_r X s p4 b4 0 59 _ H4.out.1.x hs H4.out.1.le) ?_
  rintro e w5 ⟨p5, b5, n, rfl, r5, n0, n1, k5⟩
  have H5 : Hid _ := And.intro r5 k5
  clear r5 k5
  go_wp2_with fail
  refine Calls.mono (fraction_r X s p5 b5 _ H5.out.1.x hs H5.out.1.le) ?_
  rintro e w6 ⟨p6, b6, f, rfl, r6, f0, f1, k6⟩
  have H6 : Hid _ := And.intro r6 k6
  obtain ⟨x0, x1, x2, y0, y1, y2⟩ := r6.x.cells
  clear r6 k6
  have HE : Hid (∀ w' b7 V, V = 3600 * h + 60 * m + n → RP X s b6 w6 w' p6 b7 → (b7 = if h = 24 ∧ (0 < m ∨ 0 < n ∨ 0 < f) then true else b6) → ClQ X s p b w (.returned (.tuple #[.int .i64 V, .int .i64 f])) w') := (fun w' b7 V hV r7 h7 =>
    ⟨p6, b7, V, f, rfl, H1.out.1.trans (H2.out.1.trans (H3.out.1.trans (H4.out.1.trans (H5.out.1.trans (H6.out.1.trans r7))))), by omega, by omega, f0, f1, fun hb => by
      rw [hV]; exact cl_ch (H1.out.2 hb) H2.out.2 H3.out.2 H4.out.2 H5.out.2 H6.out.2 H2.out.1.st H3.out.1.st H4.out.1.st H5.out.1.st H6.out.1.st h7⟩ : ∀ w' b7 V, V = 3600 * h + 60 * m + n → RP X s b6 w6 w' p6 b7 → (b7 = if h = 24 ∧ (0 < m ∨ 0 < n ∨ 0 < f) then true else b6) → ClQ X s p b w (.returned (.tuple #[.int .i64 V, .int .i64 f])) w')
  have HR : Hid (RP X s b6 w6 w6 p6 b6) := (⟨H6.out.1.x, H6.out.1.le, Fro.refl _ _, fun h => h⟩ : RP X s b6 w6 w6 p6 b6)
  by_cases c1 : h = 24
  · have d1 : (h == 24) = true := by simpa using c1
    by_cases c2 : 0 < m
    · have d2 : decide (0 < m) = true := by simpa using c2
      go_wp2_with fail
      go_ret2
      exact HE.out _ true _ (by omega) HR.out.bad (by rw [if_pos ⟨c1, .inl c2⟩])
    · have d2 : decide (0 < m) = false := by simpa using c2
      by_cases c3 : 0 < n
      · have d3 : decide (0 < n) = true := by simpa using c3
        go_wp2_with fail
        go_ret2
        exact HE.out _ true _ (by omega) HR.out.bad (by rw [if_pos ⟨c1, .inr (.inl c3)⟩])
      · have d3 : decide (0 < n) = false := by simpa using c3
        by_cases c4 : 0 < f
        · have d4 : decide (0 < f) = true := by simpa using c4
          go_wp2_with fail
          go_ret2
          exact HE.out _ true _ (by omega) HR.out.bad (by rw [if_pos ⟨c1, .inr (.inr c4)⟩])
        · have d4 : decide (0 < f) = false := by simpa using c4
          go_wp2_with fail
          go_ret2
          exact HE.out _ b6 _ (by omega) HR.out (by rw [if_neg (by omega)])
  · have d1 : (h == 24) = false := by simpa using c1
    go_wp2_with fail
    go_ret2
    exact HE.out _ b6 _ (by omega) HR.out (by rw [if_neg (by omega)])
end Go.Proofs.YtgaegajcejpmdaaGreatDoor.Dt
namespace Go.Proofs.YtgaegajcejpmdaaGreatDoor.Dt
open Go.RowKit
set_option linter.unusedVariables false

def PtQ (X : Nat) (s : ByteArray) (p : Nat) (b : Bool) (c : Int) (w : World) (e : Ending) (w' : World) : Prop :=
  ∃ (p' : Nat) (b' : Bool) (v : Int) (t : Bool), e = .returned (.tuple #[.int .i64 v, .bool t]) ∧ RP X s b w w' p' b' ∧ 0 ≤ v ∧ v < 1000000000 ∧
    (b = false → StV (ptB c ((bl s).drop p)) s p' b' (v, t))
theorem pt_is (s : ByteArray) (p : Nat) (c : Int) : ptB c ((bl s).drop p) = if dgs ((bl s).drop p) = 0 ∨ isB (bl s) (p + dgs ((bl s).drop p)) c = false then some ((0, false), (bl s).drop p) else if 9 < dgs ((bl s).drop p) then none else some ((dvl (((bl s).drop p).take (dgs ((bl s).drop p))), true), (bl s).drop (p + dgs ((bl s).drop p) + 1)) := by
  have h : (isB (bl s) (p + dgs ((bl s).drop p)) c = false) = ((((bl s).drop p).drop (dgs ((bl s).drop p))).head? ≠ some c) := by unfold isB; rw [List.drop_drop]; simp
  simp only [h]
  unfold ptB
  rw [List.drop_drop (i := dgs ((bl s).drop p) + 1)]
  rfl
set_option maxHeartbeats 2000000 in
theorem part_r (X : Nat) (s : ByteArray) (p : Nat) (b : Bool) (c : Int) (w : World) (hx : RdAt w X s p b) (hs : s.size ≤ maxLen) (hp : p ≤ s.size) : Calls Tryz.prog 74 #[.pointer (some ⟨X, 0, none⟩), .int .u8 c] w fun e w' => PtQ X s p b c w e w' := by
  have hnum := hs
  unfold maxLen at hnum
  have q1 := digits_r X s p b w hx hs hp
  have q3 := fun (W' : World) (h : RdAt W' X s p false) (h9 : dgs ((bl s).drop p) ≤ 9) => number_ok X s p (dgs ((bl s).drop p)) W' h hs hp h9
  unfold NmP at q3
  have hY := pt_is s p c
  have hKl := dgs_len ((bl s).drop p)
  rw [dr_len] at hKl
  have hvb : dgs ((bl s).drop p) ≤ 9 → 0 ≤ dvl (((bl s).drop p).take (dgs ((bl s).drop p))) ∧ dvl (((bl s).drop p).take (dgs ((bl s).drop p))) < 1000000000 := fun h => dvl_bd (Nat.le_refl _) h
  obtain ⟨v, hv⟩ : ∃ v, dvl (((bl s).drop p).take (dgs ((bl s).drop p))) = v := ⟨_, rfl⟩
  rw [hv] at hY hvb q3
  clear hv
  generalize dgs ((bl s).drop p) = K at *
  have hfx : ∀ (q : Nat), RdAt (w.drewN q) X s p b := fun q => hx.drew q
  have HX : Hid _ := And.intro hfx (And.intro q1 (And.intro q3 hY))
  obtain ⟨g0, g1, g2, f0, f1, f2⟩ := hx.cells
  clear hfx q1 q3 hY hx
  cases b
  · by_cases c1 : K = 0
    · subst c1
      have hP : ptB c ((bl s).drop p) = some ((0, false), (bl s).drop p) := by rw [HX.out.2.2.2, if_pos (.inl rfl)]
      have HP : Hid _ := hP
      clear hP
      go_enter Tryz.func74, Tryz.ntmps74
      go_wp2_with fail
      refine Calls.mono HX.out.2.1 ?_
      rintro e w1 ⟨rfl, q, rfl⟩
      go_wp2_with fail
      go_quiet (fail)
      go_wp2_with fail
      go_ret2
      exact ⟨p, false, 0, false, rfl, ⟨HX.out.1 0, hp, ((Fro.refl (fun i => i = X) w).drewN _).drewN _, fun h => h⟩, by omega, by omega, fun _ => ⟨fun x r e => by rw [HP.out] at e; simp at e; exact ⟨rfl, e.1, e.2.symm⟩, fun e => by rw [HP.out] at e; simp at e⟩⟩
    · obtain ⟨P, hPK⟩ : ∃ P : Nat, p + K = P := ⟨_, rfl⟩
      have hsum : (p : Int) + (K : Int) = (P : Int) := by omega
      have hwr : IntKind.i64.wrap ((p : Int) + (K : Int)) = (P : Int) := by rw [IntKind.wrap_i64]; omega
      have d1 : ((K : Int) == 0) = false := by simp; omega
      by_cases c2 : s.size ≤ P
      · have d2 : decide ((s.size : Int) ≤ (P : Int)) = true := by simp; omega
        have hP : ptB c ((bl s).drop p) = some ((0, false), (bl s).drop p) := by rw [HX.out.2.2.2, if_pos (.inr (by rw [hPK]; exact isB_no c2 c))]
        have HP : Hid _ := hP
        clear hP
        go_enter Tryz.func74, Tryz.ntmps74
        go_wp2_with fail
        refine Calls.mono HX.out.2.1 ?_
        rintro e w1 ⟨rfl, q, rfl⟩
        go_wp2_with fail
        go_quiet (fail)
        go_wp2_with fail
        go_ret2
        exact ⟨p, false, 0, false, rfl, ⟨HX.out.1 0, hp, ((Fro.refl (fun i => i = X) w).drewN _).drewN _, fun h => h⟩, by omega, by omega, fun _ => ⟨fun x r e => by rw [HP.out] at e; simp at e; exact ⟨rfl, e.1, e.2.symm⟩, fun e => by rw [HP.out] at e; simp at e⟩⟩
      · have d2 : decide ((s.size : Int) ≤ (P : Int)) = false := by simp; omega
        have hPs : P < s.size := by omega
        have hC := isB_at hPs c
        have hY2 : ptB c ((bl s).drop p) = if K = 0 ∨ isB (bl s) P c = false then some ((0, false), (bl s).drop p) else if 9 < K then none else some ((v, true), (bl s).drop (P + 1)) := by rw [HX.out.2.2.2, hPK]
        have HY2 : Hid _ := hY2
        clear hY2
        generalize hCC : s[P] = C at *
        by_cases c3 : (C.toNat : Int) = c
        · have d3 : ((C.toNat : Int) != c) = false := by simpa using c3
          have d3' : ((C.toNat : Int) == c) = true := by simpa using c3
          rw [d3'] at hC
          have hn2 : ¬ (K = 0 ∨ isB (bl s) P c = false) := fun q => q.elim c1 (fun q => by rw [hC] at q; simp at q)
          by_cases c4 : 9 < K
          · have d4 : decide (9 < (K : Int)) = true := by simp; omega
            have hP : ptB c ((bl s).drop p) = none := by rw [HY2.out, if_neg hn2, if_pos c4]
            have HP : Hid _ := hP
            clear hP hC hn2 c3 d3' hPK
            go_enter Tryz.func74, Tryz.ntmps74
            go_wp2_with fail
            refine Calls.mono HX.out.2.1 ?_
            rintro e w1 ⟨rfl, q, rfl⟩
            go_wp2_with fail
            go_quiet (fail)
            go_wp2_with fail
            go_ret2
            exact ⟨p, true, 0, false, rfl, ⟨(HX.out.1 _).bad true, hp, ((Fro.refl (fun i => i = X) w).drewN _).set (Or.inl rfl) _, fun _ => rfl⟩, by omega, by omega, fun _ => ⟨fun x r e => by rw [HP.out] at e; simp at e, fun _ => rfl⟩⟩
          · have d4 : decide (9 < (K : Int)) = false := by simp; omega
            have hP : ptB c ((bl s).drop p) = some ((v, true), (bl s).drop (P + 1)) := by rw [HY2.out, if_neg hn2, if_neg c4]
            obtain ⟨hv0, hv1⟩ := hvb (by omega)
            have HP : Hid _ := And.intro hP hPK
            clear hP hC hn2 c3 d3' hPK
            go_enter Tryz.func74, Tryz.ntmps74
            go_wp2_with fail
            refine Calls.mono HX.out.2.1 ?_
            rintro e w1 ⟨rfl, q, rfl⟩
            go_wp2_with fail
            go_quiet (fail)
            go_wp2_with fail
            refine Calls.mono (HX.out.2.2.1 _ (HX.out.1 _) (by omega)) ?_
            rintro e w3 (⟨hd, rfl, hr⟩ | ⟨hd, rfl, hr⟩)
            · exact absurd hd (by omega)
            · rw [HP.out.2] at hr
              obtain ⟨g0', g1', g2', f0', f1', f2'⟩ := hr.x.cells
              have HRR : Hid _ := hr
              clear hr hd
              go_wp2_with fail
              go_ret2
              exact ⟨P + 1, false, v, true, rfl, ⟨HRR.out.x.at (P + 1), hPs, ((Fro.refl (fun i => i = X) w).drewN _).trans (HRR.out.fr.set (Or.inl rfl) _), fun h => h⟩, hv0, hv1, fun _ => ⟨fun x r e => by rw [HP.out.1] at e; simp at e; exact ⟨rfl, e.1, e.2.symm⟩, fun e => by rw [HP.out.1] at e; simp at e⟩⟩
        · have d3 : ((C.toNat : Int) != c) = true := by simpa using c3
          have d3' : ((C.toNat : Int) == c) = false := by simpa using c3
          rw [d3'] at hC
          have hP : ptB c ((bl s).drop p) = some ((0, false), (bl s).drop p) := by rw [HY2.out, if_pos (.inr hC)]
          have HP : Hid _ := hP
          clear hP hC c3 d3' hPK
          go_enter Tryz.func74, Tryz.ntmps74
          go_wp2_with fail
          refine Calls.mono HX.out.2.1 ?_
          rintro e w1 ⟨rfl, q, rfl⟩
          go_wp2_with fail
          go_quiet (fail)
          go_wp2_with fail
          go_ret2
          exact ⟨p, false, 0, false, rfl, ⟨HX.out.1 0, hp, ((Fro.refl (fun i => i = X) w).drewN _).drewN _, fun h => h⟩, by omega, by omega, fun _ => ⟨fun x r e => by rw [HP.out] at e; simp at e; exact ⟨rfl, e.1, e.2.symm⟩, fun e => by rw [HP.out] at e; simp at e⟩⟩
  · go_enter Tryz.func74, Tryz.ntmps74
    go_wp2_with fail
    refine Calls.mono HX.out.2.1 ?_
    rintro e w1 ⟨rfl, q, rfl⟩
    go_wp2_with fail
    go_quiet (fail)
    go_wp2_with fail
    go_ret2
    exact ⟨p, true, 0, false, rfl, ⟨HX.out.1 0, hp, ((Fro.refl (fun i => i = X) w).drewN _).drewN _, fun h => h⟩, by omega, by omega, fun h => absurd h (by simp)⟩
end Go.Proofs.YtgaegajcejpmdaaGreatDoor.Dt
namespace Go.Proofs.YtgaegajcejpmdaaGreatDoor.Dt
open Go.RowKit
set_option linter.unusedVariables false

/-- The reader beside the moment that it fills. -/
structure ZS (w W : World) (X Y : Nat) (s : ByteArray) (p : Nat) (b : Bool) (a : Mo) : Prop where
  x : RdAt W X s p b
  le : p ≤ s.size
  y : W.heap[Y]? = some (.cells (moC a) 44 (0, 0))
  ne : X ≠ Y
  fr : Fro (fun i => i = X ∨ i = Y) w W
theorem ZS.drewN {w W : World} {X Y : Nat} {s : ByteArray} {p : Nat} {b : Bool} {a : Mo} (h : ZS w W X Y s p b a) (q : Nat) : ZS w (W.drewN q) X Y s p b a := ⟨h.x, h.le, h.y, h.ne, h.fr.drewN q⟩
theorem ZS.rp {w W W' : World} {X Y : Nat} {s : ByteArray} {p p' : Nat} {b b' : Bool} {a : Mo} (h : ZS w W X Y s p b a) (r : RP X s b W W' p' b') : ZS w W' X Y s p' b' a :=
  ⟨r.x, r.le, (r.fr.block Y (lt_of h.y) (fun e => h.ne e.symm)).trans h.y, h.ne, h.fr.trans (r.fr.mono fun i _ e => .inl e)⟩
theorem ZS.at {w W : World} {X Y : Nat} {s : ByteArray} {p : Nat} {b : Bool} {a : Mo} (h : ZS w W X Y s p b a) (p' : Nat) (hp : p' ≤ s.size) : ZS w (W.setCell ⟨X, 1, none⟩ (.int .i64 (p' : Int))) X Y s p' b a :=
  ⟨h.x.at p', hp, (Below.heap_setCell _ _ _ _ (fun e => h.ne e.symm)).trans h.y, h.ne, h.fr.set (.inl (.inl rfl)) _⟩
theorem ZS.bad {w W : World} {X Y : Nat} {s : ByteArray} {p : Nat} {b : Bool} {a : Mo} (h : ZS w W X Y s p b a) : ZS w (W.setCell ⟨X, 2, none⟩ (.bool true)) X Y s p true a :=
  ⟨h.x.bad true, h.le, (Below.heap_setCell _ _ _ _ (fun e => h.ne e.symm)).trans h.y, h.ne, h.fr.set (.inl (.inl rfl)) _⟩
theorem ZS.setY {w W : World} {X Y : Nat} {s : ByteArray} {p : Nat} {b : Bool} {a a' : Mo} (h : ZS w W X Y s p b a) (i : Nat) (v : Value) (e : (moC a).setIfInBounds i v = moC a') : ZS w (W.setCell ⟨Y, i, none⟩ v) X Y s p b a' :=
  ⟨(Below.heap_setCell _ _ _ _ h.ne).trans h.x, h.le, by rw [← e]; exact bset h.y v, h.ne, h.fr.set (.inl (.inr rfl)) _⟩
theorem ZS.hz {w W : World} {X Y : Nat} {s : ByteArray} {p : Nat} {b : Bool} {a : Mo} (h : ZS w W X Y s p b a) (v : Bool) : ZS w (W.setCell ⟨Y, 6, none⟩ (.bool v)) X Y s p b { a with hz := v } := h.setY 6 _ rfl
theorem ZS.z {w W : World} {X Y : Nat} {s : ByteArray} {p : Nat} {b : Bool} {a : Mo} (h : ZS w W X Y s p b a) (v : Int) : ZS w (W.setCell ⟨Y, 7, none⟩ (.int .i64 v)) X Y s p b { a with z := v } := h.setY 7 _ rfl
theorem ZS.cells {w W : World} {X Y : Nat} {s : ByteArray} {p : Nat} {b : Bool} {a : Mo} (h : ZS w W X Y s p b a) : (W.cell? ⟨Y, 6, none⟩ = some (.bool a.hz) ∧ W.cell? ⟨Y, 7, none⟩ = some (.int .i64 a.z)) ∧ W.frozen? ⟨Y, 6, none⟩ = false ∧ W.frozen? ⟨Y, 7, none⟩ = false := by
  refine ⟨⟨?_, ?_⟩, ?_, ?_⟩ <;> simp [World.cell?, World.frozen?, h.y]
theorem ZS.ex {w W : World} {X Y : Nat} {s : ByteArray} {p : Nat} {b : Bool} {a : Mo} (h : ZS w W X Y s p b a) : ∃ W', W = W' ∧ ZS w W' X Y s p b a := ⟨W, rfl, h⟩
/-- What zone leaves. -/
def ZnV (o : Option (Bool × Int)) (s : ByteArray) (p' : Nat) (b' : Bool) (hz : Bool) (z : Int) : Prop :=
  (∀ x, o = some x → b' = false ∧ p' = s.size ∧ hz = x.1 ∧ z = x.2) ∧ (o = none → b' = true ∨ p' < s.size)
def ZnQ (X Y : Nat) (s : ByteArray) (p : Nat) (b : Bool) (a : Mo) (w : World) (e : Ending) (w' : World) : Prop :=
  ∃ (p' : Nat) (b' : Bool) (hz : Bool) (z : Int), e = .returned (.tuple #[]) ∧ ZS w w' X Y s p' b' { a with hz := hz, z := z } ∧ (b = true → b' = true) ∧ -10000 < z ∧ z < 10000 ∧ (b = false → ZnV (znB ((bl s).drop p)) s p' b' hz z)
def znS (neg : Bool) (l : List Int) : Option (Bool × Int) :=
  (inB 0 14 l).bind fun h => (tkB 58 h.2).bind fun l1 => (inB 0 59 l1).bind fun n =>
    if (h.1 = 14 ∧ 0 < n.1) ∨ n.2 ≠ [] then none else some (true, if neg = true then -(60 * h.1 + n.1) else 60 * h.1 + n.1)
theorem zn_ch {s : ByteArray} {P p1 p2 p3 : Nat} {b1 b2 b3 b4 neg : Bool} {h n : Int} (le3 : p3 ≤ s.size)
    (k1 : StV (inB 0 14 ((bl s).drop P)) s p1 b1 h) (k2 : StT (tkB 58 ((bl s).drop p1)) s p2 b1 b2) (k3 : b2 = false → StV (inB 0 59 ((bl s).drop p2)) s p3 b3 n)
    (t2 : b1 = true → b2 = true) (t3 : b2 = true → b3 = true) (h4 : b4 = if h = 14 ∧ 0 < n then true else b3) :
    ZnV (znS neg ((bl s).drop P)) s p3 b4 true (if neg = true then -(60 * h + n) else 60 * h + n) := by
  have t4 : b3 = true → b4 = true := fun e => by rw [h4]; split <;> simp [e]
  unfold znS
  cases e1 : inB 0 14 ((bl s).drop P) with
  | none => exact ⟨fun x e => by simp at e, fun _ => .inl (t4 (t3 (t2 (k1.2 e1))))⟩
  | some x1 =>
  obtain ⟨rfl, rfl, hr1⟩ := k1.1 x1.1 x1.2 e1
  rw [Option.bind_some, hr1]
  cases e2 : tkB 58 ((bl s).drop p1) with
  | none => exact ⟨fun x e => by simp at e, fun _ => .inl (t4 (t3 (k2.2 e2)))⟩
  | some x2 =>
  obtain ⟨rfl, hr2⟩ := k2.1 x2 e2
  rw [Option.bind_some, hr2]
  cases e3 : inB 0 59 ((bl s).drop p2) with
  | none => exact ⟨fun x e => by simp at e, fun _ => .inl (t4 ((k3 rfl).2 e3))⟩
  | some x3 =>
  obtain ⟨rfl, rfl, hr3⟩ := (k3 rfl).1 x3.1 x3.2 e3
  rw [Option.bind_some, hr3, h4]
  have hemp : ((bl s).drop p3 ≠ []) ↔ p3 < s.size := by
    rw [Ne, List.drop_eq_nil_iff, bl_len]; omega
  by_cases c1 : x1.1 = 14 ∧ 0 < x3.1
  · rw [if_pos (.inl c1), if_pos c1]
    exact ⟨fun x e => by simp at e, fun _ => .inl rfl⟩
  · rw [if_neg c1]
    by_cases c2 : p3 < s.size
    · rw [if_pos (.inr (hemp.2 c2))]
      exact ⟨fun x e => by simp at e, fun _ => .inr c2⟩
    · rw [if_neg (fun q => q.elim c1 (fun q => c2 (hemp.1 q)))]
      refine ⟨fun x e => ?_, fun e => by simp at e⟩
      obtain rfl := Option.some.inj e
      exact ⟨rfl, by omega, rfl, rfl⟩
theorem zn_nil {s : ByteArray} {p : Nat} (h : s.size ≤ p) : znB ((bl s).drop p) = some (false, 0) := by
  rw [List.drop_eq_nil_of_le (by rw [bl_len]; exact h)]; rfl
theorem zn_Z {s : ByteArray} {p : Nat} (hp : p < s.size) (h : isB (bl s) p 90 = true) : znB ((bl s).drop p) = if s.size ≤ p + 1 then some (true, 0) else none := by
  have h90 : ((bl s).drop p).head? = some 90 := by unfold isB at h; simpa using h
  have hne : (bl s).drop p ≠ [] := by rw [Ne, List.drop_eq_nil_iff, bl_len]; omega
  unfold znB
  rw [if_neg hne, if_pos h90, List.tail_drop]
  by_cases c : s.size ≤ p + 1
  · rw [if_pos c, if_pos (by rw [List.drop_eq_nil_iff, bl_len]; omega)]
  · rw [if_neg c, if_neg (by rw [List.drop_eq_nil_iff, bl_len]; omega)]
theorem zn_S {s : ByteArray} {p : Nat} (hp : p < s.size) (h : isB (bl s) p 90 = false) (neg : Bool) (hn : isB (bl s) p 45 = neg) (hg : neg = true ∨ isB (bl s) p 43 = true) : znB ((bl s).drop p) = znS neg ((bl s).drop (p + 1)) := by
  have h90 : ((bl s).drop p).head? ≠ some 90 := by unfold isB at h; simpa using h
  have hne : (bl s).drop p ≠ [] := by rw [Ne, List.drop_eq_nil_iff, bl_len]; omega
  have h45 : (((bl s).drop p).head? = some 45) = (neg = true) := by unfold isB at hn; rw [← hn]; simp
  have h43 : (((bl s).drop p).head? = some 43) = (isB (bl s) p 43 = true) := by unfold isB; simp
  unfold znB znS
  rw [if_neg hne, if_neg h90, List.tail_drop]
  simp only [h45, h43]
  rw [if_pos hg]
theorem zn_no {s : ByteArray} {p : Nat} (hp : p < s.size) (h : isB (bl s) p 90 = false) (hn : isB (bl s) p 45 = false) (hg : isB (bl s) p 43 = false) : znB ((bl s).drop p) = none := by
  have h90 : ((bl s).drop p).head? ≠ some 90 := by unfold isB at h; simpa using h
  have hne : (bl s).drop p ≠ [] := by rw [Ne, List.drop_eq_nil_iff, bl_len]; omega
  have h45 : ((bl s).drop p).head? ≠ some 45 := by unfold isB at hn; simpa using hn
  have h43 : ((bl s).drop p).head? ≠ some 43 := by unfold isB at hg; simpa using hg
  unfold znB
  rw [if_neg hne, if_neg h90, if_neg (fun q => q.elim h45 h43)]
end Go.Proofs.YtgaegajcejpmdaaGreatDoor.Dt
namespace Go.Proofs.YtgaegajcejpmdaaGreatDoor.Dt
open Go.RowKit
set_option linter.unusedVariables false

set_option maxHeartbeats 2000000 in
theorem zone_r (X Y : Nat) (s : ByteArray) (p : Nat) (b : Bool) (k y m d sc n : Int) (w : World) (h : ZS w w X Y s p b ⟨k, y, m, d, sc, n, false, 0⟩) (hs : s.size ≤ maxLen) : Calls Tryz.prog 82 #[.pointer (some ⟨X, 0, none⟩), .pointer (some ⟨Y, 0, none⟩)] w fun e w' => ZnQ X Y s p b ⟨k, y, m, d, sc, n, false, 0⟩ w e w' := by
  have hnum := hs
  unfold maxLen at hnum
  obtain ⟨g0, g1, g2, f0, f1, f2⟩ := h.x.cells
  obtain ⟨⟨m6, m7⟩, n6, n7⟩ := h.cells
  have hle := h.le
  have HX : Hid _ := h
  clear h
  cases b
  · by_cases hpe : p = s.size
    · have d1 : ((p : Int) == (s.size : Int)) = true := by simp; omega
      have hZ := zn_nil (s := s) (p := p) (by omega)
      have HZ : Hid _ := hZ
      clear hZ
      go_enter Tryz.func82, Tryz.ntmps82
      go_wp2_with fail
      go_quiet (fail)
      go_wp2_with fail
      refine bodyPost_ret (v := .tuple #[]) (by simp [results, Tryz.results82, go_sem]) rfl ?_
      exact ⟨p, false, false, 0, rfl, HX.out.drewN _, fun h => h, by omega, by omega, fun _ => ⟨fun x e => by rw [HZ.out] at e; obtain rfl := Option.some.inj e; exact ⟨rfl, hpe, rfl, rfl⟩, fun e => by rw [HZ.out] at e; simp at e⟩⟩
    · have d1 : ((p : Int) == (s.size : Int)) = false := by simp; omega
      have hlt : p < s.size := by omega
      go_enter Tryz.func82, Tryz.ntmps82
      go_wp2_with fail
      go_quiet (fail)
      go_upto_region 2 with fail
      obtain ⟨W, hW, HZ0⟩ := ZS.ex ((HX.out.drewN nq).hz true)
      rw [hW]
      clear hW g0 g1 g2 f0 f1 f2 m6 m7 n6 n7
      have q1 := is_r X s p false 90 W HZ0.x hs
      generalize hI : isB (bl s) p 90 = I at q1
      have HZ : Hid _ := And.intro HZ0 (And.intro q1 hI)
      clear HZ0 q1 hI HX
      cases I
      · go_wp2_with fail
        refine Calls.mono HZ.out.2.1 ?_
        rintro e w1 ⟨rfl, q, rfl⟩
        have HA : Hid _ := HZ.out.1.drewN q
        generalize W.drewN q = W1 at *
        have q2 := is_r X s p false 45 W1 HA.out.x hs
        generalize hJ : isB (bl s) p 45 = J at q2
        have HJ : Hid _ := And.intro q2 hJ
        clear q2 hJ
        cases J
        · go_wp2_with fail
          refine Calls.mono HJ.out.1 ?_
          rintro e w2 ⟨rfl, q2, rfl⟩
          have HB : Hid _ := HA.out.drewN q2
          generalize W1.drewN q2 = W2 at *
          have q3 := is_r X s p false 43 W2 HB.out.x hs
          generalize hL : isB (bl s) p 43 = L at q3
          have HL : Hid _ := And.intro q3 hL
          clear q3 hL
          cases L
          · go_wp2_with fail
            refine Calls.mono HL.out.1 ?_
            rintro e w3 ⟨rfl, q3, rfl⟩
            obtain ⟨g0, g1, g2, f0, f1, f2⟩ := (ZS.drewN HB.out q3).x.cells
            have hno := zn_no hlt HZ.out.2.2 HJ.out.2 HL.out.2
            have HN : Hid _ := hno
            clear hno
            go_wp2_with fail
            refine bodyPost_ret (v := .tuple #[]) (by simp [results, Tryz.results82, go_sem]) rfl ?_
            exact ⟨p, true, true, 0, rfl, (ZS.drewN HB.out q3).bad, fun _ => rfl, by omega, by omega, fun _ => ⟨fun x e => by rw [HN.out] at e; simp at e, fun _ => .inl rfl⟩⟩
          · go_wp2_with fail
            refine Calls.mono HL.out.1 ?_
            rintro e w3 ⟨rfl, q3, rfl⟩
            have hzs := zn_S hlt HZ.out.2.2 false HJ.out.2 (.inr HL.out.2)
            have HC : Hid _ := HB.out.drewN q3
            generalize W2.drewN q3 = W3 at *
            obtain ⟨g0, g1, g2, f0, f1, f2⟩ := HC.out.x.cells
            go_upto_region 8 with fail
            obtain ⟨W4, hW4, HD0⟩ := ZS.ex (ZS.at HC.out (p + 1) hlt)
            rw [show (((p + 1 : Nat) : Int)) = (p : Int) + 1 from rfl] at hW4
            rw [hW4]
            clear hW4 g0 g1 g2 f0 f1 f2
            have HD : Hid _ := And.intro HD0 hzs
            clear HD0 hzs
            go_wp2_with fail
            refine Calls.mono (in_r X s (p + 1) false 0 14 _ HD.out.1.x hs HD.out.1.le) ?_
            rintro e w1 ⟨p1, b1, hh, rfl, r1, h0, h1, k1⟩
            have H1 : Hid _ := And.intro (HD.out.1.rp r1) (And.intro r1 k1)
            clear r1 k1
            go_wp2_with fail
            refine Calls.mono (take_r X s p1 b1 58 _ H1.out.1.x hs H1.out.1.le) ?_
            rintro e w2 ⟨p2, b2, rfl, r2, k2⟩
            have H2 : Hid _ := And.intro (H1.out.1.rp r2) (And.intro r2 k2)
            clear r2 k2
            go_wp2_with fail
            refine Calls.mono (in_r X s p2 b2 0 59 _ H2.out.1.x hs H2.out.1.le) ?_
            rintro e w3 ⟨p3, b3, nn, rfl, r3, n0, n1, k3⟩
            have H3 : Hid _ := And.intro (H2.out.1.rp r3) (And.intro r3 k3)
            clear r3 k3
            obtain ⟨g0, g1, g2, f0, f1, f2⟩ := H3.out.1.x.cells
            obtain ⟨⟨m6, m7⟩, n6, n7⟩ := H3.out.1.cells
            have hne := H3.out.1.ne
            have HE : Hid (∀ w' b4 V, ZS w w' X Y s p3 b4 ⟨k, y, m, d, sc, n, true, V⟩ → V = 60 * hh + nn → (b4 = if hh = 14 ∧ 0 < nn then true else b3) → ZnQ X Y s p false ⟨k, y, m, d, sc, n, false, 0⟩ w (.returned (.tuple #[])) w') := (fun w' b4 V z4 hV h4 =>
              ⟨p3, b4, true, V, rfl, z4, fun h => absurd h (by simp), by omega, by omega, fun _ => by
                rw [HD.out.2, hV]; exact zn_ch (neg := false) H3.out.1.le (H1.out.2.2 (by simp)) H2.out.2.2 H3.out.2.2 H2.out.2.1.st H3.out.2.1.st h4⟩ : ∀ w' b4 V, ZS w w' X Y s p3 b4 ⟨k, y, m, d, sc, n, true, V⟩ → V = 60 * hh + nn → (b4 = if hh = 14 ∧ 0 < nn then true else b3) → ZnQ X Y s p false ⟨k, y, m, d, sc, n, false, 0⟩ w (.returned (.tuple #[])) w')
            by_cases c1 : hh = 14
            · subst c1
              by_cases c2 : 0 < nn
              · have d2 : decide (0 < nn) = true := by simpa using c2
                go_wp2_with fail
                refine bodyPost_end (v := .tuple #[]) (by simp [results, Tryz.results82, go_sem]) rfl ?_
                exact HE.out _ true _ (ZS.z (ZS.bad H3.out.1) _) (by omega) (by simp [show 0 < nn by omega])
              · have d2 : decide (0 < nn) = false := by simpa using c2
                go_wp2_with fail
                refine bodyPost_end (v := .tuple #[]) (by simp [results, Tryz.results82, go_sem]) rfl ?_
                exact HE.out _ b3 _ (ZS.z H3.out.1 _) (by omega) (by simp [show ¬ 0 < nn by omega])
            · have d1 : (hh == 14) = false := by simpa using c1
              go_wp2_with fail
              refine bodyPost_end (v := .tuple #[]) (by simp [results, Tryz.results82, go_sem]) rfl ?_
              exact HE.out _ b3 _ (ZS.z H3.out.1 _) (by omega) (by simp [c1])
        · go_wp2_with fail
          refine Calls.mono HJ.out.1 ?_
          rintro e w2 ⟨rfl, q2, rfl⟩
          have hzs := zn_S hlt HZ.out.2.2 true HJ.out.2 (.inl rfl)
          have HC : Hid _ := HA.out.drewN q2
          generalize W1.drewN q2 = W3 at *
          obtain ⟨g0, g1, g2, f0, f1, f2⟩ := HC.out.x.cells
          go_upto_region 8 with fail
          obtain ⟨W4, hW4, HD0⟩ := ZS.ex (ZS.at HC.out (p + 1) hlt)
          rw [show (((p + 1 : Nat) : Int)) = (p : Int) + 1 from rfl] at hW4
          rw [hW4]
          clear hW4 g0 g1 g2 f0 f1 f2
          have HD : Hid _ := And.intro HD0 hzs
          clear HD0 hzs
          go_wp2_with fail
          refine Calls.mono (in_r X s (p + 1) false 0 14 _ HD.out.1.x hs HD.out.1.le) ?_
          rintro e w1 ⟨p1, b1, hh, rfl, r1, h0, h1, k1⟩
          have H1 : Hid _ := And.intro (HD.out.1.rp r1) (And.intro r1 k1)
          clear r1 k1
          go_wp2_with fail
          refine Calls.mono (take_r X s p1 b1 58 _ H1.out.1.x hs H1.out.1.le) ?_
          rintro e w2 ⟨p2, b2, rfl, r2, k2⟩
          have H2 : Hid _ := And.intro (H1.out.1.rp r2) (And.intro r2 k2)
          clear r2 k2
          go_wp2_with fail
          refine Calls.mono (in_r X s p2 b2 0 59 _ H2.out.1.x hs H2.out.1.le) ?_
          rintro e w3 ⟨p3, b3, nn, rfl, r3, n0, n1, k3⟩
          have H3 : Hid _ := And.intro (H2.out.1.rp r3) (And.intro r3 k3)
          clear r3 k3
          obtain ⟨g0, g1, g2, f0, f1, f2⟩ := H3.out.1.x.cells
          obtain ⟨⟨m6, m7⟩, n6, n7⟩ := H3.out.1.cells
          have hne := H3.out.1.ne
          have HE : Hid (∀ w' b4 V, ZS w w' X Y s p3 b4 ⟨k, y, m, d, sc, n, true, V⟩ → V = -(60 * hh + nn) → (b4 = if hh = 14 ∧ 0 < nn then true else b3) → ZnQ X Y s p false ⟨k, y, m, d, sc, n, false, 0⟩ w (.returned (.tuple #[])) w') := (fun w' b4 V z4 hV h4 =>
            ⟨p3, b4, true, V, rfl, z4, fun h => absurd h (by simp), by omega, by omega, fun _ => by
              rw [HD.out.2, hV]; exact zn_ch (neg := true) H3.out.1.le (H1.out.2.2 (by simp)) H2.out.2.2 H3.out.2.2 H2.out.2.1.st H3.out.2.1.st h4⟩ : ∀ w' b4 V, ZS w w' X Y s p3 b4 ⟨k, y, m, d, sc, n, true, V⟩ → V = -(60 * hh + nn) → (b4 = if hh = 14 ∧ 0 < nn then true else b3) → ZnQ X Y s p false ⟨k, y, m, d, sc, n, false, 0⟩ w (.returned (.tuple #[])) w')
          by_cases c1 : hh = 14
          · subst c1
            by_cases c2 : 0 < nn
            · have d2 : decide (0 < nn) = true := by simpa using c2
              go_wp2_with fail
              refine bodyPost_end (v := .tuple #[]) (by simp [results, Tryz.results82, go_sem]) rfl ?_
              exact HE.out _ true _ (ZS.z (ZS.z (ZS.bad H3.out.1) _) _) (by omega) (by simp [show 0 < nn by omega])
            · have d2 : decide (0 < nn) = false := by simpa using c2
              go_wp2_with fail
              refine bodyPost_end (v := .tuple #[]) (by simp [results, Tryz.results82, go_sem]) rfl ?_
              exact HE.out _ b3 _ (ZS.z (ZS.z H3.out.1 _) _) (by omega) (by simp [show ¬ 0 < nn by omega])
          · have d1 : (hh == 14) = false := by simpa using c1
            go_wp2_with fail
            refine bodyPost_end (v := .tuple #[]) (by simp [results, Tryz.results82, go_sem]) rfl ?_
            exact HE.out _ b3 _ (ZS.z (ZS.z H3.out.1 _) _) (by omega) (by simp [c1])
      · go_wp2_with fail
        refine Calls.mono HZ.out.2.1 ?_
        rintro e w1 ⟨rfl, q, rfl⟩
        obtain ⟨g0, g1, g2, f0, f1, f2⟩ := (ZS.drewN HZ.out.1 q).x.cells
        have hz := zn_Z hlt HZ.out.2.2
        have HN : Hid _ := hz
        clear hz
        go_wp2_with fail
        refine bodyPost_ret (v := .tuple #[]) (by simp [results, Tryz.results82, go_sem]) rfl ?_
        refine ⟨p + 1, false, true, 0, rfl, (ZS.drewN HZ.out.1 q).at (p + 1) hlt, fun h => h, by omega, by omega, fun _ => ⟨fun x e => ?_, fun e => ?_⟩⟩
        · rw [HN.out] at e
          split at e
          · obtain rfl := Option.some.inj e
            exact ⟨rfl, by omega, rfl, rfl⟩
          · simp at e
        · rw [HN.out] at e
          split at e
          · simp at e
          · exact .inr (by omega)
  · go_enter Tryz.func82, Tryz.ntmps82
    go_wp2_with fail
    go_quiet (fail)
    go_wp2_with fail
    refine bodyPost_ret (v := .tuple #[]) (by simp [results, Tryz.results82, go_sem]) rfl ?_
    exact ⟨p, true, false, 0, rfl, HX.out.drewN _, fun h => h, by omega, by omega, fun h => absurd h (by simp)⟩
end Go.Proofs.YtgaegajcejpmdaaGreatDoor.Dt
